import PyProof.Rows.All
import Wide.All
import OpenK.AllK
import Wide.FinOn
import Lean
import PyProof.EqAt
import PyProof.EqKinds
import PyProof.TupleCall
import PySem.Challenge.RW_againbook_k34_within_calls
set_option Elab.async false
set_option linter.all false
set_option maxRecDepth 100000
set_option genSizeOf false
set_option compiler.extract_closed false
set_option bootstrap.genMatcherCode false
open Option renaming some->δ,none->θ,map_eq_some_iff->dg,isSome_iff_exists->mI
open List renaming toArray->ε,getElem?_eq_some_iff->ν,mem_singleton->υ,mem_append->Ξ,mem_cons->Φ,range->dB,mem_map->dN,lookup->ic,mem_append_right->iu,mem_iff_getElem->jq,getElem?_eq_getElem->kr,pairwise_cons->ks,replicate->kz,mem_append_left->mt,nodup_cons->mT,length->ri,mem_filter->rm,mem_range->ro,pairwise_iff_getElem->rx
open PySem renaming Value->ζ,Addr->η,Shared->ι,wpAny->π,Str->ρ,sizeLine->τ,model->χ,Program->ψ,starEach->Δ,mainGlobals->Ω,World->bU,Around->cc,Stmt->cv,strKind->cJ,Heap->de,Expr->dr,Builtin->ef,backTo->fJ,FuncData->hG,Obj->hY,Scope->ir,codeAny->kw,holding->lu,sizeLine->mu
open Bool renaming true->μ,false->ξ,eq_false_iff->mL
open Or renaming inl->ω,inr->ge
open PySem.Value renaming ref->Θ,none->β,type->fx,int->ii,str->lq,bool->ot
open PySem.Builtin.SmallTypes renaming nextOf->Ψ,ownedTupleIsFree->bF,ownedTupleHandOut->mB
open PySem.W renaming Frag->γ,keepIn->iv,methodObj->ov,takerIn->rb,OpenLaw->rc,fnOf->rs
open PySem.Obj renaming mapSeq->ab,mapFields->hJ,putSet->mF
open Array renaming getElem?_eq_some_iff->bm,toList->mS
open List.Pairwise renaming nil->dO
open PySem.Builtin.Tuple renaming tupleExact->eT,tupleItemsOf->pz
open PySem.Builtin.List renaming listSameRef->fr,listTooLong->fR,listExtendWith->ib,listLengthHint->kB,listSubscript?->qs,listAllItems->ra
open PySem.Heap renaming SameBut->fy,ExtBut->nI
open PySem.Builtin.Slice renaming slicePlaces->im,sliceAdjust->mm,sliceApplied->oS
open PySem.F renaming slot_zip_getattribute->ls,called_tuple->mU
local macro_rules|`(tactic|let $d:letDecl)=>`(tactic|have $d:letDecl)
local macro_rules|`(↑$a)=>`(some (.ref $a))
local macro_rules|`(tactic|let ⟨$x,*⟩:=$t)=>do{let y←x.getElems.mapM fun|`($i:ident)=>`(Lean.Parser.Tactic.rcasesPatLo|$i:ident)|_=>`(Lean.Parser.Tactic.rcasesPatLo|_);`(tactic|obtain ⟨$y,*⟩:=$t)}
theorem fj:0≤mu:=by decide
theorem iZ:1≤mu:=by decide
theorem cp:2≤mu:=by decide
theorem ie:3≤mu:=by decide
theorem pU:4≤mu:=by decide
set_option maxHeartbeats 4000000
open PySem.W (keepIn Frag nsIn kitOne fnOf mg_of codeIn findIn mroIn isFn mg_none_of kia_one typeIn emptyDict clsIn instObj hasDictIn kitAny specialIn callWith_K excIn lookIn plainGet notCls tailIn)
noncomputable section
theorem VU{p:Prop}(h:p:=by decide):p:=h
theorem VV{p:Prop}(h:p:=by omega):p:=h
theorem VW{p:Prop}(h:p:=by simp):p:=h
theorem VX{p:Prop}(h:p:=by decide +kernel):p:=h
theorem VY{p:Prop}(h:p:=by rfl):p:=h
theorem Z{α:Sort u}{a:α}:a=a:=rfl
open PySem renaming wpAny_bind->MU,wpAny_pure->MX,wpAny_holding->Np,wpAny_field->Nw,wpAny_call_entry->NC,wpAny_callSpecial?_slot->NE,wpAny_newObj_type->NF,builtinLookup_eq_fast->NM,boot_len->NO,wpAny_setField->NR,wpAny_Call_Name_kw->NT,wpAny_seqItems->N6,wpAny_mono->N7,typeLookup_type->Oo,codeAny_builtin->Op,mem_of_lookup->Ot,isSubtype_type->OD,wpAny_setState_of->OE,wpAny_specialOf->OF,wpAny_typeOf->OK,wpAny_rule->OV,plainId_quiet->OX,wpAny_isInstance->O0,sizeLine_eq->O3,wpAny_setField_rec->O7,wpAny_passesOwn->O8,wpAny_askSetting->Ph,codeAny_mono->Pj,wpAny_setEntries_of->Pp,wpAny_standAt->Pr,wpAny_newList->Pt,wpAny_attempt->Pu,wpAny_execs_nil->Pw,wpAny_pyIter_tuple->Pz,wpAny_truthy_bool->PR,wpAny_newTuple->PU,tupleKind_room_in1->Rm,wpAny_pyIter_list->RF,wpAny_of_eq->RG,fits_of_scanBound->RJ,entryFor_of_tree->RT,wpAny_updateSeq->R3,wpAny_fieldsOf->R9,isSubtype_stop->Sb,entryFor_alias->Sc,call_meets->Su,wpAny_sequenceKey->SG,wpAny_pyIter_slot->SH,wpAny_execs_cons->SX,noFill_tuple_add->SY,codeAny_of_tree->Tq,wpAny_runValue->Tw,wpAny_loadPart->Tx,wpAny_listPart->Tz,wpAny_call->TB,wpAny_onRaise->TQ,wpAny_comprehension_free->TR,seq_tuple_add->TU,wpAny_pyNext_list_item->T8,seqIndex_neg->Ub,concat_meets->Ud,call_meetsIn->Uf,callType_new->Ug,wpAny_pyNext_list_end->Uo,wpAny_isTrue_Compare1->Up,wpAny_updateSeq_pair->Ux,wpAny_loadName_local->Uy,wpAny_letGo->Uz,seqIndex_of->UA,codeAny_extend_loopS->UC,wpAny_loadName_cell->UK,wpAny_load->UX,wpAny_Name->UY,wpAny_storeSet_of->U0,wpAny_pyIter_enum->U1,wpAny_assign_Name->U2,wpAny_Assign_Name->U3,slot_list_setitem->U4,merged_length_le->Va,callType_codes->VM
open List renaming getElem?_eq_getElem->MV,length_map->MY,length_append->MZ,size_toArray->M1,mem_of_getElem?->Nc,getElem?_map->Ni,mem_append_right->Nk,map_append->Nl,mem_cons_self->No,length_take->Nq,mem_cons_of_mem->Nv,append_nil->Nx,not_mem_nil->Ny,length_cons->Nz,take_length->NJ,length_drop->NN,getD_eq_getElem?_getD->NZ,take_add_one->N0,lookup_cons->N9,getElem?_eq_none->Ob,map_cons->Oe,mem_of_mem_take->Om,mem_append_left->On,take_of_length_le->Ou,getElem_cons_drop->Ov,mem_cons->Oz,append_assoc->OB,getElem?_append_right->OJ,getElem?_append_left->ON,mem_append->OP,map_map->OQ,getElem?_set_ne->OR,drop_zero->OU,forIn_cons->O2,take_append_drop->O4,length_singleton->O5,find?_cons->Pl,filter_append->Po,take_sublist->Px,getElem?_set_self->Py,length_filter_le->PL,getElem?_reverse->PM,getElem_mem->PQ,map_take->PV,any_cons->PX,mem_singleton->P9,getElem?_drop->P',forIn_nil->Ra,reverse_cons->Ri,length_range->Rj,append_cancel_right->Rl,filter_cons_of_pos->Rq,filter_cons_of_neg->Rr,ext_getElem->Rs,append_cancel_left->Rt,all_eq_true->Ru,of_mem_zip->RO,length_replicate->RS,take_succ->RW,nodup_nil->RX,mem_of_mem_drop->RY,getElem?_of_mem->RZ,filterMap_cons->R6,map_inj_right->R8,getElem?_inj->Sj,eraseIdx_eq_take_drop_succ->Sm,length_zip->Sx,length_set->Sz,length_nil->SA,take_take->SV,length_eraseIdx_of_lt->SW,getElem?_zip_eq_some->Tb,map_drop->Tj,drop_nil->Tk,all_cons->Tl,getElem?_replicate->Ts,drop_eq_nil_of_le->Tt,length_reverse->TY,forIn_toArray->T5,any_eq_false->Ui,zipIdx_cons->Ur,filter_cons->Us,drop_length->Ut,append_inj'->Uu,any_eq_true->Uv,zipIdx_nil->UD,nodup_cons->UE,nil_append->UF,mem_filter->UG,drop_drop->UQ,map_nil->U7
open PySem.Heap renaming get?_push_of_some->MW,get?_push_size->M3,lt_size->M4,get?_update_other->Nj,get?_update_self->ND,size_push->NP,size_update->Ss,get?_update_ne->TZ
open Nat renaming le_refl->M0,zero_le->M6,ne_of_lt->Nb,le_trans->Ng,lt_of_lt_of_le->Nh,le_succ->NW,ne_of_gt->NY,lt_irrefl->N4,lt_of_le_of_lt->Ol,lt_succ_self->Oy,lt_succ_of_lt->OS,le_of_lt->OT,succ_le_succ->OZ,zero_add->Pa,le_max_right->Pb,le_add_right->Pd,min_eq_left->Pm,le_max_left->Pn,lt_of_succ_lt->PJ,not_lt_zero->P2,sub_self->P8,le_of_not_lt->RC,sub_zero->RM,lt_or_ge->RN,le_of_eq->Sl,min_le_left->SM,add_sub_cancel'->T4,le_add_left->UO,max_assoc->U5,add_zero->Vl,mod_lt->VR
open Bool renaming false_ne_true->M8,false_eq_true->Nf,and_eq_true->Of,not_true->PY,eq_iff_iff->RP,and_false->R0,or_false->Tn,not_eq_true'->Ul,eq_false_iff->Um,false_and->UW,true_or->U'
open PySem.F renaming plainAttrs_list->M',type_list_append->Nr,slot_list_append->Nt,slot_tuple_iterator_next->Oa,slot_zip_next->Og,type_list_extend->Oh,slot_list_extend->Oi,args_tuple_iterator_next_1->Pe,plain_list_iadd->Pf,args_zip_next_1->Pg,entry_tuple_iterator_next->Pk,entry_zip_next->Pq,args_object_init_2->P0,args_tuple_add_2->Rb,entry_tuple_add->Rh,slot_tuple_add->Ro,plainAttrs_str->Rp,type_str_join->Rx,slot_str_join->Ry,slot_dict_get->Rz,plain_proto_collect->Sq,entry_proto_collect->Sr,plain_extend_loop->Sw,plain_tuple_new->SO,plainAttrs_dict->SQ,entry_list_iadd->SR,args_dict_get_3->SU,entry_dict_get->Ta,slot_set_iter->Tg,slot_dict_pop->Th,plain_set_new->Ti,args_list_extend_2->Uk,entry_list_extend->Uw,slot_list_extend->UH
open Array renaming length_toList->Nn,getElem?_toList->Ow,getElem?_eq_getElem->OM,getElem?_eq_none->RE,size_append->Sf,toList_push->T7,size_map->UJ
open PySem.PassesOwn renaming never->Nu
open PySem.Obj renaming data_mapFields->NB,isFreed_of_fields->Oc,cls_mapFields->PH
open PyProof.Rows renaming callWith_type1->NG,boot_tuple->OG,slot_tuple_getitem->OL,listUpdate_at->P6,seqEpoch_at->RI,entry_list_sort->R4,slot_list_sort->Sa,boot_sorted->Sd,args_list_sort->Se,plain_sorted->SI,entry_sorted->SJ,args_sorted1->SK,kind_sorted->Td,list_sort_plain->To,get?_update_seq->Tp,size_push'->TC,boot_reversed->TW,Constant_none->T3,subscriptTail_builtinR->Ua,listItems_at->Uc,collect_list->Ue,Subscript_->UZ,boot_list->Vb,boot_isinstance->Vm,tupleItemsOf_->VC,iadd_int->VD,entry_tuple_getitem->VE,callWith_builtin1->VF,boot_zip->VG,boot_enumerate->VH,boot_dict->VI,args_tuple_getitem->VJ,slicePart_none->VL,boot_set->VN,boot_int->VO
open Option.some renaming inj->NH
open Int renaming emod_lt_of_pos->NK,toNat_natCast->NQ,emod_nonneg->N8,eq_ofNat_of_zero_le->Tu,toNat_of_nonneg->T6,ediv_nonneg->UT
open PySem.Around renaming under_plainId->N5
open PySem.AutoSeq1 renaming wpAny_loadPart'->Ox
open PySem.Heap.SameBut renaming update->OA,refl->Tc
open PySem.Calls renaming spliced_cons->OH,spliced_nil->O6,call_function_entry->O9,callWith_builtin->RD,Name_function_global->SN,evalArgs_plain->TH
open PySem.W renaming mg_none_of->OY,kia_one->Rg,methodCall_KW->Rv,plainGet_of->RU,callWith_K0->RV,mg_of->So,callWith_K->Sv,cellsFrom_some->S0,kitx_list->TJ,kitx_dict->TK,looks_mroIn->UB
open PyProof.Rows.F renaming plain_set_update_loop->O1,entry_set_update_loop->Rk
open PySem.Value renaming isStrOf_shape->PZ
open Option renaming map_some->RB,getD_none->Si,isNone_some->TM,isNone_none->TN,isSome_map->TX
open PySem.W.KFB renaming if_not->RL,if_so->VP
open PySem.Heap.IsSliceOf renaming new->SE
open PySem.SeqAt.EqAt renaming str_int->Te,int_str->Tf,tuple_int->UV,str_str->U8,int_int->U9
open PySem.Heap.DictOf renaming new->Tv
open PySem.IsL renaming isList->TF
open StateT renaming run_pure->Uh
open PyProof.Rows.IsTup renaming new->Uj
open PySem.SeqAt.RcNeAt renaming lists->Uq
open PySem.SeqAt.RcAt renaming none_none->UL,lists_lengths->UM,lists->UN
open PySem.W.Looks renaming of_pure->UP,here->Vc,ld->VS
open PySem.ItemsOf renaming nil->UR
open PySem.Meets renaming of_wp->U6
open PySem.EqMixed renaming ne_str_int->Vd,ne_str_bool->Ve,ne_int_str->Vf,ne_bool_str->Vg,eq_str_int->Vh,eq_str_bool->Vi,eq_int_str->Vj,eq_bool_str->Vk
open PySem.Within renaming cons->Vn
open PySem.EqNone renaming ne_str_none->Vo,ne_none_str->Vp,ne_none_none->Vq,ne_none_int->Vr,ne_none_bool->Vs,ne_int_none->Vt,ne_bool_none->Vu,eq_str_none->Vv,eq_none_str->Vw,eq_none_none->Vx,eq_none_int->Vy,eq_none_bool->Vz,eq_int_none->VA,eq_bool_none->VB
open PySem.SeqAt renaming notIn_listAt->VQ
def M5:=@decide_eq_false
def M7:=@if_pos
def M9:=@decide_eq_true
def Na:=@if_neg
def NA:=@Ne.symm
def NV:=@of_decide_eq_true
def Od:=@congrArg
def Oj:=@if_false
def Oq:=@bne_self_eq_false
def P5:=@or_false
def P7:=@if_true
def Rc:=@beq_self_eq_true
def RQ:=@of_decide_eq_false
def Sn:=@Iff.rfl
def UU:=@PySem.Heap.IsTupleIter.at
def VT:=@PySem.Heap.IsList.at
local macro_rules|`(#[$x,*])=>`(⟨$x,*⟩)
local macro_rules|`(tactic|omega)=>`(tactic|lia)
namespace _L
open PySem PySem.Spec PyProof.Rows
abbrev bH:=Sum Int ρ
noncomputable def lI:bH->ζ->Bool
 | .inl k,v=>Value.isInt k v
 | .inr x,v=>Value.isStrOf x v
noncomputable def Lr(w:bU):bH->Int
 | .inl k=>hashInt k
 | .inr x=>hashStr w x
theorem jZ:∀{k:bH} {v:ζ},lI k v=μ->(∃i t,k=Sum.inl i/\v=ii i t)∨(∃x t,k=Sum.inr x/\v=lq x t)
 | .inl i,v,h=>by let⟨t,e⟩:=Value.isInt_shape (k:=i) (v:=v) h;exact .inl #[i,t,Z,e]
 | .inr x,v,h=>by let⟨t,e⟩:=PZ (x:=x) (v:=v) h;exact .inr #[x,t,Z,e]
theorem ZT(i:Int)(t:Tok):lI (.inl i) (.int i t)=μ:=by simp [lI,Value.isInt]
theorem ZU(x:ρ)(t:Tok):lI (.inr x) (.str x t)=μ:=by simp [lI,Value.isStrOf]
theorem Dl(a b:Int):decide ((Sum.inl a:bH)=Sum.inl b)=(a==b):=by
 by_cases e:a=b
 .subst e;simp
 .let h:¬(Sum.inl a:bH)=Sum.inl b:=λq=>e (Sum.inl.inj q);rw[M5 h];exact(beq_eq_false_iff_ne.mpr e).symm
theorem Do(a b:ρ):decide ((Sum.inr a:bH)=Sum.inr b)=decide (a=b):=by
 by_cases e:a=b
 .subst e;simp
 .let h:¬(Sum.inr a:bH)=Sum.inr b:=λq=>e (Sum.inr.inj q);rw[M5 h,M5 e]
theorem Dm(a:Int)(b:ρ):decide ((Sum.inl a:bH)=Sum.inr b)=ξ:=M5 (λq=>nomatch q)
theorem Dn(a:ρ)(b:Int):decide ((Sum.inr a:bH)=Sum.inl b)=ξ:=M5 (λq=>nomatch q)
noncomputable def aX(p:ψ)(w:bU):PySem.KeyKind p w bH where
 is:=lI
 hash:=Lr w
 inj:=λv a b d c=>by
  rcases jZ d with ⟨i,t,rfl,rfl⟩ | ⟨x,t,rfl,rfl⟩
  .rcases jZ c with ⟨j,u,rfl,e⟩ | ⟨y,u,rfl,e⟩
   .injection e with E _;rw[E]
   .exact nomatch e
  .rcases jZ c with ⟨j,u,rfl,e⟩ | ⟨y,u,rfl,e⟩
   .exact nomatch e
   .injection e with E _;rw[E]
 byValue:=λk v h=>by rcases jZ h with ⟨i,t,rfl,rfl⟩ | ⟨x,t,rfl,rfl⟩<;>rfl
 pyHash:=λH h=>by
  rcases jZ H with ⟨i,t,rfl,rfl⟩ | ⟨x,t,rfl,rfl⟩
  .exact wpAny_pyHash_int h
  .exact wpAny_pyHash_str h
 eqBool:=λf H h=>by
  rcases jZ f with ⟨i,t,rfl,rfl⟩ | ⟨x,t,rfl,rfl⟩
  .rcases jZ H with ⟨j,u,rfl,rfl⟩ | ⟨y,u,rfl,rfl⟩
   .rw[Dl]at h;exact wpAny_eqBool_int h
   .rw[Dm]at h;exact Tf i t y u _ _ _ _ h
  .rcases jZ H with ⟨j,u,rfl,rfl⟩ | ⟨y,u,rfl,rfl⟩
   .rw[Dn]at h;exact Te x t j u _ _ _ _ h
   .rw[Do]at h;exact wpAny_eqBool_str h
 «strs»:=λk x t v h=>by
  rcases jZ h with ⟨i,u,rfl,e⟩ | ⟨y,u,rfl,e⟩
  .exact nomatch e
  .injection e with E _;subst E;cases v<;>rfl
theorem X5(p:ψ)(w:bU)(i:Int)(t:Tok):(aX p w).is (.inl i) (.int i t)=μ:=ZT i t
theorem X6(p:ψ)(w:bU)(x:ρ)(t:Tok):(aX p w).is (.inr x) (.str x t)=μ:=ZU x t
end _L
namespace _L
open PySem PySem.Spec PyProof.Rows
inductive V where
 |non |bl (b:Bool) |int (i:Int) |str (x:ρ) |byt (b:Array UInt8) |flt (b:UInt64) |ref (a:η) |ty (n:String)
 deriving DecidableEq
set_option genInjectivity false
def aG:V->ζ->Prop
 | .non,u=>u=β
 | .bl b,u=>u=ot b
 | .int i,u=>∃t,u=ii i t
 | .str x,u=>∃t,u=lq x t
 | .byt b,u=>∃t,u=Value.bytes b t
 | .flt b,u=>∃t,u=Value.float b t
 | .ref a,u=>u=Θ a
 | .ty n,u=>u=fx n
abbrev aD:List V->List ζ->Prop:=Paired aG
theorem aD.length(r:aD x u):x.length=u.length:=Paired.length r
theorem aD.get:∀{X:List V} {U:List ζ} {i:Nat} {x:V},aD X U->X[i]?=δ x->∃u,U[i]?=δ u/\aG x u
 |_,_,_,_,.nil,e=>by simp at e
 |_,_,0,_,.cons r _,e=>by simp at e;subst e;exact#[_,Z,r]
 |_,_,i+1,x,.cons _ t,e=>by let⟨u,h,H⟩:=aD.get (i:=i) (x:=x) t (by simpa using e);exact#[u,by simpa using h,H]
theorem aD.set(r:aG x u):∀{X:List V} {U:List ζ} (i:Nat),aD X U->aD (X.set i x) (U.set i u)
 |_,_,_,.nil=>.nil
 |_,_,0,.cons _ t=>.cons r t
 |_,_,i+1,.cons q t=>.cons q (aD.set r i t)
theorem aD.append:∀{x y:List V} {u w:List ζ},aD x u->aD y w->aD (x++y) (u++w)
 |_,_,_,_,.nil,s=>s
 |_,_,_,_,.cons r t,s=>.cons r (aD.append t s)
theorem aD.take:∀{x:List V} {u:List ζ} (n:Nat),aD x u->aD (x.take n) (u.take n)
 |_,_,0,_=>.nil
 |_,_,_+1,.nil=>.nil
 |_,_,n+1,.cons r t=>.cons r (aD.take n t)
theorem aD.drop:∀{x:List V} {u:List ζ} (n:Nat),aD x u->aD (x.drop n) (u.drop n)
 |_,_,0,r=>r
 |_,_,_+1,.nil=>.nil
 |_,_,n+1,.cons _ t=>aD.drop n t
def dZ:Option V->Option ζ->Prop
 |some v,δ u=>aG v u
 |none,θ=>True
 |_,_=>False
def KV{a:Type}:List (a×V)->List (a×ζ)->Prop:=Paired λ(p:a×V) (q:a×ζ)=>p.1=q.1/\aG p.2 q.2
noncomputable def kV:bH->V
 | .inl i=>.int i
 | .inr x=>.str x
inductive HO where
 |lst (xs:List V)
 |tup (xs:List V)
 |dK (kvs:List (bH×V)) |dT (kvs:List (List bH×V))
 |set (S:Int->Bool) (n:Nat)
 |ins (C dx:η) (fs:List (ρ×V))
 |own (x:η)
 |xd (fs:List (ρ×V))
 |met (f x:η)
 |rng (lo hi:Int)
 |frz (o:hY) (u:HO)
 |tbl (ps:Array ζ)
 |ext (φ:de->Prop)
abbrev Hp:=η->Option HO
noncomputable def af(H:Hp)(a:η)(o:HO):Hp:=λb=>if b=a then δ o else H b
theorem jb:af H a o a=δ o:=by unfold af;rw[M7 Z]
theorem jh(h:b≠a):af H a o b=H b:=by unfold af;rw[Na h]
theorem jP{H:Hp}(h:H a=δ o)(c:H b=δ u)(d:o≠u):a≠b:=by intro e;subst e;rw[h]at c;exact d (NH c)
theorem ji{H:Hp}(h:H a=δ o)(c:H b=θ):a≠b:=by intro e;subst e;rw[h]at c;cases c
section
variable (P:ψ)(w:bU)
def aN(H:Hp)(h:de)(a:η):HO->Prop
 | .lst X=>X.length<=τ/\∃(i:List ζ) (n:Nat),aD X i/\h.get? a=δ { cls:=.type "list",data:=.seq i.toArray n }
 | .tup X=>X.length<=τ/\∃i:List ζ,aD X i/\IsTup h a i.toArray
 | .dK k=>k.length<=τ/\(a==sysModules)=ξ/\∃c,KV k c/\h.DictOf (aX P w) a c
 | .dT k=>k.length<=τ/\(a==sysModules)=ξ/\∃X:List (List bH×η×ζ),
   Paired (λ(p:List bH×V) (q:List bH×η×ζ)=>p.1=q.1/\H q.2.1=δ (.tup$ p.1.map kV)/\aG p.2 q.2.2) k X/\
   ∃o e E,h.get? a=δ o/\o.ExactDict/\o.data= .dict e E/\e.toList=X.map (entryOfKey$ tupleKind$ aX P w)/\(X.map (·.1)).Nodup
 | .set S n=>h.SetOf (intKind P w) a S n
 | .ins C d F=>H d=δ (.own a)/\F.length<=1000/\d≠a/\h.get? a=δ (instObj C d)/\
   ∃m,h.Ns1 d m/\(∀f,dZ (F.lookup f)$ m f)/\PySem.Within m (F.map (·.1))
 | .own _=>∃o,h.get? a=δ o
 | .xd F=>∃m,h.Ns1 a m/\∀f,dZ (F.lookup f) (m f)
 | .rng lo l=>∃t u v,h.get? a=δ { cls:=.type "range",data:=.fields (ε [.int lo t,.int l u,.int 1 v]) }
 | .frz o u=>h.get? a=δ o/\aN H h a u
 | .tbl r=>h.get? a=δ { cls:=.none,data:=.fields r }
 | .met f x=>h.get? a=δ (ov (.ref f) (.ref x))
 | .ext b=>b h/\(∃o,h.get? a=δ o)/\∀g j:de,b g->(∀o,g.get? a=δ o->j.get? a=δ o)->b j
def fq(H:Hp)(h:de):Prop:=∀a o,H a=δ o->aN P w H h a o
end
section
variable {P:ψ}{w:bU}{H H':Hp}{h h':de}{a:η}{o:HO}
theorem aN.lt(x:aN P w H h a o):a < h.objs.size:=by
 cases o with
 |lst X=>let⟨_,_,_,_,e⟩:=x;exact M4 e
 |tup X=>let⟨_,_,_,p⟩:=x;exact p.lt
 |dK k=>let⟨_,_,_,_,o,_,_,e,_⟩:=x;exact M4 e
 |dT k=>let⟨_,_,_,_,o,_,_,e,_⟩:=x;exact M4 e
 |set S n=>let⟨o,_,_,_,e,_⟩:=x;exact M4 e
 |ins C d F=>let⟨_,_,_,e,_⟩:=x;exact M4 e
 |own y=>let⟨_,e⟩:=x;exact M4 e
 |xd F=>obtain⟨_,⟨_,_,_,e,_⟩,_⟩:=x;exact M4 e
 |rng lo b=>let⟨_,_,_,e⟩:=x;exact M4 e
 |frz O u=>let⟨e,_⟩:=x;exact M4 e
 |tbl c=>exact M4 (show h.get? a=δ _ from x)
 |met f y=>exact M4 (show h.get? a=δ _ from x)
 |ext g=>obtain⟨_,⟨_,e⟩,_⟩:=x;exact M4 e
theorem Paired.mapP{c d:Type}{F G:c->d->Prop}:∀{l:List c} {L:List d},Paired F l L->(∀a b,F a b->G a b)->Paired G l L
 |_,_,.nil,_=>.nil
 |_,_,.cons r t,f=>.cons (f _ _ r) (Paired.mapP t f)
theorem aN.stay(x:aN P w H h a o)(k:∀b u,(b=a∨H b=δ (.own a))->h.get? b=δ u->h'.get? b=δ u)
  (s:∀b,H b=δ (.own a)->H' b=δ (.own a)) (A:∀b X,H b=δ (.tup X)->H' b=δ (.tup X)):aN P w H' h' a o:=by
 induction o with
 |lst X=>let⟨z,i,n,r,e⟩:=x;exact#[z,i,n,r,k _ _ (.inl Z) e]
 |tup X=>let⟨z,i,r,O,e,c⟩:=x;exact#[z,i,r,O,k _ _ (.inl Z) e,c]
 |dK K=>let⟨z,y,V,r,O,E,g,e,c⟩:=x;exact#[z,y,V,r,O,E,g,k _ _ (.inl Z) e,c]
 |dT K=>let⟨z,y,X,r,O,E,g,e,c⟩:=x;exact#[z,y,X,Paired.mapP r λp q z=>#[z.1,A _ _ z.2.1,z.2.2],O,E,g,k _ _ (.inl Z) e,c]
 |set S n=>let⟨O,E,g,t,e,c⟩:=x;exact#[O,E,g,t,k _ _ (.inl Z) e,c]
 |ins C D F=>obtain⟨d,z,N,e,m,⟨j,E,g,B,c⟩,r⟩:=x;exact#[s _ d,z,N,k _ _ (.inl Z) e,m,#[j,E,g,k _ _ (.inr d) B,c],r]
 |own y=>let⟨O,e⟩:=x;exact#[O,k _ _ (.inl Z) e]
 |xd F=>obtain⟨m,⟨j,E,g,e,c⟩,r⟩:=x;exact#[m,#[j,E,g,k _ _ (.inl Z) e,c],r]
 |rng lo G=>let⟨t,u,v,e⟩:=x;exact#[t,u,v,k _ _ (.inl Z) e]
 |frz O u I=>let⟨e,q⟩:=x;exact#[k _ _ (.inl Z) e,I q]
 |tbl l=>have e:h.get? a=δ { cls:=.none,data:=.fields l }:=x;show h'.get? a=δ { cls:=.none,data:=.fields l };exact k a _ (.inl Z) e
 |met f y=>have e:h.get? a=δ (ov (.ref f)$ .ref y):=x;show h'.get? a=δ (ov (.ref f)$ .ref y);exact k a _ (.inl Z) e
 |ext J=>obtain⟨p,⟨o,e⟩,st⟩:=x;exact#[st _ _ p λo q=>k _ _ (.inl Z) q,#[o,k _ _ (.inl Z) e],st]
theorem fq.lt(x:fq P w H h)(e:H a=δ o):a < h.objs.size:=(x a o e).lt
theorem fq.fresh(x:fq P w H h)(e:h.objs.size<=a):H a=θ:=by
 cases q:H a with
 |none=>rfl
 |some u=>exact absurd (Nh (x.lt q) e) (N4 _)
theorem fq.kept(x:fq P w H h)(k:∀b u,h.get? b=δ u->h'.get? b=δ u):fq P w H h':=λa o e=>
 (x a o e).stay (λb u _ q=>k b u q) (λ_ q=>q) λ_ _ q=>q
theorem fq.laid(x:fq P w H h)(k:∀b u,h.get? b=δ u->h'.get? b=δ u)(g:h.objs.size<=a)(n:aN P w (af H a o) h' a o):fq P w (af H a o) h':=λb u e=>by
 let d:=x.fresh g;by_cases f:b=a
 .subst f;rw[jb]at e;cases e;exact n
 .rw[jh f]at e;exact(x b u e).stay (λc v _ q=>k c v q) (λc q=>by rw[jh$ ji q d];exact q) λc X q=>by rw[jh$ ji q d];exact q
end
def Rd(H:Hp)(a:η)(u:HO):Prop:=H a=δ u∨∃o,H a=δ (.frz o u)
theorem Rd.ok{P:ψ}(r:Rd H a u)(x:fq P w H h):aN P w H h a u:=by
 rcases r with r | ⟨o,r⟩
 .exact x a u r
 .let⟨_,q⟩:=x a _ r;exact q
def F':Option HO->Prop
 |some (.lst _)=>True
 |some (.dK _)=>True
 |some (.dT _)=>True
 |some (.set _ _)=>True
 |some (.ins _ _ _)=>True
 |some (.ext _)=>True
 |_=>False
section
variable {P:ψ}{w:bU}{H:Hp}{h h':de}{x e:η}{o':HO}
theorem fq.write(o:fq P w H h)(m:F' (H x))(i:e=x∨H e=δ (.own x))(k:∀b u,b≠e->h.get? b=δ u->h'.get? b=δ u)(f:∃u,h'.get? e=δ u)
  (g:aN P w (af H x o') h' x o'):fq P w (af H x o') h':=λb u q=>by
 let n:∀c y,H c=δ (.own y)->c≠x:=λc y r z=>by subst z;rw[r]at m;exact m
 let N:∀c X,H c=δ (.tup X)->c≠x:=λc X r z=>by subst z;rw[r]at m;exact m
 by_cases d:b=x
 .subst d;rw[jb]at q;cases q;exact g
 .rw[jh d]at q;by_cases a:b=e
  .let Q:H b=δ (.own x):=by
    rcases i with z |z
    .exact absurd (a.trans z) d
    .rw[a];exact z
   rw[q]at Q;cases Q;let⟨v,j⟩:=f;exact#[v,by rw[a];exact j]
  .refine(o b u q).stay (λc v hc r=>k c v ?_ r) (λc r=>by rw[jh$ n c b r];exact r) λc X r=>by rw[jh$ N c X r];exact r
   rcases hc with rfl |hc
   .exact a
   .rintro rfl;rcases i with z |z
    .exact n c b hc z
    .rw[hc]at z;cases z;exact d Z
end
structure Un(fs ex:List η)(H H':Hp)(h h':de):Prop where
 keep:∀b o,h.get? b=δ o->H b=θ->b∉fs->b∉ex->h'.get? b=δ o
 slot:∀b o,h.get? b=δ o->H b=θ->b∈fs->b∉ex->∃sl,h'.get? b=δ { o with slots:=sl }
 free:∀b o,h.get? b=δ o->H b=θ->b∉ex->H' b=θ
 there:∀b o,h.get? b=δ o->b∉ex->∃o',h'.get? b=δ o'
 tups:∀b xs,H b=δ (.tup xs)->H' b=δ (.tup xs)
 frzs:∀b o u,H b=δ (.frz o u)->H' b=δ (.frz o u)
 tbls:∀b ps,H b=δ (.tbl ps)->∃more,H' b=δ (.tbl$ ps++more)
section
variable {fs fs' ex ex':List η}{H H1 H2:Hp}{h h1 h2 h':de}{a x e:η}{o:HO}
theorem Un.any(u:Un fs ex H H1 h h1)(q:h.get? b=δ O)(n:H b=θ)(c:b∉ex):∃s,h1.get? b=δ { O with slots:=s }:=by
 by_cases d:b∈fs
 .exact u.slot b O q n d c
 .exact#[O.slots,u.keep b O q n d c]
theorem Un.kept(k:∀b u,h.get? b=δ u->h'.get? b=δ u):Un fs ex H H h h':=
 #[λb O q _ _ _=>k b O q,λb O q _ _ _=>#[O.slots,k b O q],λ_ _ _ n _=>n,λb O q _=>#[O,k b O q],λ_ _ q=>q,λ_ _ _ q=>q,λ_ p q=>#[(ε []),by rw[q];simp]]
theorem Un.refl:Un fs ex H H h h:=Un.kept λ_ _ q=>q
theorem Un.laid(k:∀b u,h.get? b=δ u->h'.get? b=δ u)(d:h.objs.size<=a)(c:H a=θ):Un fs ex H (af H a o) h h' where
 keep:=λb u q _ _ _=>k b u q
 slot:=λb u q _ _ _=>#[u.slots,k b u q]
 free:=λb u q n _=>by rw[jh$ Nb$ Nh (M4 q) d];exact n
 there:=λb u q _=>#[u,k b u q]
 tups:=λb X q=>by rw[jh$ ji q c];exact q
 frzs:=λb u X q=>by rw[jh$ ji q c];exact q
 tbls:=λb p q=>#[(ε []),by rw[jh$ ji q c,q];simp]
theorem Un.write(m:F' (H x))(j:e=x∨H e=δ (.own x))(k:∀b u,b≠e->h.get? b=δ u->h'.get? b=δ u)(d:∃u,h'.get? e=δ u):Un fs ex H (af H x o) h h':=by
 let g:∀b,H b=θ->b≠x:=λb n z=>by subst z;rw[n]at m;exact m
 let i:∀b,H b=θ->b≠e:=λb n z=>by
  subst z;rcases j with r |r
  .exact g b n r
  .rw[n]at r;cases r
 let f:∀b u,H b=δ u->¬F' (δ u)->b≠x:=λb u q N z=>by subst z;rw[q]at m;exact N m
 refine#[λb u q n _ _=>k b u (i b n) q,λb u q n _ _=>#[u.slots,k b u (i b n) q],λb u q n _=>by rw[jh$ g b n];exact n,λb u q _=>?_,
  λb X q=>by rw[jh$ f b _ q λz=>z];exact q,λb u X q=>by rw[jh$ f b _ q λz=>z];exact q,λb p q=>#[(ε []),by rw[jh$ f b _ q λz=>z,q];simp]]
 by_cases c:b=e
 .subst c;exact d
 .exact#[u,k b u c q]
end
noncomputable def IS(h:de)(H:Hp):List η:=(dB h.objs.size).filter λa=>(H a).isSome
def lT(h:de)(H:Hp):de:=PySem.W.hideAll h (IS h H)
theorem ZV(h:de)(H:Hp):(lT h H).objs.size=h.objs.size:=PySem.W.hideAll_size _ _
theorem uD{h:de}{H:Hp}(e:h.get? b=δ o)(n:H b=θ):(lT h H).get? b=δ o:=
 PySem.W.hideAll_get _ e λa=>by let q:(H b).isSome=μ:=(rm.mp a).2;rw[n]at q;simp at q
theorem Ab(e:(lT h H).get? b=δ o):h.get? b=δ o/\H b=θ:=by
 let E:h.get? b=δ o:=PySem.W.of_hideAll (IS h H) e;refine#[E,?_];cases q:H b with
 |none=>rfl
 |some x=>have a:b∈IS h H:=rm.mpr #[ro.mpr$ M4 E,by simp [q]];let z:(lT h H).get? b=θ:=PySem.W.hideAll_none (IS h H) a;rw[z]at e;cases e
end _L
open _L.V renaming str->ry,int->rz,ref->sn
namespace _L
open PySem PySem.Spec PyProof.Rows
structure Mod(K:γ)(mg:ρ->Option ζ)(base:de):Prop where
 kin:K.In base
 glob:base.Ns Ω mg
 blt:∃mb,base.Ns builtinsNs mb/\∀x:ρ,x≠"__name__"->mb x=bootBuiltins x
 nolimit:base.NoLimit
structure Cx where
 prog:ψ
 w:bU
 K:γ
 mg:ρ->Option ζ
 base:de
 A:cc
 N:List ρ
 s₀:ι
 H₀:Hp
 env:Env
 outer:List Env
 stack:List Env
 ex:List η
 fn:ρ->Bool
 calm:Bool
 pn:List (η×hY)
 xe:ζ->ι->Prop
noncomputable def lF(l:List Env):List η:=l.filterMap (·.frame)
noncomputable abbrev Cx.fs(X:Cx):List η:=lF X.outer
def IM(s:ir)(x:ρ):Prop:=s.names.lookup x=δ .local∨s.names.lookup x=δ .cell∨s.names.lookup x=δ .free
def BC(s:ir)(x:ρ):Prop:=s.names.lookup x=δ .local∨s.names.lookup x=δ .cell
def I0(e:Env)(h:de)(m:ρ->Option ζ)(x:ρ)(u:ζ):Prop:=
 (e.kindOf x=δ .local/\m x=δ u)∨((e.kindOf x=δ .cell∨e.kindOf x=δ .free)/\∃c,e.cells.lookup x=δ c/\h.IsCell c (δ u))
structure Cx.Ok(X:Cx):Prop where
 mod:Mod X.K X.mg X.base
 kind:X.env.scope.kind= .function
 glob:X.env.globals=Ω
 blt:X.env.builtins=builtinsNs
 above:X.s₀.heap.objs.size<=X.env.locals
 inj:∀x y c,X.env.cells.lookup x=δ c->X.env.cells.lookup y=δ c->x=y
 has:∀x,(X.env.kindOf x=δ .cell∨X.env.kindOf x=δ .free)->∃c,X.env.cells.lookup x=δ c
 cab:∀x c,X.fn x=μ->X.env.cells.lookup x=δ c->X.s₀.heap.objs.size<=c
 hd:X.calm=μ->X.A.handled=θ
 frames:X.A.frames=δ X.stack
 stk:X.stack=X.outer∨(X.stack=X.env::X.outer/\X.env.frame=δ X.env.locals)
 exf:∀b∈X.ex,b≠X.env.locals/\∀x c,X.env.cells.lookup x=δ c->c≠b
 bs:∀b o,X.base.get? b=δ o->X.s₀.heap.get? b=δ o/\X.H₀ b=θ
 bsz:X.base.objs.size<=X.s₀.heap.objs.size
 noex:∀b o,X.base.get? b=δ o->b∉X.ex
 exfs:∀b∈X.ex,b∉X.fs
 funs:X.s₀.heap.FunFrames X.base X.outer
 frf:∀b∈X.fs,X.H₀ b=θ
structure au(X:Cx)(pins:List (η×hY))(σ:List (Option V))(H:Hp)(s:ι):Prop where
 ok:X.Ok
 os:s.os=X.s₀.os
 bare:AllBare s.gens
 base:Un X.fs X.ex X.H₀ H X.s₀.heap s.heap
 loc:∃m,s.heap.Ns X.env.locals m/\∀(i:Nat) (x:ρ) (v:V),X.N[i]?=δ x->σ[i]?=δ (δ v)->IM X.env.scope x->∃u,aG v u/\I0 X.env s.heap m x u
 cell:∀x c,X.env.cells.lookup x=δ c->∃v,s.heap.IsCell c v
 free:H X.env.locals=θ
 freeC:∀x c,X.env.cells.lookup x=δ c->H c=θ
 pin:∀p∈X.pn++pins,s.heap.get? p.1=δ p.2/\H p.1=θ/\p.1≠X.env.locals/\p.1∉X.fs/\∀v,p.2.data≠ .cell v
 hok:fq X.prog X.w H s.heap
 len:σ.length=X.N.length
section
variable {X:Cx}{pins:List (η×hY)}{σ:List (Option V)}{H H':Hp}{s:ι}{h':de}
theorem Cx.Ok.nofr(O:X.Ok)(e:X.base.get? b=δ o):b∉X.fs:=λh=>by let:=(O.funs.mem h).1;rw[e]at this;cases this
theorem au.bs(I:au X pins σ H s):∀b o,X.base.get? b=δ o->s.heap.get? b=δ o/\H b=θ:=λb o e=>
 #[I.base.keep b o (I.ok.bs b o e).1 (I.ok.bs b o e).2 (I.ok.nofr e)$ I.ok.noex b o e,I.base.free b o (I.ok.bs b o e).1 (I.ok.bs b o e).2$ I.ok.noex b o e]
theorem au.bk(I:au X pins σ H s):∀b o,X.base.get? b=δ o->s.heap.get? b=δ o:=λb o e=>(I.bs b o e).1
theorem au.mod(I:au X pins σ H s):Mod X.K X.mg X.base:=I.ok.mod
theorem au.kIn(I:au X pins σ H s):X.K.In s.heap:=I.ok.mod.kin.keeps I.bk
theorem au.lt(I:au X pins σ H s):X.env.locals < s.heap.objs.size:=let #[_,h,_]:=I.loc;h.lt
theorem au.sz(I:au X pins σ H s):X.s₀.heap.objs.size<=s.heap.objs.size:=Ng I.ok.above (OT I.lt)
theorem au.nofs(I:au X pins σ H s)(h:s.heap.objs.size<=a):a∉X.fs:=λb=>by let⟨_,o,c,_⟩:=I.ok.funs.mem b;exact absurd (Nh (M4 c)$ Ng I.sz h)$ N4 _
theorem au.cne(I:au X pins σ H s):∀x c,X.env.cells.lookup x=δ c->c≠X.env.locals:=λx c e z=>by let⟨v,o,b,d⟩:=I.cell x c e;obtain⟨m,⟨O,E,f,h,a,_⟩,_⟩:=I.loc;rw[z,h]at b;cases b;rw[a]at d;cases d
theorem au.funs(I:au X pins σ H s):s.heap.FunFrames X.base X.outer:=by
 let all:∀(l:List Env),(∀b∈lF l,b∈X.fs)->X.s₀.heap.FunFrames X.base l->s.heap.FunFrames X.base l:=by
  intro l;induction l with
  |nil=>intro _ _;trivial
  |cons E r i=>intro d f;obtain⟨g,⟨L,o,h,j,k,m⟩,n⟩:=f;let a:L∈X.fs:=d L (by unfold lF;rw[List.filterMap_cons,h];exact List.mem_cons_self);let⟨S,e⟩:=I.base.slot L o k (I.ok.frf L a) a λz=>I.ok.exfs L z a;exact#[g,#[L,_,h,j,e,m],i (λb c=>d b (by unfold lF;rw[List.filterMap_cons,h];exact List.mem_cons_of_mem _ c)) n]
 exact all X.outer (λ_ c=>c) I.ok.funs
theorem au.stack(I:au X pins σ H s):s.heap.FunFrames X.base X.stack:=by
 rcases I.ok.stk with e | ⟨e,h⟩
 .rw[e];exact I.funs
 .rw[e];let⟨m,a,_⟩:=I.loc;refine .cons (by rw[I.ok.kind];decide) h a ?_ I.funs;exact Heap.get?_none_of_le$ Ng I.ok.bsz I.ok.above
theorem au.stkSub(I:au X pins σ H s):∀b∈lF X.stack,b∈X.env.locals::X.fs:=λb h=>by
 rcases I.ok.stk with e | ⟨e,a⟩
 .rw[e]at h;exact Nv _ h
 .rw[e]at h;unfold lF at h;rw[R6,a]at h;exact h
theorem au.stkFree(I:au X pins σ H s):∀b∈lF X.stack,H b=θ:=λb hb=>by
 rcases Φ.mp (I.stkSub b hb) with e |hb
 .rw[e];exact I.free
 .let⟨_,o,h,_⟩:=I.ok.funs.mem hb;exact I.base.free b o h (I.ok.frf b hb) λz=>I.ok.exfs b z hb
theorem au.step{g':Array GenState}{d':Drawn}{ch:List η}(I:au X pins σ H s)
  (a:∀b∈ch,(b∈X.ex∨X.s₀.heap.objs.size<=b)/\b≠X.env.locals/\(∀x c,X.env.cells.lookup x=δ c->c≠b)/\∀p∈X.pn++pins,p.1≠b)
  (K:∀b o,b≠X.env.locals->b∉X.fs->b∉ch->s.heap.get? b=δ o->H b=θ->h'.get? b=δ o)
  (S:∀b o,b≠X.env.locals->b∈X.fs->b∉ch->s.heap.get? b=δ o->H b=θ->∃J,h'.get? b=δ { o with slots:=J }) (f:∀b o,b∉ch->s.heap.get? b=δ o->H b=θ->H' b=θ)
  (t:∀b o,b∉ch->s.heap.get? b=δ o->∃O,h'.get? b=δ O)
  (T:∀b j,H b=δ (.tup j)->H' b=δ (.tup j)) (F:∀b o u,H b=δ (.frz o u)->H' b=δ (.frz o u)) (B:∀b P,H b=δ (.tbl P)->∃M,H' b=δ (.tbl$ P++M))
  (ns:∀m,s.heap.Ns X.env.locals m->h'.Ns X.env.locals m) (L:fq X.prog X.w H' h') (hg:AllBare g'):
  au X pins σ H' { s with heap:=h',gens:=g',drawn:=d',toks:=t' }:=by
 let D:∀b o,X.s₀.heap.get? b=δ o->b≠X.env.locals:=λb o e=>Nb (Nh (M4 e) I.ok.above);let g:∀b o,X.s₀.heap.get? b=δ o->b∉X.ex->b∉ch:=λb o e h y=>by
  rcases(a b y).1 with z |z
  .exact h z
  .exact absurd (Nh (M4 e) z)$ N4 _
 let C:∀x c,X.env.cells.lookup x=δ c->∀v,s.heap.IsCell c v->h'.IsCell c v:=λx c e v #[o,A,Q]=>by
  let N:c∉ch:=λz=>(a c z).2.2.1 x c e Z;by_cases U:c∈X.fs
  .let⟨J,q⟩:=S c o (I.cne x c e) U N A (I.freeC x c e);exact#[_,q,Q]
  .exact#[o,K c o (I.cne x c e) U N A$ I.freeC x c e,Q]
 refine#[I.ok,I.os,hg,#[λb o e n y h=>?_,λb o e n y h=>?_,λb o e n h=>?_,λb o e h=>?_,λb j e=>T b j (I.base.tups b j e),λb o j e=>F b o j (I.base.frzs b o j e),λb P e=>?_],?_,λx c e=>?_,?_,λx c e=>?_,λp W=>?_,L,I.len]
 .exact K b o (D b o e) y (g b o e h) (I.base.keep b o e n y h)$ I.base.free b o e n h
 .let⟨J,E⟩:=I.base.slot b o e n y h;let⟨R,G⟩:=S b _ (D b o e) y (g b o e h) E (I.base.free b o e n h);exact#[R,G]
 .let⟨O,E⟩:=I.base.there b o e h;exact f b O (g b o e h) E$ I.base.free b o e n h
 .let⟨O,E⟩:=I.base.there b o e h;exact t b O (g b o e h) E
 .let⟨m1,E⟩:=I.base.tbls b P e;let⟨m2,G⟩:=B b _ E;exact#[m1++m2,by rw[G,Array.append_assoc]]
 .let⟨m,hn,hl⟩:=I.loc;refine#[m,ns m hn,λi x v E G e3=>?_];let⟨u,r,l⟩:=hl i x v E G e3;refine#[u,r,?_];rcases l with l | ⟨k,c,e,z⟩
  .exact .inl l
  .exact .inr #[k,c,e,C x c e _ z]
 .let⟨v,z⟩:=I.cell x c e;exact#[v,C x c e v z]
 .obtain⟨m,⟨o,_,_,A,_⟩,_⟩:=I.loc;exact f _ o (λz=>(a _ z).2.1 Z) A I.free
 .let⟨v,o,A,Q⟩:=I.cell x c e;exact f c o (λz=>(a c z).2.2.1 x c e Z) A$ I.freeC x c e
 .let⟨e,n,Y,nf,d⟩:=I.pin p W;let N:p.1∉ch:=λz=>(a p.1 z).2.2.2 p W Z;exact#[K p.1 p.2 Y nf N e n,f p.1 p.2 N e n,Y,nf,d]
theorem au.un{t':Nat}(I:au X pins σ H s)(u:Un X.fs [] H H' s.heap h')(a:fq X.prog X.w H' h'):au X pins σ H' { s with heap:=h',toks:=t' }:=by
 obtain⟨m,⟨o,j,k,f,r⟩,_⟩:=id I.loc;let⟨S,g⟩:=u.any f I.free VW;exact I.step (g':=s.gens) (d':=s.drawn) (ch:=[]) (λ_ z=>nomatch z) (λb o _ c _ e n=>u.keep b o e n c VW) (λb o _ c _ e n=>u.slot b o e n c VW) (λb o _ e n=>u.free b o e n VW) (λb o _ e=>u.there b o e VW) u.tups u.frzs u.tbls (λM i=>by
  let⟨O,E,d,h,R⟩:=i;rw[f]at h;cases h;exact#[_,E,d,g,R]) a I.bare
theorem au.call{g':Array GenState}{t':Nat}{d':Drawn}{ch:List η}(I:au X pins σ H s)(u:Un (lF X.stack) ch H H' s.heap h')(f:fq X.prog X.w H' h')(k:AllBare g')
  (a:∀b∈ch,(b∈X.ex∨X.s₀.heap.objs.size<=b)/\b≠X.env.locals/\(∀x c,X.env.cells.lookup x=δ c->c≠b)/\∀p∈X.pn++pins,p.1≠b):
  au X pins σ H' { s with heap:=h',gens:=g',drawn:=d',toks:=t' }:=by
 obtain⟨m,⟨o,t,v,j,r⟩,_⟩:=id I.loc;let⟨S,g⟩:=u.any j I.free λz=>(a _ z).2.1 Z;exact I.step (ch:=ch) a (λb o g l h e n=>u.keep b o e n (λz=>(Φ.mp$ I.stkSub b z).elim g l) h) (λb o _ _ h e n=>u.any e n h) (λb o h e n=>u.free b o e n h) (λb o h e=>u.there b o e h) u.tups u.frzs u.tbls (λM q=>by
  let⟨O,E,i,d,R⟩:=q;rw[j]at d;cases d;exact#[_,E,i,g,R]) f k
theorem au.turned{t':Nat}{it:η}(I:au X pins σ H s)(k:∀b o,b≠it->s.heap.get? b=δ o->h'.get? b=δ o)(d:H it=θ)(a:it≠X.env.locals)
  (f:it∈X.ex∨X.s₀.heap.objs.size<=it) (g:∀x c,X.env.cells.lookup x=δ c->c≠it) (i:∀p∈X.pn++pins,p.1≠it):au X pins σ H { s with heap:=h',toks:=t' }:=by
 let N:∀b u,H b=δ u->b≠it:=λb u e z=>by rw[z,d]at e;cases e
 refine I.step (g':=s.gens) (d':=s.drawn) (ch:=[it]) (λb j=>?_) (λb o _ _ h e _=>k b o (λz=>h (by simp [z])) e) (λb o _ _ h e _=>#[o.slots,k b o (λz=>h (by simp [z])) e]) (λ_ _ _ _ n=>n)
  (λb o h e=>#[o,k b o (λz=>h (by simp [z])) e]) (λ_ _ e=>e) (λ_ _ _ e=>e) (λb P e=>#[(ε []),by rw[e];simp]) (λm l=>?_) (λb u e=>?_) I.bare
 .let e:b=it:=by simpa using j
  subst e;exact#[f,a,g,i]
 .let⟨o,E,t,w,r⟩:=l;exact#[o,E,t,k _ o (NA a) w,r]
 .refine(I.hok b u e).stay (λc v h q=>k c v ?_ q) (λ_ q=>q) λ_ _ q=>q;rcases h with z |z
  .rw[z];exact N b u e
  .exact N c _ z
theorem au.tok(I:au X pins σ H s)(t:Nat):au X pins σ H { s with toks:=t }:=I.un (h':=s.heap) (t':=t) Un.refl I.hok
theorem au.kept{t':Nat}(I:au X pins σ H s)(k:∀b u,s.heap.get? b=δ u->h'.get? b=δ u):au X pins σ H { s with heap:=h',toks:=t' }:=I.un (Un.kept k) (I.hok.kept k)
theorem au.laid{a:η}{o:HO}{t':Nat}(I:au X pins σ H s)(k:∀b u,s.heap.get? b=δ u->h'.get? b=δ u)(h:s.heap.objs.size<=a)(n:aN X.prog X.w (af H a o) h' a o):
  au X pins σ (af H a o) { s with heap:=h',toks:=t' }:=I.un (Un.laid k h$ I.hok.fresh h) (I.hok.laid k h n)
theorem au.write{x e:η}{o:HO}{t':Nat}(I:au X pins σ H s)(m:F' (H x))(a:e=x∨H e=δ (.own x))(k:∀b u,b≠e->s.heap.get? b=δ u->h'.get? b=δ u)(h:∃u,h'.get? e=δ u)
  (n:aN X.prog X.w (af H x o) h' x o):au X pins σ (af H x o) { s with heap:=h',toks:=t' }:=I.un (Un.write m a k h) (I.hok.write m a k h n)
theorem au.pins_of{pins':List (η×hY)}(I:au X pins σ H s)(h:∀p∈pins',s.heap.get? p.1=δ p.2/\H p.1=θ/\p.1≠X.env.locals/\p.1∉X.fs/\∀v,p.2.data≠ .cell v):au X pins' σ H s:=
 #[I.ok,I.os,I.bare,I.base,I.loc,I.cell,I.free,I.freeC,λp a=>(Ξ.mp a).elim (λz=>I.pin p (On _ z)) (h p),I.hok,I.len]
theorem Xy{N:List ρ}(h:N.Nodup){i j:Nat}{x:ρ}(a:N[i]?=δ x)(b:N[j]?=δ x):i=j:=by let⟨c,e⟩:=ν.mp a;let⟨d,E⟩:=ν.mp b;exact(List.getElem_inj h).mp (e.trans E.symm)
theorem Qs{v:V}{Q:Unit->ι->Prop}(I:au X pins σ H s)(hN:X.N.Nodup)(L:X.N[i]?=δ x)(l:BC X.env.scope x)(r:aG v u)
  (h:∀s',au X pins (σ.set i$ δ v) H s'->(∃a,fy a s.heap s'.heap/\(a=X.env.locals∨X.env.cells.lookup x=δ a))->Q () s') (hf:X.fn x=μ∨X.env.scope.names.lookup x=δ .local:=by first |exact .inl Z |exact .inr Z |assumption):π M A (storeName X.env x u) Q E s:=by
 let⟨m,hn,hl⟩:=id I.loc;let O:(X.env.scope.kind== .class||(X.env.scope.kind== .module&&X.env.locals != X.env.globals))=ξ:=by rw[I.ok.kind];rfl
 let D:i < σ.length:=by rw[I.len];exact(ν.mp L).1
 let F:=I.cne;let t:∀{a:η} {h':de},(∃o,s.heap.get? a=δ o/\H a=θ)->fy a s.heap h'->fq X.prog X.w H h':=λ{a h'} ha f b ob e=>by
  let⟨_,_,B⟩:=ha;refine(I.hok b ob e).stay (λc W hc q=>(f.2 c ?_).trans q) (λ_ q=>q) λ_ _ q=>q;rintro rfl;rcases hc with rfl |hc
  .rw[B]at e;cases e
  .rw[B]at hc;cases hc
 rcases l with hk |hk
 .refine wpAny_storeName_local hk hn (λh' h0 f=>?_) O;let⟨oL,_,_,h1,_⟩:=id hn;refine h _ #[I.ok,I.os,I.bare,#[λb o e n G l=>?_,λb o e n G l=>?_,I.base.free,λb o e l=>?_,I.base.tups,I.base.frzs,I.base.tbls],#[_,h0,λj y v' g C e3=>?_],λy c e=>?_,I.free,I.freeC,λp hp=>?_,t #[oL,h1,I.free] f,by simpa using I.len] #[_,f,.inl Z]
  .exact(f.2 b$ Nb$ Nh (M4 e) I.ok.above).trans (I.base.keep b o e n G l)
  .let⟨sl,g⟩:=I.base.slot b o e n G l;exact#[sl,(f.2 b$ Nb$ Nh (M4 e) I.ok.above).trans g]
  .let⟨o',g⟩:=I.base.there b o e l;exact#[o',(f.2 b$ Nb$ Nh (M4 e) I.ok.above).trans g]
  .by_cases J:j=i
   .subst J;rw[L]at g;cases g;rw[Py D]at C;cases C;exact#[u,r,.inl #[hk,VW]]
   .rw[OR$ NA J]at C;let⟨u',r',q⟩:=hl j y v' g C e3;refine#[u',r',?_];rcases q with ⟨k,e⟩ | ⟨k,c,e,z⟩
    .refine .inl #[k,?_];let:y≠x:=λe=>J (Xy hN g$ e▸L);simp [this,e]
    .exact .inr #[k,c,e,z.sameBut f$ F y c e]
  .let⟨W,z⟩:=I.cell y c e;exact#[W,z.sameBut f$ F y c e]
  .let⟨e,n,U,nf,d⟩:=I.pin p hp;exact#[(f.2 p.1 U).trans e,n,U,nf,d]
 .let K:X.fn x=μ:=by
   rcases hf with z |z
   .exact z
   .rw[z]at hk;cases hk
  let⟨c,hc⟩:=I.ok.has x (.inl hk);let⟨W,z⟩:=I.cell x c hc;refine wpAny_storeName_cell I.ok.kind hk hc z (λh' P f=>?_);let⟨oc,R,S⟩:=id z;refine h { s with heap:=h' } #[I.ok,I.os,I.bare,#[λb o e n G l=>?_,λb o e n G l=>?_,I.base.free,λb o e l=>?_,I.base.tups,I.base.frzs,I.base.tbls],#[m,hn.sameBut f$ NA$ F x c hc,λj y v' g C e3=>?_],λy Y e=>?_,I.free,I.freeC,λp hp=>?_,t #[oc,R,I.freeC x c hc] f,by simpa using I.len] #[c,f,.inr hc]
  .exact(f.2 b$ Nb$ Nh (M4 e)$ I.ok.cab x c K hc).trans (I.base.keep b o e n G l)
  .let⟨sl,g⟩:=I.base.slot b o e n G l;exact#[sl,(f.2 b$ Nb$ Nh (M4 e)$ I.ok.cab x c K hc).trans g]
  .let⟨o',g⟩:=I.base.there b o e l;exact#[o',(f.2 b$ Nb$ Nh (M4 e)$ I.ok.cab x c K hc).trans g]
  .by_cases J:j=i
   .subst J;rw[L]at g;cases g;rw[Py D]at C;cases C;exact#[u,r,.inr #[.inl hk,c,hc,P]]
   .rw[OR$ NA J]at C;let⟨u',r',q⟩:=hl j y v' g C e3;refine#[u',r',?_];rcases q with q | ⟨k,Y,e,z'⟩
    .exact .inl q
    .refine .inr #[k,Y,e,z'.sameBut f ?_];rintro rfl;exact J$ Xy hN g$ I.ok.inj _ _ _ e hc▸L
  .by_cases T:Y=c
   .subst T;exact#[_,P]
   .let⟨w2,z2⟩:=I.cell y Y e;exact#[w2,z2.sameBut f T]
  .let⟨e,n,U,nf,d⟩:=I.pin p hp;refine#[(f.2 p.1 ?_).trans e,n,U,nf,d];intro q;rw[q,R]at e;let q':oc=p.2:=NH e;exact d W (by rw[<- q'];exact S)
theorem Ji{Q:Unit->ι->Prop}(I:au X pins σ H s)(a:X.N.Nodup)(b:X.N[i]?=δ x)(c:BC X.env.scope x)(r:aG v u)
  (h:∀S,au X pins (σ.set i$ δ v) H S->Q () S) (d:X.fn x=μ∨X.env.scope.names.lookup x=δ .local:=by first |exact .inl Z |exact .inr Z |assumption):π M A (storeName X.env x u) Q E s:=
 Qs I a b c r (λS e _=>h S e) d
theorem au.call'{S:ι}{ch:List η}(I:au X pins σ H s)(d:S.os=s.os)(u:Un (lF X.stack) ch H H' s.heap S.heap)(h:fq X.prog X.w H' S.heap)(f:AllBare S.gens)
  (a:∀b∈ch,(b∈X.ex∨X.s₀.heap.objs.size<=b)/\b≠X.env.locals/\(∀x c,X.env.cells.lookup x=δ c->c≠b)/\∀p∈X.pn++pins,p.1≠b):au X pins σ H' S:=by
 let⟨h',g',d',t',o⟩:=S;let e:o=s.os:=d;subst e;exact I.call (g':=g') (t':=t') (d':=d') u h f a
end
abbrev XK:=ζ->Option η->Hp->Prop
abbrev St:=List (Option V)
abbrev VK:=V->Hp->Prop
abbrev TE:=St->Hp->VK->Prop
abbrev TT:=St->Hp->(Bool->Hp->Prop)->Prop
abbrev TA:=St->Hp->(List V->Hp->Prop)->Prop
structure bV where
 nx:St->Hp->Prop
 rt:VK
 bk:St->Hp->Prop:=λ_ _=>False
 ct:St->Hp->Prop:=λ_ _=>False
abbrev TS:=bV->St->Hp->Prop
inductive EP(X:Cx)(a:List (η×hY))(d:St)(Q:VK)(u:ζ)(c:ι):Prop
 |mk(v b:_)(_:au X a d b c)(_:aG v u)(_:Q v b)
inductive TP(X:Cx)(a:List (η×hY))(e:St)(Q:Bool->Hp->Prop)(b:Bool)(d:ι):Prop
 |mk(c:_)(_:au X a e c d)(_:Q b c)
inductive AP(X:Cx)(a:List (η×hY))(f:St)(Q:List V->Hp->Prop)(d:List ζ)(c:ι):Prop
 |mk(e b:_)(_:au X a f b c)(_:aD e d)(_:Q e b)
def SP(X:Cx)(p:List (η×hY))(D:bV)(f:Flow)(s:ι):Prop:=
 match f with
 | .next=>∃a H,au X p a H s/\D.nx a H
 | .brk=>∃a H,au X p a H s/\D.bk a H
 | .cont=>∃a H,au X p a H s/\D.ct a H
 | .ret u=>∃v a H,au X p a H s/\aG v u/\D.rt v H
def PE(X:Cx)(e:dr)(t:TE):Prop:=
 ∀(p:List (η×hY)) (s:ι) (a:St) (H:Hp) (Q:VK),au X p a H s->t a H Q->π (χ X.prog X.w) X.A (eval e X.env) (EP X p a Q) X.xe s
def PT(X:Cx)(e:dr)(t:TT):Prop:=
 ∀(p:List (η×hY)) (s:ι) (a:St) (H:Hp) (Q:Bool->Hp->Prop),au X p a H s->t a H Q->π (χ X.prog X.w) X.A (isTrue e X.env$ eval e X.env) (TP X p a Q) X.xe s
def PW(X:Cx)(e:dr)(t:TT):Prop:=
 ∀(W:Sem ζ) (p:List (η×hY)) (s:ι) (a:St) (H:Hp) (Q:Bool->Hp->Prop),au X p a H s->t a H Q->π (χ X.prog X.w) X.A (isTrue e X.env W) (TP X p a Q) X.xe s
theorem PW.pt{X:Cx}{e:dr}{t:TT}(h:PW X e t):PT X e t:=h _
def PA(X:Cx)(e:List dr)(t:TA):Prop:=
 ∀(P:Pos) (p:List (η×hY)) (s:ι) (a:St) (H:Hp) (Q:List V->Hp->Prop),au X p a H s->t a H Q->π (χ X.prog X.w) X.A (spliced$ fJ P$ Δ e X.env) (AP X p a Q) X.xe s
def PS(X:Cx)(st:cv)(t:TS):Prop:=
 ∀(p:List (η×hY)) (s:ι) (a:St) (H:Hp) (D:bV),au X p a H s->t D a H->π (χ X.prog X.w) X.A (exec st X.env) (SP X p D) X.xe s
def mY(X:Cx)(st:List cv)(t:TS):Prop:=
 ∀(p:List (η×hY)) (s:ι) (a:St) (H:Hp) (D:bV),au X p a H s->t D a H->π (χ X.prog X.w) X.A (execs st X.env) (SP X p D) X.xe s
theorem aV{b:Type}{t:Sem b}{Q q:b->ι->Prop}{M:Model}{A:cc}{E:ζ->ι->Prop}{s:ι}(h:π M A t Q E s)(H:∀a s,Q a s->q a s):π M A t q E s:=N7 h H λ_ _ x=>x
section
variable {X:Cx}
inductive bK(i:Nat)(a:St)(H:Hp)(Q:VK):Prop
 |mk(v:_)(_:a[i]?=δ (δ v))(_:Q v H)
def tC(v:V):TE:=λ_ H Q=>Q v H
theorem Et(j:X.N[i]?=δ x)(k:IM X.env.scope x)(b:(x==("__debug__":ρ))=ξ:=by decide)(d:(x==("__classdict__":ρ))=ξ:=by decide):PE X (.Name x n) (bK i):=by
 intro p s o H Q I h;let⟨v,e,h⟩:=h;let⟨m,q,t⟩:=I.loc;let⟨u,r,l⟩:=t i x v j e k;let f:EP X p o Q u s:=#[v,H,I,r,h];rcases l with ⟨hk,w⟩ | ⟨hk,c,g,a⟩
 .exact UY (Uy I.ok.kind hk q w f) b
 .rcases hk with hk |hk
  .exact UY (UK I.ok.kind hk g a f) b
  .exact UY (wpAny_loadName_free I.ok.kind hk g a f d) b
theorem jf{i j p}:PE X (.Constant (.int i) j p) (tC$ .int i):=λ_ _ _ H _ I h=>wpAny_Constant_int #[.int i,H,I.tok _,#[_,Z],h]
theorem Zd{b j p}:PE X (.Constant (.bool b) j p) (tC$ .bl b):=λ_ _ _ H _ I h=>Constant_bool #[.bl b,H,I,Z,h]
theorem JA{j p}:PE X (.Constant .none j p) (tC .non):=λ_ _ _ H _ I h=>T3 #[.non,H,I,Z,h]
theorem jw{x j p}:PE X (.Constant (.str x) j p) (tC$ .str x):=λ_ _ _ H _ I h=>Calls.Constant_str #[.str x,H,I.tok _,#[_,Z],h]
noncomputable def Gl(X:Cx)(x:ρ):Prop:=X.env.kindOf x=δ .globalImplicit
theorem zJ{Q:ζ->ι->Prop}(I:au X p e H s)(a:Gl X x)(b:X.mg x=δ u)(h:Q u s)
  (c:(x==("__debug__":ρ))=ξ:=by decide):π (χ X.prog X.w) X.A (eval (.Name x d) X.env) Q E s:=
 SN I.ok.kind a (Calls.loadGlobal_global (by rw[I.ok.glob];exact I.mod.glob.keeps I.bk) b h) c
theorem zy{Q:ζ->ι->Prop}(I:au X p j H s)(a:Gl X x)(b:X.mg x=θ)(c:bootBuiltins x=δ u)(h:Q u s)
  (d:x≠"__name__":=by decide) (e:(x==("__debug__":ρ))=ξ:=by decide):π (χ X.prog X.w) X.A (eval (.Name x f) X.env) Q E s:=by
 let⟨m,g,i⟩:=I.mod.blt;exact SN I.ok.kind a (Calls.loadGlobal_builtin (by rw[I.ok.glob];exact I.mod.glob.keeps I.bk) b (by rw[I.ok.blt];exact g.keeps I.bk) ((i x d).trans c) h) e
theorem qY{v:V}(a:Gl X x)(b:X.mg x=δ u)(r:aG v u)(c:(x==("__debug__":ρ))=ξ:=by decide):PE X (.Name x p) (tC v):=
 λ_ _ _ H _ I h=>zJ I a b #[v,H,I,r,h] c
theorem Zk{v:V}(a:Gl X x)(b:X.mg x=θ)(c:bootBuiltins x=δ u)(r:aG v u)(d:x≠"__name__":=by decide)(e:(x==("__debug__":ρ))=ξ:=by decide):PE X (.Name x p) (tC v):=
 λ_ _ _ H _ I h=>zy I a b c #[v,H,I,r,h] d e
variable {a b:dr}{ta tb:TE}{pos:Pos}
def PC(X:Cx)(o:CmpOp)(a b:dr)(t:TE):Prop:=
 ∀(p:List (η×hY)) (s:ι) (d:St) (H:Hp) (Q:VK),au X p d H s->t d H Q->
  π (χ X.prog X.w) X.A (eval a X.env) (λv S=>π (χ X.prog X.w) X.A (eval b X.env) (λu c=>π (χ X.prog X.w) X.A (compareOp o v u) (EP X p d Q) X.xe c) X.xe S) X.xe s
def LP(ta:TE):TE:=λc H Q=>ta c H λx h=>Q (.bl$ decide$ x= .non) h
def Iw(ta:TE):TE:=λc H Q=>ta c H λx h=>Q (.bl (!decide (x= .non))) h
theorem aG.none_iff(r:aG x v):(v==β)=decide (x= .non):=by
 cases x with
 |non=>cases r;rfl
 |bl _=>cases r;rfl
 |int _=>let⟨t,rfl⟩:=r;rfl
 |str _=>let⟨t,rfl⟩:=r;rfl
 |byt _=>let⟨t,rfl⟩:=r;rfl
 |flt _=>let⟨t,rfl⟩:=r;rfl
 |ref _=>cases r;rfl
 |ty _=>cases r;rfl
theorem vF{j p}(c:PE X a ta):PC X .Is a (.Constant .none j p) (LP ta):=by intro P s d H Q I h;refine aV (c P s d H _ I h) λv S z=>?_;let⟨x,e,i,r,q⟩:=z;exact T3$ is_none_gen #[.bl _,e,i,by rw[r.none_iff];rfl,q]
theorem Ax{j p}(c:PE X a ta):PC X .IsNot a (.Constant .none j p) (Iw ta):=by intro P s d H Q I h;refine aV (c P s d H _ I h) λv S z=>?_;let⟨x,e,i,r,q⟩:=z;exact T3$ isnot_none_gen #[.bl _,e,i,by rw[r.none_iff];rfl,q]
inductive Mu(Q:Bool->Hp->Prop)(x:V)(a:Hp):Prop
 |mk(c:_)(_:x= .bl c)(_:Q c a)
def tB(t:TE):TT:=λc H Q=>t c H (Mu Q)
theorem QQ(h:PC X o a b t)(e:behindInMarks o b=ξ:=by first |exact n _ VU VU |rfl):PT X (.Compare a [o] [b] pos) (tB t):=by intro p s f H Q I g;refine Up (aV (h p s f H _ I g) λv S e=>aV e λu m i=>aV i λc w z=>?_) e;let⟨x,j,k,r,l⟩:=z;let⟨d,rfl,q⟩:=l;cases r;exact PR #[j,k,q]
theorem Yj(h:PE X e t)(c:∀w,isTrue e X.env w=(do let v <- w;standAt e.pos;lu [v] (truthy v)):=by intro _;rfl):PT X e (tB t):=by intro p s f H Q I g;refine isTrue_plain (aV (h p s f H _ I g) λv S z=>?_)$ c _;let⟨x,i,j,r,k⟩:=z;let⟨d,rfl,q⟩:=k;cases r;exact PR #[i,j,q]
variable {tA tB':TT}{rest:List dr}
def LL(t u:TT):TT:=λd H Q=>t d H λc h=>if c=μ then u d h Q else Q ξ h
def MK(t u:TT):TT:=λd H Q=>t d H λc h=>if c=μ then Q μ h else u d h Q
def LQ(t:TT):TT:=λd H Q=>t d H λc h=>Q (!c) h
theorem qd(d:PT X a tA):PW X (.BoolOp .And [a] pos) tA:=by
 intro w p s f H Q I h;refine isTrue_and$ aV (d p s f H Q I h) λc S e=>?_;cases c with
 |true=>exact isTrue_and_nil e
 |false=>exact e
theorem Kk(d:PT X a tA):PW X (.BoolOp .Or [a] pos) tA:=by
 intro w p s f H Q I h;refine isTrue_or$ aV (d p s f H Q I h) λc S e=>?_;cases c with
 |false=>exact isTrue_or_nil e
 |true=>exact e
theorem qL(f:PT X a tA)(g:PW X (.BoolOp .And (b::rest) pos) tB'):PW X (.BoolOp .And (a::b::rest) pos) (LL tA tB'):=by
 intro w p s d H Q I h;refine isTrue_and$ aV (f p s d H _ I h) λc S z=>?_;let⟨e,i,q⟩:=z;cases c with
 |true=>exact g w p S d e Q i q
 |false=>exact#[e,i,q]
theorem Xr(f:PT X a tA)(g:PW X (.BoolOp .Or (b::rest) pos) tB'):PW X (.BoolOp .Or (a::b::rest) pos) (MK tA tB'):=by
 intro w p s d H Q I h;refine isTrue_or$ aV (f p s d H _ I h) λc S z=>?_;let⟨e,i,q⟩:=z;cases c with
 |true=>exact#[e,i,q]
 |false=>exact g w p S d e Q i q
theorem Yk(e:PT X a tA):PT X (.UnaryOp .Not a pos) (LQ tA):=by intro p s f H Q I h;exact isTrue_not$ aV (e p s f H (λc d=>Q (!c) d) I h) λc S #[d,i,q]=>#[d,i,q]
inductive xq(b:TE)(d:St)(Q:VK)(x:V)(a:Hp):Prop
 |mk(c:_)(_:x= .bl c)(_:if c=μ then b d a Q else Q (.bl ξ) a)
def Io(ta tb:TE):TE:=λc H Q=>ta c H (xq tb c Q)
theorem Es(h:PE X a t):PE X (.BoolOp o [a] pos) t:=λp s c H Q I d=>BoolOp_one (h p s c H Q I d)
theorem Eo(f:PE X a ta)(g:PE X (.BoolOp .And (b::rest) pos) tb):PE X (.BoolOp .And (a::b::rest) pos) (Io ta tb):=by
 intro p s d H Q I h;refine BoolOp_and$ aV (f p s d H _ I h) λv S z=>?_;let⟨x,e,i,r,q⟩:=z;let⟨c,rfl,q⟩:=q;cases r;refine PR ?_;cases c with
 |true=>exact g p S d e Q i q
 |false=>exact#[.bl ξ,e,i,Z,q]
def MJ(t:TT)(ta tb:TE):TE:=λd H Q=>t d H λc h=>if c=μ then ta d h Q else tb d h Q
theorem kQ(g:PT X c tA)(j:PE X a ta)(k:PE X b tb):PE X (.IfExp c a b pos) (MJ tA ta tb):=by
 intro p s e H Q I h;refine wpAny_IfExp$ aV (g p s e H _ I h) λd S z=>?_;let⟨f,i,q⟩:=z;cases d with
 |true=>exact j p S e f Q i q
 |false=>exact k p S e f Q i q
end
def aI(K:γ)(H:Hp)(a:η)(x:List V):Prop:=
 Rd H a (.lst x)∨
  ∃(o:hY) (i:Array ζ) (n:Nat),K.lookup a=δ o/\o.cls= .type "list"/\o.dict=θ/\o.data= .seq i n/\i.size<=τ/\aD x i.toList
def aB(K:γ)(H:Hp)(a:η)(x:List V):Prop:=
 Rd H a (.tup x)∨
  ∃(o:hY) (i:Array ζ) (n:Nat),K.lookup a=δ o/\o.cls= .type "tuple"/\o.data= .seq i n/\i.size<=τ/\aD x i.toList
noncomputable def Ld:ζ->Option V
 | .none=>δ .non
 | .bool b=>δ (.bl b)
 | .int i _=>δ (.int i)
 | .str x _=>δ (.str x)
 | .bytes b _=>δ (.byt b)
 | .float b _=>δ (.flt b)
 | .ref a=>↑a
 | .type n=>δ (.ty n)
 |_=>θ
theorem aG.abs(r:aG x u):Ld u=δ x:=by
 cases x with
 |non=>cases r;rfl
 |bl _=>cases r;rfl
 |int _=>let⟨t,rfl⟩:=r;rfl
 |str _=>let⟨t,rfl⟩:=r;rfl
 |byt _=>let⟨t,rfl⟩:=r;rfl
 |flt _=>let⟨t,rfl⟩:=r;rfl
 |ref _=>cases r;rfl
 |ty _=>cases r;rfl
theorem aG.inj{x:V}(r:aG x u)(q:aG y u):x=y:=NH (r.abs.symm.trans q.abs)
theorem aD.inj:∀{x y:List V} {u:List ζ},aD x u->aD y u->x=y
 |_,_,_,.nil,.nil=>rfl
 |_,_,_,.cons r t,.cons R T=>by rw[r.inj R,aD.inj t T]
section
variable {X:Cx}{pins:List (η×hY)}{σ:St}{H:Hp}{s:ι}{a:η}{xs ys:List V}
theorem aI.of{K:γ}(h:H a=δ (.lst xs)):aI K H a xs:=.inl (.inl h)
theorem aB.of{K:γ}(h:H a=δ (.tup xs)):aB K H a xs:=.inl (.inl h)
theorem au.list(I:au X pins σ H s)(h:aI X.K H a xs):∃i:List ζ,aD xs i/\PlainL s.heap a i.toArray/\xs.length<=τ:=by
 rcases h with h | ⟨o,i,n,b,c,d,f,g,r⟩
 .let⟨z,i,n,r,e⟩:=h.ok I.hok;exact#[i,r,#[_,n,e,Z,Z,Z],z]
 .refine#[i.toList,r,#[o,n,I.kIn a o b,c,d,by simpa using f],?_];let e:=r.length;simp only[Nn]at e;omega
theorem au.tuple(I:au X pins σ H s)(h:aB X.K H a xs):∃i:List ζ,aD xs i/\IsTup s.heap a i.toArray/\xs.length<=τ:=by
 rcases h with h | ⟨o,i,n,b,c,d,f,r⟩
 .let⟨z,i,r,p⟩:=h.ok I.hok;exact#[i,r,p,z]
 .refine#[i.toList,r,#[o,I.kIn a o b,c,n,by simpa using d],?_];let e:=r.length;simp only[Nn]at e;omega
theorem au.list_inj(I:au X pins σ H s)(h:aI X.K H a xs)(c:aI X.K H a ys):xs=ys:=by
 obtain⟨b,r,⟨o,n,e,_,_,d⟩,_⟩:=I.list h;obtain⟨i,R,⟨O,N,E,_,_,D⟩,_⟩:=I.list c;rw[e]at E;cases E;rw[d]at D;injection D with f _;let:b=i:=by simpa using Od mS f
 subst this;exact r.inj R
theorem au.tuple_inj(I:au X pins σ H s)(h:aB X.K H a xs)(c:aB X.K H a ys):xs=ys:=by
 obtain⟨b,r,⟨o,e,_,n,d⟩,_⟩:=I.tuple h;obtain⟨i,R,⟨O,E,_,N,D⟩,_⟩:=I.tuple c;rw[e]at E;cases E;rw[d]at D;injection D with f _;let:b=i:=by simpa using Od mS f
 subst this;exact r.inj R
end
noncomputable abbrev Cx.wish(X:Cx)(E:ζ->ι->Prop):Cx:={ X with xe:=E }
noncomputable abbrev Cx.nox(X:Cx):Cx:=X.wish λ_ _=>False
theorem Cx.Ok.wish{X:Cx}(o:X.Ok)(E:ζ->ι->Prop):(X.wish E).Ok:=
 #[o.mod,o.kind,o.glob,o.blt,o.above,o.inj,o.has,o.cab,o.hd,o.frames,o.stk,o.exf,o.bs,o.bsz,o.noex,o.exfs,o.funs,o.frf]
theorem Cx.Ok.unwish{X:Cx}(o:(X.wish E).Ok):X.Ok:=
 #[o.mod,o.kind,o.glob,o.blt,o.above,o.inj,o.has,o.cab,o.hd,o.frames,o.stk,o.exf,o.bs,o.bsz,o.noex,o.exfs,o.funs,o.frf]
section
variable {X:Cx}{pins:List (η×hY)}{σ:St}{H:Hp}{s:ι}{E:ζ->ι->Prop}
theorem au.wish(I:au X pins σ H s)(E:ζ->ι->Prop):au (X.wish E) pins σ H s:=#[I.ok.wish E,I.os,I.bare,I.base,I.loc,I.cell,I.free,I.freeC,I.pin,I.hok,I.len]
theorem au.unwish(I:au (X.wish E) pins σ H s):au X pins σ H s:=#[I.ok.unwish,I.os,I.bare,I.base,I.loc,I.cell,I.free,I.freeC,I.pin,I.hok,I.len]
theorem SP.unwish(h:SP (X.wish E) pins D f c):SP X pins D f c:=by
 cases f with
 |next=>let⟨a,b,I,q⟩:=h;exact#[a,b,I.unwish,q]
 |brk=>let⟨a,b,I,q⟩:=h;exact#[a,b,I.unwish,q]
 |cont=>let⟨a,b,I,q⟩:=h;exact#[a,b,I.unwish,q]
 |ret u=>let⟨v,a,b,I,r,q⟩:=h;exact#[v,a,b,I.unwish,r,q]
theorem mY.nox{st:List cv}(h:mY X.nox st t):mY X st t:=λpins s σ H D I a=>
 N7 (h pins s σ H D (I.wish _) a) (λ_ _ q=>q.unwish) λ_ _ z=>False.elim z
end
section
variable {X:Cx}{st:cv}{rest:List cv}{t u:TS}{e:dr}{te:TE}{pos:Pos}
def xE:TS:=λD a H=>D.nx a H
def cy(t u:TS):TS:=λD a H=>t { D with nx:=u D } a H
theorem jo:mY X [] xE:=λ_ _ a H _ I h=>Pw #[a,H,I,h]
theorem jd(b:PS X st t)(c:mY X rest u):mY X (st::rest) (cy t u):=by
 intro p s d H D I h;refine SX$ aV (b p s d H { D with nx:=u D } I h) λf S q=>?_;cases f with
 |next=>let⟨a,g,i,q⟩:=q;exact c p S a g D i q
 |ret v=>exact q
 |brk=>exact q
 |cont=>exact q
theorem jg(a:PS X st t):mY X [st] t:=by
 intro p s b H D I h;refine SX$ aV (a p s b H D I h) λf S q=>?_;cases f with
 |next=>exact Pw q
 |ret v=>exact q
 |brk=>exact q
 |cont=>exact q
theorem au.quiet(I:au X p a H s):interactive X.env=ξ:=by simp [interactive,I.ok.kind]
def xx(te:TE):TS:=λD a H=>te a H λ_ h=>D.nx a h
theorem jH(b:PE X e te)(c:swapsWith e θ pos.line X.env=pure ξ:=by rfl):PS X (.Expr e pos) (xx te):=by intro p s a H D I h;exact wpAny_Expr_any (aV (b p s a H _ I h) λv S #[x,d,i,r,q]=>#[a,d,i,q]) I.quiet c
def gg(te:TE):TS:=λD a H=>te a H D.rt
theorem jm(b:PE X e te):PS X (.Return (δ e) pos) (gg te):=by intro p s a H D I h;exact wpAny_Return_some$ aV (b p s a H _ I h) λv S #[x,c,i,r,q]=>#[x,a,c,i,r,q]
def gZ(c:TT)(t u:TS):TS:=λD a H=>c a H λb h=>if b=μ then t D a h else u D a h
theorem jy{c:dr}{a b:List cv}{T:TT}(j:PT X c T)(k:mY X a t)(l:mY X b u):PS X (.If c a b pos) (gZ T t u):=by
 intro p s f H D I h;refine wpAny_If$ aV (j p s f H _ I h) λd S z=>?_;let⟨g,i,q⟩:=z;cases d with
 |true=>exact k p S f g D i q
 |false=>exact l p S f g D i q
end
abbrev TG:=V->St->Hp->(St->Hp->Prop)->Prop
abbrev yk:=List V->St->Hp->(St->Hp->Prop)->Prop
def PG(X:Cx)(T:dr)(t:TG):Prop:=
 ∀(p:List (η×hY)) (s:ι) (b:St) (H:Hp) (v:V) (u:ζ) (Q:St->Hp->Prop),au X p b H s->aG v u->t v b H Q->
  π (χ X.prog X.w) X.A (assign T X.env u) (λ_ S=>∃a h,au X p a h S/\Q a h) X.xe s
def FH(X:Cx)(T:List dr)(t:yk):Prop:=
 ∀(p:List (η×hY)) (s:ι) (b:St) (H:Hp) (v:List V) (u:List ζ) (Q:St->Hp->Prop),au X p b H s->aD v u->t v b H Q->
  π (χ X.prog X.w) X.A (assignInOrder ((assignEach T X.env).map (·.2)) u) (λ_ S=>∃a h,au X p a h S/\Q a h) X.xe s
abbrev CH:=V->V->V->Hp->(Hp->Prop)->Prop
def Gb(X:Cx)(t:CH):Prop:=
 ∀(p:List (η×hY)) (s:ι) (a:St) (H:Hp) (o i v:V) (O I u:ζ) (Q:Hp->Prop),au X p a H s->aG o O->aG i I->aG v u->t o i v H Q->
  π (χ X.prog X.w) X.A (setItem O I u) (λ_ S=>∃h,au X p a h S/\Q h) X.xe s
abbrev J':=V->V->Hp->VK->Prop
def Mi(X:Cx)(o:Operator)(t:J'):Prop:=
 ∀(p:List (η×hY)) (s:ι) (a:St) (H:Hp) (x y:V) (v u:ζ) (Q:VK),au X p a H s->aG x v->aG y u->t x y H Q->
  π (χ X.prog X.w) X.A (inplaceOp o v u) (EP X p a Q) X.xe s
section
variable {X:Cx}{pos:Pos}
def bQ(i:Nat):TG:=λv a H Q=>Q (a.set i$ δ v) H
theorem jr{i:Nat}{x:ρ}(a:X.N.Nodup)(b:X.N[i]?=δ x)(c:BC X.env.scope x)(d:X.fn x=μ∨X.env.scope.names.lookup x=δ .local:=by first |exact .inl Z |exact .inr Z |assumption):PG X (.Name x pos) (bQ i):=by intro p s f H v u Q I r h;exact U2$ Ji I a b c r (λS e=>#[_,H,e,h]) d
def yH:yk:=λv a H Q=>v=[]/\Q a H
inductive eL(t:TG)(u:yk)(a:List V)(b:St)(H:Hp)(Q:St->Hp->Prop):Prop
 |mk(v r:_)(_:a=v::r)(_:t v b H λσ' H'=>u r σ' H' Q)
theorem kH:FH X [] yH:=by intro p s a H v u Q I r h;let⟨e,h⟩:=h;subst e;cases r;exact assignInOrder_nil #[a,H,I,h]
theorem jE(b:PG X e t)(c:FH X E u)
  (d:(assignEach (e::E) X.env).map (·.2)=assign e X.env::(assignEach E X.env).map (·.2):=by rfl):FH X (e::E) (eL t u):=by
 intro p s f H V U Q I r h;let⟨v,k,g,h⟩:=h;subst g;cases r with
 |cons r R=>rw[d];refine assignInOrder_cons$ aV (b p s f H _ _ _ I r h) λ_ S z=>?_;let⟨a,i,j,q⟩:=z;exact c p S a i _ _ Q j R q
inductive uB(K:γ)(n:Nat)(t:yk)(v:V)(c:St)(H:Hp)(Q:St->Hp->Prop):Prop
 |mk(a b:_)(_:v= .ref a)(_:aB K H a b)(_:b.length=n)(_:t b c H Q)
theorem zz{n:Nat}(g:X.calm=μ)(h:FH X E t)
  (i:(assignEach E X.env).length=n:=by rfl) (c:(assignEach E X.env).findIdx? (·.1)=θ:=by rfl):PG X (.Tuple E k pos) (uB X.K n t):=by
 intro p s f H v u Q I r d;let⟨a,x,j,l,m,d⟩:=d;subst j;cases r;let⟨q,R,w,B⟩:=I.tuple l;refine assign_Tuple_tuple (I.ok.hd g) w (by simp [i,<- m,R.length]) c λy z=>?_;let A:au X p f H { s with heap:=y }:=I.kept (t':=s.toks) λb o e=>z b o (Nb$ M4 e) e;exact h p _ f H x _ Q A (by simpa using R) d
def Lo(T b:TE)(t:CH):TG:=λv a H Q=>T a H λo h=>b a h λi c=>t o i v c λd=>Q a d
theorem qM{o i:dr}{T c:TE}{t:CH}(d:PE X o T)(e:PE X i c)(f:Gb X t)
  (g:∀v,assign (.Subscript o i pos) X.env v=(do
   let O <- lu [v] (eval o X.env)
   let a <- lu [v,O] (eval i X.env)
   standAt pos
   lu [v,O,a] (setItem O a v)
   release [v,O,a] []):=by intro _;rfl):PG X (.Subscript o i pos) (Lo T c t):=by
 intro p s b H v u Q I r h;rw[g];refine MU$ Np$ aV (d p s b H _ I h) λO S z=>?_;let⟨x,j,k,R,q⟩:=z;refine MU$ Np$ aV (e p S b j _ k q) λa l z=>?_;let⟨y,m,n,w,A⟩:=z;refine MU$ Pr$ MU$ Np$ aV (f p l b m x y v O a u _ n R w r A) λ_ E z=>?_;let⟨B,C,D⟩:=z;exact wpAny_release #[b,B,C,D]
def fe(t:TE)(g:TG):TS:=λD a H=>t a H λx h=>g x a h D.nx
theorem zk{t e:dr}{T:TE}{g:TG}(b:PE X e T)(c:PG X t g)(d:swapsWithSole [t] e pos.line X.env=pure ξ:=by rfl)(f:swappedStores [t] e X.env=pure θ:=by rfl)
  (i:(assignEach [t] X.env).map (·.2)=[assign t X.env]:=by rfl):PS X (.Assign [t] e pos) (fe T g):=by
 intro p s a H D I h;refine wpAny_Assign_stores (aV (b p s a H _ I h) λv S z=>?_) d f;let⟨x,j,k,r,Q⟩:=z;rw[i];exact aV (c p S a j x v _ k r Q) λ_ l q=>q
theorem kO{i:Nat}{x:ρ}{e:dr}{t:TE}{p:Pos}(a:X.N.Nodup)(b:X.N[i]?=δ x)(c:BC X.env.scope x)(d:PE X e t)(f:swapsWith e (δ$ .Name x p) pos.line X.env=pure ξ:=by rfl)(g:X.fn x=μ∨X.env.scope.names.lookup x=δ .local:=by first |exact .inl Z |exact .inr Z |assumption):
  PS X (.Assign [.Name x p] e pos) (fe t$ bQ i):=by
 intro P s j H D I h;refine U3 (aV (d P s j H _ I h) λv S z=>?_) f;let⟨y,k,l,r,q⟩:=z;exact Ji l a b c r (λn m=>#[_,k,m,q]) g
inductive Ip(i:Nat)(a:TE)(b:J')(D:bV)(c:St)(H:Hp):Prop
 |mk(x:_)(_:c[i]?=δ (δ x))(_:a c H λy H1=>b x y H1 λz H2=>D.nx (c.set i (δ z)) H2)
theorem Eu{i:Nat}(q:X.N.Nodup)(g:X.N[i]?=δ x)(f:BC X.env.scope x)(t:PE X e T)(B:Mi X o C)(E:X.fn x=μ∨X.env.scope.names.lookup x=δ .local:=by first |exact .inl Z |exact .inr Z |assumption):
  PS X (.AugAssign (.Name x j) o e pos) (Ip i T C):=by
 intro p s n H D I h;let⟨v,F,h⟩:=h;let⟨m,J,K⟩:=I.loc;let V:IM X.env.scope x:=by rcases f with k |k;exact .inl k;exact .inr$ .inl k
 let⟨u,r,l⟩:=K i x v g F V;refine wpAny_AugAssign_Name ?_;let G:π (χ X.prog X.w) X.A (eval e X.env) (λw S=>π (χ X.prog X.w) X.A (inplaceOp o u w) (λr d=>π (χ X.prog X.w) X.A (storeName X.env x r) (λ_=>SP X p D .next) X.xe d) X.xe S) X.xe s:=by refine aV (t p s n H _ I h) λw L a=>?_;let⟨y,M,O,R,Q⟩:=a;refine aV (B p L n M v y u w _ O r R Q) λz s2 a=>?_;let⟨zv,P,U,W,Y⟩:=a;exact Ji U q g f W (λs3 I3=>#[_,P,I3,Y]) E
 rcases l with ⟨hk,hm⟩ | ⟨hk,c,hc,b⟩
 .exact Uy I.ok.kind hk J hm G
 .rcases hk with hk |hk
  .exact UK I.ok.kind hk hc b G
  .rcases f with k |k
   .let:X.env.scope.names.lookup x=δ .free:=hk;rw[k]at this;cases this
   .let:X.env.scope.names.lookup x=δ .free:=hk;rw[k]at this;cases this
inductive Mp(f:Int->Int->Int)(x y:V)(H:Hp)(Q:VK):Prop
 |mk(i j:_)(_:x= .int i)(_:y= .int j)(_:Q (.int (f i j)) H)
theorem Dj:Mi X .Add (Mp λi j=>i+j):=by intro p s a H x y v u Q I r R h;let⟨i,j,e,E,q⟩:=h;subst e;subst E;let⟨t,rfl⟩:=r;let⟨T,rfl⟩:=R;exact iadd_int #[.int _,H,I.tok _,#[_,Z],q]
end
section
variable {X:Cx}{pos:Pos}
def xI(c:TT)(t:TS):TS:=λD a H=>∃W:Nat->St->Hp->Prop,(∃m,W m a H)/\∀m a H,W m a H->
 c a H λb h=>if b=μ then ∃N:St->Hp->Prop,(∀d e,N d e->∃M,M < m/\W M d e)/\t { D with nx:=N,ct:=N,bk:=D.nx } a h else D.nx a h
theorem Ku(o:PassesOwn (χ X.prog X.w) X.A X.env X.xe)(E:PT X c T)(F:mY X B G):PS X (.While c B [] pos) (xI T G):=by
 intro p s J H D I h;obtain⟨W,⟨M,K⟩,t⟩:=h;refine wpAny_While$ codeAny_whileLoop (λn S=>∃e r,au X p e r S/\W n e r) ?_ M #[J,H,I,K];rintro n L ⟨d,u,O,P⟩;refine O8 o$ aV (E p L d u _ O$ t n d u P) λb R z=>?_;let⟨x,y,q⟩:=z;cases b with
 |true=>
  let⟨N,C,q⟩:=q;rw[M7 Z];refine O8 o$ aV (F p R d x _ y q) λf U Q=>?_;cases f with
  |next=>let⟨a,g,i,j⟩:=Q;let⟨m,k,l⟩:=C a g j;exact#[m,k,a,g,i,l]
  |cont=>let⟨a,g,i,j⟩:=Q;let⟨m,k,l⟩:=C a g j;exact#[m,k,a,g,i,l]
  |brk=>exact Q
  |ret v=>exact Q
 |false=>rw[Na M8];exact Pw #[d,x,y,q]
end
structure It where
 go:Nat->Hp->Prop
 yld:Nat->Hp->V->Hp->Prop
 stop:Nat->Hp->Prop
def gr(X:Cx)(P:List (η×hY))(H:Hp)(b:η):Prop:=
 H b=θ/\b≠X.env.locals/\b∉X.fs/\(b∈X.ex∨X.s₀.heap.objs.size<=b)/\(∀x c,X.env.cells.lookup x=δ c->c≠b)/\∀p∈X.pn++P,p.1≠b
theorem au.fpOk{X:Cx}{d:Hp}(I:au X a i H s)(h:s.heap.objs.size<=b)(f:d b=θ):gr X a d b:=by
 refine#[f,NY$ Nh I.lt h,I.nofs h,.inr$ Ng I.sz h,λx c e z=>?_,λp g z=>?_]
 .let⟨v,q⟩:=I.cell x c e;exact absurd (Nh q.lt (by rw[z];exact h))$ N4 _
 .exact absurd (Nh (M4 (I.pin p g).1) (by rw[z];exact h))$ N4 _
structure om(P:ψ)(w:bU)(K:γ)(tg:dr)(J:It)(fp:List η)(it:η)(tn:Nat->de->Prop):Prop where
 mem:it∈fp
 obj:∀i h,tn i h->∀b∈fp,∃o,h.get? b=δ o/\∀v,o.data≠ .cell v
 keep:∀i h h',tn i h->(∀b∈fp,∀o,h.get? b=δ o->h'.get? b=δ o)->tn i h'
 item:∀(X:Cx),X.prog=P->X.w=w->X.K=K->X.calm=μ->∀(i:Nat) (pins:List (η×hY)) (s:ι) (σ:St) (H:Hp) (E:ζ->ι->Prop),au X pins σ H s->(∀b∈fp,gr X pins H b)->tn i s.heap->J.go i H->
  π (χ P w) X.A (pyNext$ .ref it) (λr s1=>∃u,r=δ u/\
   π (χ P w) X.A (letOwnedTupleGo tg (.ref it) u) (λ_ s2=>∃x H',au X pins σ H' s2/\aG x u/\J.yld i H x H'/\tn (i+1) s2.heap/\∀b∈fp,H' b=θ) E s1) E s
 done:∀(X:Cx),X.prog=P->X.w=w->X.K=K->X.calm=μ->∀(i:Nat) (pins:List (η×hY)) (s:ι) (σ:St) (H:Hp) (E:ζ->ι->Prop),au X pins σ H s->(∀b∈fp,gr X pins H b)->tn i s.heap->J.stop i H->
  π (χ P w) X.A (pyNext$ .ref it) (λr s1=>r=θ/\au X pins σ H s1) E s
 self:∀(A:cc) (i:Nat) (s:ι) (Q:ζ->ι->Prop) (E:ζ->ι->Prop),tn i s.heap->Q (.ref it) s->π (χ P w) A (pyIter$ .ref it) Q E s
abbrev TI:=St->Hp->(It->Hp->Prop)->Prop
def Mh(X:Cx)(p:List (η×hY))(a:St)(T:dr)(R:It->Hp->Prop)(i:ζ)(s:ι):Prop:=
 ∃(I:η) (f:List η) (t:Nat->de->Prop) (J:It) (H:Hp),i= .ref I/\au X p a H s/\om X.prog X.w X.K T J f I t/\t 0 s.heap/\(∀b∈f,gr X p H b)/\R J H
def PI(X:Cx)(t iter:dr)(W:TI):Prop:=
 ∀(p:List (η×hY)) (s:ι) (a:St) (H:Hp) (R:It->Hp->Prop),au X p a H s->W a H R->
  π (χ X.prog X.w) X.A (eval iter X.env) (λv S=>π (χ X.prog X.w) X.A (pyIter v) (Mh X p a t R) X.xe S) X.xe s
theorem Ze{s : ι}{n : String}{Q : Unit -> ι -> Prop}(a : s.heap.get? i = δ o)(b : o.cls = .type n)(c : o.data = .fields v)
    (d : ["enumerate", "zip", "dict_itemiterator", "dict_reverseitemiterator", "odict_iterator", "itertools.zip_longest", "itertools.pairwise"].contains n = ξ) (H : Q () s) : π M A (letOwnedTupleGo t (.ref i) u) Q E s := by
  unfold letOwnedTupleGo;cases t <;> first
    | exact MX H
    | (cases u <;> first
        | exact MX H
        | (refine MU (UX a ?_)
           rw [b, c];show π M A (if (["enumerate", "zip", "dict_itemiterator", "dict_reverseitemiterator", "odict_iterator", "itertools.zip_longest", "itertools.pairwise"].contains n && v[0]? == δ (rawInt _)) = μ then _ else _) Q E s;rw [Na (by intro h; rw [d, UW] at h; cases h)];exact MX H))
noncomputable def xX(K:γ)(a:η):It:=
 #[λi H=>∃X x,aI K H a X/\X[i]?=δ x,λi H x h=>h=H/\∀X,aI K H a X->X[i]?=δ x,λi H=>∃X,aI K H a X/\X.length<=i]
noncomputable def yg(K:γ)(a:η):It:=
 #[λi H=>∃X x,aB K H a X/\X[i]?=δ x,λi H x h=>h=H/\∀X,aB K H a X->X[i]?=δ x,λi H=>∃X,aB K H a X/\X.length<=i]
noncomputable def sX(lo:Int)(n:Nat):It:=#[λi _=>i < n,λi H x h=>h=H/\x= .int (lo+i),λi _=>n<=i]
theorem ZW{P:ψ}{K:γ}(a g:η):om P w K tg (xX K a) [g] g (λi h=>h.IsListIter g a i) where
 mem:=by simp
 obj:=λi h st b j=>by
  let e:b=g:=by simpa using j
  subst e;let⟨o,e,c,d⟩:=st;exact#[o,e,λv z=>by rw[d]at z;cases z]
 keep:=λi h l st k=>st.at λo e=>k g VW o e
 item:=by intro X q r t L i f s M H E I m st y;subst q r t;let⟨N,x,n,A⟩:=y;let⟨B,R,p,O⟩:=I.list n;let⟨u,Q,T⟩:=R.get A;let⟨F,C,U,D,G,J⟩:=m g VW;refine T8 st p.isList (x:=u) (by simpa using Q) λl S V=>?_;let W:au X f M H { s with heap:=l }:=I.turned (t':=s.toks) (λb o j e=>(V.2 b j).trans e) F C D G J;let⟨o,e,c,d⟩:=id S;exact#[u,Z,Ze (s:={ s with heap:=l }) e c d VU #[x,H,W,T,#[Z,λys Y=>by rw[I.list_inj Y n];exact A],S,λb j=>(m b j).1]]
 done:=by intro X q r t L i f s M H E I m st y;subst q r t;let⟨N,n,A⟩:=y;let⟨B,R,p,O⟩:=I.list n;let⟨F,C,U,D,G,J⟩:=m g VW;let hl:=R.length;exact Uo (I.ok.hd L) st p.isList (by simp;omega) λl eb=>#[Z,I.turned (t':=s.toks) (λb o j e=>eb b o j e) F C D G J]
 self:=λ_ _ _ _ _ st h=>wpAny_pyIter_listiter st h
theorem YA{P:ψ}{K:γ}(a g:η):om P w K tg (yg K a) [g] g (λi h=>h.IsTupleIter g a i) where
 mem:=by simp
 obj:=λi h st b j=>by
  let e:b=g:=by simpa using j
  subst e;let⟨o,e,c,d⟩:=st;exact#[o,e,λv z=>by rw[d]at z;cases z]
 keep:=λi h m st k=>st.at λo e=>k g VW o e
 item:=by intro X r t y L i f s M H E I n st A;subst r t y;let⟨N,x,q,B⟩:=A;let⟨l,R,p,O⟩:=I.tuple q;let⟨u,Q,T⟩:=R.get B;let⟨F,C,U,D,G,J⟩:=n g VW;refine wpAny_pyNext_tuple_item st (show s.heap.IsTuple a l.toArray from p) (x:=u) (by simpa using Q) λm S V=>?_;let W:au X f M H { s with heap:=m }:=I.turned (t':=s.toks) (λb o j e=>(V.2 b j).trans e) F C D G J;let⟨o,e,c,d⟩:=id S;exact#[u,Z,Ze (s:={ s with heap:=m }) e c d VU #[x,H,W,T,#[Z,λys Y=>by rw[I.tuple_inj Y q];exact B],S,λb j=>(n b j).1]]
 done:=by intro X r t y L i f s M H E I n st A;subst r t y;let⟨N,q,B⟩:=A;let⟨l,R,p,O⟩:=I.tuple q;let⟨F,C,U,D,G,J⟩:=n g VW;let hl:=R.length;exact wpAny_pyNext_tuple_end (I.ok.hd L) st (show s.heap.IsTuple a l.toArray from p) (by simp;omega) λm eb=>#[Z,I.turned (t':=s.toks) (λb o j e=>eb b o j e) F C D G J]
 self:=λ_ _ _ _ _ st h=>wpAny_pyIter_tupleiter st h
theorem YB{P:ψ}{K:γ}(a:η)(lo:Int)(n:Nat):om P w K M (sX lo n) [a] a (λi h=>IsRangeIter h a (lo+(i:Nat)*1) ((n:Int) - (i:Nat)) 1) where
 mem:=by simp
 obj:=λi h st b c=>by
  let e:b=a:=by simpa using c
  subst e;exact#[_,st,λv z=>by
   let B:Data.fields _=Data.cell v:=z;cases B]
 keep:=λi h d st k=>k a VW _ st
 item:=by intro X g j l m i p s A H E I f st q;subst g j l;let⟨F,r,C,u,x,y⟩:=f a VW;let W:=Walks.range (prog:=X.prog) (w:=X.w) (I.ok.hd m) a lo 1 n;refine W.item i s _ _ q st λv d T D S G=>?_;let⟨t,rfl⟩:=D;let J:au X p A H { s with heap:=d,toks:=T }:=I.turned (λb o c e=>G b o (by simpa using c) e) F r u x y;refine#[_,Z,Ze (s:={ s with heap:=d,toks:=T }) (n:="range_iterator") S Z Z VU #[.int$ lo+i,H,J,#[t,?_],#[Z,Z],S,λb c=>(f b c).1]];rw[Int.mul_one]
 done:=by intro X g j l m i p s A H E I f st q;subst g j l;let⟨F,r,C,u,x,y⟩:=f a VW;exact wpAny_pyNext_range_end (I.ok.hd m) st (by let:n<=i:=q;omega) λd L=>#[Z,I.turned (t':=s.toks) (λb o c e=>L b o c e) F r u x y]
 self:=λ_ _ _ _ _ st h=>wpAny_pyIter_rangeiter st h
section
variable {X:Cx}{tg:dr}
inductive uE(K:γ)(R:It->Hp->Prop)(x:V)(b:Hp):Prop
 |mk(a:_)(_:x= .ref a)(_:∃xs,aI K b a xs)(_:R (xX K a) b)
def BX(K:γ)(t:TE):TI:=λa H R=>t a H (uE K R)
inductive BZ(K:γ)(R:It->Hp->Prop)(x:V)(b:Hp):Prop
 |mk(a:_)(_:x= .ref a)(_:∃xs,aB K b a xs)(_:R (yg K a) b)
def Lq(K:γ)(t:TE):TI:=λa H R=>t a H (BZ K R)
theorem zc(c:PE X l t):PI X tg l (BX X.K t):=by
 intro P s d H R I h;refine aV (c P s d H _ I h) λv S z=>?_;let⟨x,f,i,r,Q⟩:=z;obtain⟨a,e,⟨m,g⟩,q⟩:=Q;subst e;cases r;let⟨j,n,p,u⟩:=i.list g;refine RF p.isList ?_;refine#[S.heap.objs.size,[S.heap.objs.size],_,_,f,Z,i.kept (t':=S.toks) λb o e=>MW _ e,ZW a _,#[_,M3 _ Z,Z,Z],λb k=>?_,q];let e:b=S.heap.objs.size:=by simpa using k
 subst e;exact i.fpOk (M0 _)$ i.hok.fresh$ M0 _
theorem qp(d:PE X l t):PI X tg l (Lq X.K t):=by
 intro P s f H R I h;refine aV (d P s f H _ I h) λv S z=>?_;let⟨x,g,i,r,Q⟩:=z;obtain⟨a,e,⟨m,j⟩,q⟩:=Q;subst e;cases r;let⟨c,n,p,u⟩:=i.tuple j;refine Pz (show S.heap.IsTuple a c.toArray from p) ?_;refine#[S.heap.objs.size,[S.heap.objs.size],_,_,g,Z,i.kept (t':=S.toks) λb o e=>MW _ e,YA a _,#[_,M3 _ Z,Z,Z],λb k=>?_,q];let e:b=S.heap.objs.size:=by simpa using k
 subst e;exact i.fpOk (M0 _)$ i.hok.fresh$ M0 _
theorem Xz{R:It->Hp->Prop}{lo:Int}(I:au X p a H s)(c: -(2 ^ 62)<=lo)(d:lo < 2 ^ 62)(f: -(2 ^ 62)<=h)(g:h < 2 ^ 62)
  (q:R (sX lo (h - lo).toNat) H):π (χ X.prog X.w) X.A (pyIter$ .ref s.heap.objs.size) (Mh X p a tg R) E { s with heap:=s.heap.push { cls:=.type "range",data:=.fields (ε [.int lo t,.int h u,.int 1 v]) },toks:=T }:=by
 refine wpAny_pyIter_range (IsRange.new ..) (small_one c d f g) ?_;let i:au X p a H { s with heap:=s.heap.push { cls:=.type "range",data:=.fields (ε [.int lo t,.int h u,.int 1 v]) },toks:=T }:=I.kept λb o e=>MW _ e;refine#[(s.heap.push { cls:=.type "range",data:=.fields (ε [.int lo t,.int h u,.int 1 v]) }).objs.size,[(s.heap.push { cls:=.type "range",data:=.fields (ε [.int lo t,.int h u,.int 1 v]) }).objs.size],_,_,H,Z,
  i.kept (t':=T) λb o e=>MW _ e,YB _ lo (h - lo).toNat,?_,λb j=>?_,q]
 .let k:lo+((0:Nat):Int)*1=lo:=by simp
  let l:(((h - lo).toNat:Nat):Int) - ((0:Nat):Int)=Builtin.Range.rangeSize lo h 1:=by rw[rangeSize_one];split<;>omega
  show IsRangeIter _ _ (lo+((0:Nat):Int)*1) ((((h - lo).toNat:Nat):Int) - ((0:Nat):Int)) 1;rw[k,l];exact M3 _ Z
 .let e:b=(s.heap.push { cls:=.type "range",data:=.fields (ε [.int lo t,.int h u,.int 1 v]) }).objs.size:=by simpa using j
  subst e;exact i.fpOk (M0 _)$ i.hok.fresh$ M0 _
inductive uF(R:It->Hp->Prop)(b:List V)(a:Hp):Prop
 |mk(j:Int)(_:b=[.int j])(_:-(2 ^ 62)<=j)(_:j < 2 ^ 62)(_:R (sX 0 j.toNat) a)
def GV(t:TA):TI:=λa H R=>t a H (uF R)
inductive uG(R:It->Hp->Prop)(b:List V)(a:Hp):Prop
 |mk(i j:Int)(_:b=[.int i,.int j])(_:-(2 ^ 62)<=i/\i < 2 ^ 62/\ -(2 ^ 62)<=j/\j < 2 ^ 62)(_:R (sX i (j - i).toNat) a)
def GX(t:TA):TI:=λa H R=>t a H (uG R)
theorem kM{a:dr}{T:TA}{p P:Pos}(c:Gl X "range")(d:X.mg "range"=θ)(f:PA X [a] T)(g:Δ [a] X.env=[(ξ,eval a X.env)]:=by rfl):PI X tg (.Call (.Name "range" p) [a] [] P) (GV T):=by
 intro b s i H R I h;refine Call_$ zy I c d boot_range$ NG (aV (f P b s i H _ I h) λu S z=>?_) g Z;let⟨v,o,k,l,Q⟩:=z;let⟨j,e,Q,m,q⟩:=Q;subst e;cases l with
 |cons r n=>cases n;let⟨t,rfl⟩:=r;exact call_range_1$ Xz k VV VV Q m (by simpa using q)
theorem zW(g:Gl X "range")(k:X.mg "range"=θ)(l:PA X [a,b] T)(m:Δ [a,b] X.env=[(ξ,eval a X.env),(ξ,eval b X.env)]:=by rfl)(c:Δ [b] X.env=[(ξ,eval b X.env)]:=by rfl):
  PI X tg (.Call (.Name "range" p) [a,b] [] d) (GX T):=by
 intro P s n H R I h;refine Call_$ zy I g k boot_range$ NG (aV (l d P s n H _ I h) λU S #[V,z,o,u,Q]=>?_) (by rw[m,c]) (by rw[c];rfl);obtain⟨i,j,e,⟨Q,v,w,x⟩,q⟩:=Q;subst e;cases u with
 |cons r f=>
  cases f with
  |cons y f=>cases f;let⟨t,rfl⟩:=r;let⟨A,rfl⟩:=y;exact call_range_2$ Xz o Q v w x q
def Fi(w:TI)(g:TG)(t:TS):TS:=λD a H=>w a H λJ d=>∃W:Nat->Nat->St->Hp->Prop,(∃m,W 0 m a d)/\∀i m a H,W i m a H->
 (J.stop i H/\D.nx a H)∨(J.go i H/\∃N:St->Hp->Prop,(∀b h,N b h->∃M,M < m/\W (i+1) M b h)/\∀x h,J.yld i H x h->g x a h λc e=>t { D with nx:=N,ct:=N,bk:=D.nx } c e)
noncomputable def lY(f:List η)(h:de):List (η×hY):=f.filterMap λb=>(h.get? b).map λo=>(b,o)
theorem zh{h:de}(H:b∈f)(e:h.get? b=δ o):(b,o)∈lY f h:=List.mem_filterMap.mpr #[b,H,by rw[e];rfl]
theorem ZX(H:p∈lY f h):p.1∈f/\h.get? p.1=δ p.2:=by
 let⟨b,a,e⟩:=List.mem_filterMap.mp H;cases q:h.get? b with
 |none=>rw[q]at e;cases e
 |some o=>rw[q]at e;let E:(b,o)=p:=NH e;subst E;exact#[a,q]
theorem au.pinned(I:au X a c H s)(g:∀b∈f,gr X a H b)(i:∀b∈f,∃o,s.heap.get? b=δ o/\∀v,o.data≠ .cell v):au X (a++lY f s.heap) c H s:=
 I.pins_of λp j=>(Ξ.mp j).elim (λz=>I.pin p (Nk _ z)) λz=>by let⟨h,e⟩:=ZX z;let⟨F,k,l,_⟩:=g p.1 h;let⟨o,E,d⟩:=i p.1 h;rw[e]at E;cases E;exact#[e,F,k,l,d]
theorem au.unpinned(I:au X (a++c) b H s):au X a b H s:=I.pins_of λp h=>I.pin p (Nk _$ On _ h)
theorem jU{iter:dr}{B:List cv}{wi:TI}{g:TG}{tb:TS}{P:Pos}(C:PassesOwn (χ X.prog X.w) X.A X.env X.xe)(hc:X.calm=μ)(hi:PI X tg iter wi)(hg:PG X tg g)(c:mY X B tb)
  (hs:∀x,foldedSetIterable iter X.env x=pure x:=by intro _;rfl):PS X (.For tg iter B [] P) (Fi wi g tb):=by
 intro p s σ H D I h;refine wpAny_For (aV (hi p s σ H _ I h) λv s1 h1=>aV h1 λi0 s2 h2=>?_) hs;obtain⟨it,F,tn,J,H2,e,I2,T,O,f2,W,⟨m0,w0⟩,E⟩:=h2;subst e;let S:∀{t:Hp},(∀b∈F,t b=θ)->∀b∈F,gr X p t b:=λhn b c=>#[hn b c,(f2 b c).2];refine codeAny_forLoop_any (λn s'=>∃i j t,au X p j t s'/\tn i s'.heap/\(∀b∈F,t b=θ)/\W i n j t) ?_ m0 #[0,σ,H2,I2,O,λb c=>(f2 b c).1,w0];rintro n s3 ⟨i,k,M,I3,G,K,w3⟩;rcases E i n k M w3 with ⟨stop,qn⟩ | ⟨go,N,hN,step⟩
 .refine O8 C$ aV (T.done X Z Z Z hc i p s3 k M X.xe I3 (S K) G stop) λr s4 z=>?_;let⟨R,I4⟩:=z;subst R;exact Pw #[k,M,I4,qn]
 .refine O8 C$ aV (T.item X Z Z Z hc i p s3 k M X.xe I3 (S K) G go) λr s4 z=>?_;let⟨u,R,h4⟩:=z;subst R;refine O8 C$ aV h4 λ_ s5 z=>?_;let⟨x,H5,I5,r5,y5,y,U⟩:=z;let V:=I5.pinned (S U) (T.obj _ _ y);refine O8 C$ aV (hg _ s5 k H5 x u _ V r5$ step x H5 y5) λ_ s6 z=>?_;let⟨Y,H6,I6,q6⟩:=z;refine O8 C$ aV (c _ s6 Y H6 _ I6 q6) λf s7 Q=>?_;let again:∀{a:St} {l:Hp},au X (p++lY F s5.heap) a l s7->N a l->∃m,m < n/\∃i j t,au X p j t s7/\tn i s7.heap/\(∀b∈F,t b=θ)/\W i m j t:=λ{a l} q L=>by let⟨m',hm,w7⟩:=hN a l L;refine#[m',hm,i+1,a,l,q.unpinned,T.keep _ _ _ y λb c o e=>(q.pin (b,o)$ Nk _$ Nk _$ zh c e).1,λb c=>?_,w7];let⟨o,e,d⟩:=T.obj _ _ y b c;exact(q.pin (b,o)$ Nk _$ Nk _$ zh c e).2.1
  cases f with
  |next=>let⟨a,l,q,L⟩:=Q;exact again q L
  |cont=>let⟨a,l,q,L⟩:=Q;exact again q L
  |brk=>let⟨a,l,q,Q⟩:=Q;exact#[a,l,q.unpinned,Q]
  |ret v=>let⟨x7,a,l,q,r7,Q⟩:=Q;exact#[x7,a,l,q.unpinned,r7,Q]
end
theorem uu{K:γ}{a:η}{X:List V}{g:TG}{t:TS}{D:bV}{b:St}{H:Hp}(Pv:Nat->St->Hp->Prop)(k:Pv 0 b H)(l:∀i b H,i<=X.length->Pv i b H->aI K H a X)
  (n:∀i x b H,X[i]?=δ x->Pv i b H->g x b H λc j=>t { D with nx:=Pv (i+1),ct:=Pv (i+1),bk:=D.nx } c j) (o:∀b H,Pv X.length b H->D.nx b H):
  ∃W:Nat->Nat->St->Hp->Prop,(∃m,W 0 m b H)/\∀i m b H,W i m b H->
   ((xX K a).stop i H/\D.nx b H)∨((xX K a).go i H/\∃N:St->Hp->Prop,(∀d h,N d h->∃M,M < m/\W (i+1) M d h)/\∀x h,(xX K a).yld i H x h->g x b h λc j=>t { D with nx:=N,ct:=N,bk:=D.nx } c j):=by
 refine#[λi m b H=>m=X.length - i/\i<=X.length/\Pv i b H,#[X.length,VW,M6 _,k],?_];rintro i m b H ⟨rfl,r,p⟩;let q:=l i b H r p;by_cases f:i < X.length
 .refine .inr #[#[X,X[i],q,by simp [f]],Pv$ i+1,λd h P=>#[X.length - (i+1),VV,Z,f,P],λx h y=>?_];let⟨e,y⟩:=y;subst e;exact n i x b _ (y X q) p
 .let e:i=X.length:=by omega
  subst e;exact .inl #[#[X,q,M0 _],o b H p]
theorem yG{K:γ}{a:η}{X:List V}{g:TG}{t:TS}{D:bV}{b:St}{H:Hp}(Pv:Nat->St->Hp->Prop)(k:Pv 0 b H)(l:∀i b H,i<=X.length->Pv i b H->aB K H a X)
  (n:∀i x b H,X[i]?=δ x->Pv i b H->g x b H λc j=>t { D with nx:=Pv (i+1),ct:=Pv (i+1),bk:=D.nx } c j) (o:∀b H,Pv X.length b H->D.nx b H):
  ∃W:Nat->Nat->St->Hp->Prop,(∃m,W 0 m b H)/\∀i m b H,W i m b H->
   ((yg K a).stop i H/\D.nx b H)∨((yg K a).go i H/\∃N:St->Hp->Prop,(∀d h,N d h->∃M,M < m/\W (i+1) M d h)/\∀x h,(yg K a).yld i H x h->g x b h λc j=>t { D with nx:=N,ct:=N,bk:=D.nx } c j):=by
 refine#[λi m b H=>m=X.length - i/\i<=X.length/\Pv i b H,#[X.length,VW,M6 _,k],?_];rintro i m b H ⟨rfl,r,p⟩;let q:=l i b H r p;by_cases f:i < X.length
 .refine .inr #[#[X,X[i],q,by simp [f]],Pv$ i+1,λd h P=>#[X.length - (i+1),VV,Z,f,P],λx h y=>?_];let⟨e,y⟩:=y;subst e;exact n i x b _ (y X q) p
 .let e:i=X.length:=by omega
  subst e;exact .inl #[#[X,q,M0 _],o b H p]
theorem Qt{lo:Int}{n:Nat}{g:TG}{t:TS}{D:bV}{a:St}{H:Hp}(Pv:Nat->St->Hp->Prop)(j:Pv 0 a H)
  (k:∀i a H,i < n->Pv i a H->g (.int$ lo+i) a H λb f=>t { D with nx:=Pv (i+1),ct:=Pv (i+1),bk:=D.nx } b f) (l:∀a H,Pv n a H->D.nx a H):
  ∃W:Nat->Nat->St->Hp->Prop,(∃m,W 0 m a H)/\∀i m a H,W i m a H->
   ((sX lo n).stop i H/\D.nx a H)∨((sX lo n).go i H/\∃N:St->Hp->Prop,(∀c h,N c h->∃M,M < m/\W (i+1) M c h)/\∀x h,(sX lo n).yld i H x h->g x a h λb f=>t { D with nx:=N,ct:=N,bk:=D.nx } b f):=by
 refine#[λi m a H=>m=n - i/\i<=n/\Pv i a H,#[n,VW,M6 _,j],?_];rintro i m a H ⟨rfl,o,p⟩;by_cases d:i < n
 .refine .inr #[d,Pv$ i+1,λc h P=>#[n - (i+1),VV,Z,d,P],λx h y=>?_];let⟨e,y⟩:=y;subst e y;exact k i a _ d p
 .let e:i=n:=by omega
  subst e;exact .inl #[M0 _,l a H p]
abbrev R2:=V->V->Hp->VK->Prop
def fh(X:Cx)(f:ζ->ζ->Sem ζ)(r:R2):Prop:=
 ∀(p:List (η×hY)) (s:ι) (a:St) (H:Hp) (x y:V) (v u:ζ) (Q:VK),au X p a H s->aG x v->aG y u->r x y H Q->
  π (χ X.prog X.w) X.A (f v u) (EP X p a Q) X.xe s
def Lb(X:Cx)(f:ζ->Sem ζ)(r:V->Hp->VK->Prop):Prop:=
 ∀(p:List (η×hY)) (s:ι) (a:St) (H:Hp) (x:V) (v:ζ) (Q:VK),au X p a H s->aG x v->r x H Q->
  π (χ X.prog X.w) X.A (f v) (EP X p a Q) X.xe s
def eI(X:Cx)(f:ζ)(r:List V->Hp->VK->Prop):Prop:=
 ∀(p:List (η×hY)) (s:ι) (a:St) (H:Hp) (x:List V) (u:List ζ) (Q:VK),au X p a H s->aD x u->r x H Q->
  π (χ X.prog X.w) X.A (call f u) (EP X p a Q) X.xe s
def La(X:Cx)(r:V->Hp->(Bool->Hp->Prop)->Prop):Prop:=
 ∀(p:List (η×hY)) (s:ι) (a:St) (H:Hp) (x:V) (v:ζ) (Q:Bool->Hp->Prop),au X p a H s->aG x v->r x H Q->
  π (χ X.prog X.w) X.A (truthy v) (TP X p a Q) X.xe s
def g9(r:R2)(t T:TE):TE:=λa H Q=>t a H λx h=>T a h λy b=>r x y b Q
def ML(r:V->Hp->VK->Prop)(t:TE):TE:=λa H Q=>t a H λx h=>r x h Q
inductive rI(C:Int->Int->Prop)(g:Int->Int->V)(x y:V)(H:Hp)(Q:VK):Prop
 |mk(i j:_)(_:x= .int i)(_:y= .int j)(_:C i j)(_:Q (g i j) H)
inductive AG(g:Int->Int->V)(x y:V)(H:Hp)(Q:VK):Prop
 |mk(i j:_)(_:x= .int i)(_:y= .int j)(_:Q (g i j) H)
inductive rU(g:Int->V)(x:V)(H:Hp)(Q:VK):Prop
 |mk(i:_)(_:x= .int i)(_:Q (g i) H)
section
variable {X:Cx}{a b c:dr}{ta tb tc:TE}{pos:Pos}
theorem CQ(k:PE X a ta)(l:PE X b tb){R:V->V->Hp->Prop}(I:au X p e H s)
  (h:ta e H λx j=>tb e j λy d=>R x y d)  {f:ζ->ζ->Sem ζ}
  (m:∀v u i x y d,au X p e d i->aG x v->aG y u->R x y d->π (χ X.prog X.w) X.A (f v u) Q X.xe i):
  π (χ X.prog X.w) X.A (eval a X.env) (λv S=>π (χ X.prog X.w) X.A (eval b X.env) (λu g=>π (χ X.prog X.w) X.A (f v u) Q X.xe g) X.xe S) X.xe s:=by
 refine aV (k p s e H _ I h) λv n z=>?_;let⟨x,j,o,r,q⟩:=z;refine aV (l p n e j _ o q) λu i z=>?_;let⟨y,d,t,B,C⟩:=z;exact m v u i x y d t r B C
theorem jx{o:Operator}{r:R2}(d:fh X (binaryOp o) r)(e:PE X a ta)(f:PE X b tb):PE X (.BinOp a o b pos) (g9 r ta tb):=by intro p s g H Q I h;exact wpAny_BinOp$ CQ e f I h λv u S x y i j R k q=>d p S g i x y v u Q j R k q
theorem vI(e:Lb X (unaryOp o) r)(f:PE X a ta):PE X (.UnaryOp o a pos) (ML r ta):=by intro p s d H Q I h;exact UnaryOp_$ aV (f p s d H _ I h) λv S #[x,g,i,R,q]=>e p S d g x v Q i R q
theorem IQ{f:ζ->ζ->Sem ζ}{C:Int->Int->Prop}{g:Int->Int->Int}
  (rule:∀(i j:Int) (t u:Tok) (s:ι) (Q:ζ->ι->Prop) (E:ζ->ι->Prop),C i j->Q (.int (g i j) s.toks) { s with toks:=s.toks+1 }->π (χ X.prog X.w) X.A (f (.int i t)$ .int j u) Q E s):
  fh X f (rI C λi j=>.int (g i j)):=by
 intro p s e H x y v u Q I r R h;let⟨i,j,rfl,rfl,d,q⟩:=h;let⟨t,rfl⟩:=r;let⟨T,rfl⟩:=R;exact rule i j t T s _ _ d #[.int$ g i j,H,I.tok _,#[_,Z],q]
theorem Hu{f:ζ->ζ->Sem ζ}{g:Int->Int->Int}
  (rule:∀(i j:Int) (t u:Tok) (s:ι) (Q:ζ->ι->Prop) (E:ζ->ι->Prop),Q (.int (g i j) s.toks) { s with toks:=s.toks+1 }->π (χ X.prog X.w) X.A (f (.int i t)$ .int j u) Q E s):
  fh X f (AG λi j=>.int (g i j)):=by
 intro p s d H x y v u Q I r R h;let⟨i,j,rfl,rfl,q⟩:=h;let⟨t,rfl⟩:=r;let⟨T,rfl⟩:=R;exact rule i j t T s _ _ #[.int$ g i j,H,I.tok _,#[_,Z],q]
theorem Ef{f:ζ->ζ->Sem ζ}{g:Int->Int->Bool}
  (rule:∀(i j:Int) (t u:Tok) (s:ι) (Q:ζ->ι->Prop) (E:ζ->ι->Prop),Q (.bool$ g i j) s->π (χ X.prog X.w) X.A (f (.int i t)$ .int j u) Q E s):
  fh X f (AG λi j=>.bl (g i j)):=by
 intro p s d H x y v u Q I r R h;let⟨i,j,rfl,rfl,q⟩:=h;let⟨t,rfl⟩:=r;let⟨T,rfl⟩:=R;exact rule i j t T s _ _ #[.bl$ g i j,H,I,Z,q]
def IV(i j:Int):Prop:=0<=j/\j<=1000000/\i.natAbs < 2 ^ 64
def yb(i j:Int):Prop:=(-(2 ^ 64) < i/\i < 2 ^ 64)∨(-(2 ^ 64) < j/\j < 2 ^ 64)
theorem yb.ok(h:yb i j):IntMulOk i j:=by
 rcases h with ⟨H,d⟩ | ⟨H,d⟩
 .exact .of_left$ intBits_le_64 H d
 .exact .of_right$ intBits_le_64 H d
theorem jX:fh X (binaryOp .Add) (AG λi j=>.int (i+j)):=Hu λ_ _ _ _ _ _ _ q=>add_int q
theorem kP:fh X (binaryOp .Sub) (AG λi j=>.int (i - j)):=Hu λ_ _ _ _ _ _ _ q=>sub_int q
theorem zA:fh X (binaryOp .Mult) (rI yb λi j=>.int (i*j)):=IQ λ_ _ _ _ _ _ _ h q=>mul_int q h.ok
theorem zg:fh X (binaryOp .Mod) (rI (λ_ j=>0 < j) λi j=>.int (i % j)):=IQ λi j _ _ _ _ _ h q=>by let H:(0:Int) < j:=h;exact mod_int' VV (by rw[Int.fmod_eq_emod_of_nonneg i VV];exact q)
theorem JB:fh X (binaryOp .Pow) (rI IV λi j=>.int (i ^ j.toNat)):=IQ λ_ _ _ _ _ _ _ h q=>pow_int_small h.1 h.2.1 h.2.2 q
theorem MN{f:ζ->Sem ζ}{g:Int->Int}
  (rule:∀(i:Int) (t:Tok) (s:ι) (Q:ζ->ι->Prop) (E:ζ->ι->Prop),Q (.int (g i) s.toks) { s with toks:=s.toks+1 }->π (χ X.prog X.w) X.A (f$ .int i t) Q E s):
  Lb X f (rU λi=>.int (g i)):=by
 intro p s d H x v Q I r h;let⟨i,rfl,q⟩:=h;let⟨t,rfl⟩:=r;exact rule i t s _ _ #[.int$ g i,H,I.tok _,#[_,Z],q]
theorem Yl:Lb X (unaryOp .USub) (rU λi=>.int (-i)):=MN λ_ _ _ _ _ q=>neg_int q
end
noncomputable def Ia:V->V->Bool
 | .non,.non=>μ | .non,.int _=>μ | .int _,.non=>μ | .non,.bl _=>μ | .bl _,.non=>μ | .non,.str _=>μ | .str _,.non=>μ
 | .int _,.int _=>μ | .bl _,.bl _=>μ | .str _,.str _=>μ | .byt _,.byt _=>μ
 | .int _,.str _=>μ | .str _,.int _=>μ | .bl _,.str _=>μ | .str _,.bl _=>μ
 |_,_=>ξ
def Lx:R2:=λx y H Q=>Ia x y=μ/\Q (.bl$ decide$ x=y) H
def Mr:R2:=λx y H Q=>Ia x y=μ/\Q (.bl (!decide (x=y))) H
theorem Zl:decide (rz i=rz j)=(i==j):=by rw[RP];simp
theorem tS:decide (V.bl i=V.bl j)=(i==j):=by rw[RP];simp
theorem Zm:decide (ry i=ry j)=(i==j):=by rw[RP];simp
theorem Zn:decide (V.byt i=V.byt j)=(i.toList==j.toList):=by rw[RP];cases i;cases j;simp
section
variable {X:Cx}{a b c:dr}{ta tb tc:TE}{pos:Pos}
theorem jQ{Q:VK}(I:au X p d H s)(q:Q (.bl k) H)(e:k=f):EP X p d Q (.bool f) s:=by subst e;exact#[.bl k,H,I,Z,q]
theorem qW:fh X (compareOp .Eq) Lx:=by
 intro p s e H x y v u Q I R r h;let⟨d,q⟩:=h;cases x with
 |non=>
  cases R;cases y with
  |non=>cases r;exact Vx (jQ I q VW)
  |bl j=>cases r;exact Vz (jQ I q VW)
  |int j=>let⟨T,rfl⟩:=r;exact Vy (jQ I q VW)
  |str j=>let⟨T,rfl⟩:=r;exact Vw (jQ I q VW)
  |_=>exact absurd (show ξ=μ from d) M8
 |bl i=>
  cases R;cases y with
  |non=>cases r;exact VB (jQ I q VW)
  |bl j=>cases r;exact eq_bool (jQ I q tS)
  |str j=>let⟨T,rfl⟩:=r;exact Vk (jQ I q VW)
  |_=>exact absurd (show ξ=μ from d) M8
 |int i=>
  let⟨t,rfl⟩:=R;cases y with
  |non=>cases r;exact VA (jQ I q VW)
  |int j=>let⟨T,rfl⟩:=r;exact eq_int (jQ I q Zl)
  |str j=>let⟨T,rfl⟩:=r;exact Vj (jQ I q VW)
  |_=>exact absurd (show ξ=μ from d) M8
 |str i=>
  let⟨t,rfl⟩:=R;cases y with
  |non=>cases r;exact Vv (jQ I q VW)
  |bl j=>cases r;exact Vi (jQ I q VW)
  |int j=>let⟨T,rfl⟩:=r;exact Vh (jQ I q VW)
  |str j=>let⟨T,rfl⟩:=r;exact eq_str (jQ I q Zm)
  |_=>exact absurd (show ξ=μ from d) M8
 |byt i=>
  let⟨t,rfl⟩:=R;cases y with
  |byt j=>let⟨T,rfl⟩:=r;exact PySem.W.eq_bytes (jQ I q Zn)
  |_=>exact absurd (show ξ=μ from d) M8
 |_=>cases y<;>exact absurd (show ξ=μ from d) M8
theorem Xs:fh X (compareOp .NotEq) Mr:=by
 intro p s e H x y v u Q I R r h;let⟨d,q⟩:=h;cases x with
 |non=>
  cases R;cases y with
  |non=>cases r;exact Vq (jQ I q VW)
  |bl j=>cases r;exact Vs (jQ I q VW)
  |int j=>let⟨T,rfl⟩:=r;exact Vr (jQ I q VW)
  |str j=>let⟨T,rfl⟩:=r;exact Vp (jQ I q VW)
  |_=>exact absurd (show ξ=μ from d) M8
 |bl i=>
  cases R;cases y with
  |non=>cases r;exact Vu (jQ I q VW)
  |bl j=>cases r;exact ne_bool (jQ I q (Od not tS))
  |str j=>let⟨T,rfl⟩:=r;exact Vg (jQ I q VW)
  |_=>exact absurd (show ξ=μ from d) M8
 |int i=>
  let⟨t,rfl⟩:=R;cases y with
  |non=>cases r;exact Vt (jQ I q VW)
  |int j=>let⟨T,rfl⟩:=r;exact ne_int (jQ I q (Od not Zl))
  |str j=>let⟨T,rfl⟩:=r;exact Vf (jQ I q VW)
  |_=>exact absurd (show ξ=μ from d) M8
 |str i=>
  let⟨t,rfl⟩:=R;cases y with
  |non=>cases r;exact Vo (jQ I q VW)
  |bl j=>cases r;exact Ve (jQ I q VW)
  |int j=>let⟨T,rfl⟩:=r;exact Vd (jQ I q VW)
  |str j=>let⟨T,rfl⟩:=r;exact ne_str (jQ I q (Od not Zm))
  |_=>exact absurd (show ξ=μ from d) M8
 |byt i=>
  let⟨t,rfl⟩:=R;cases y with
  |byt j=>let⟨T,rfl⟩:=r;exact PySem.W.ne_bytes (jQ I q (Od not Zn))
  |_=>exact absurd (show ξ=μ from d) M8
 |_=>cases y<;>exact absurd (show ξ=μ from d) M8
theorem Ql:fh X (compareOp .Lt) (AG λi j=>.bl (decide$ i < j)):=Ef λ_ _ _ _ _ _ _ q=>lt_int q
theorem qo:fh X (compareOp .Gt) (AG λi j=>.bl (decide$ j < i)):=Ef λ_ _ _ _ _ _ _ q=>gt_int q
theorem vx:fh X (compareOp .GtE) (AG λi j=>.bl (decide$ j<=i)):=Ef λ_ _ _ _ _ _ _ q=>ge_int q
theorem aF(b:dr)(h:o≠ .In:=by decide)(H:o≠ .NotIn:=by decide):behindInMarks o b=ξ:=by
 let e:(o==CmpOp.In)=ξ:=by cases o<;>first |rfl |exact absurd Z h
 let E:(o==CmpOp.NotIn)=ξ:=by cases o<;>first |rfl |exact absurd Z H
 cases b<;>simp [behindInMarks,e,E]
theorem qZ(d:fh X (compareOp o) r)(e:PE X a ta)(f:PE X b tb)(g:behindInMarks o b=ξ):PE X (.Compare a [o] [b] pos) (g9 r ta tb):=by intro p s i H Q I h;exact wpAny_Compare1 (CQ e f I h λv u S x y j k R l q=>d p S i j x y v u Q k R l q) g
inductive xH(Q:Bool->Hp->Prop)(x:V)(a:Hp):Prop
 |mk(k:_)(_:x= .bl k)(_:Q k a)
def nU(t:TE):TT:=λd H Q=>t d H (xH Q)
theorem jz{o:CmpOp}{r:R2}(f:fh X (compareOp o) r)(g:PE X a ta)(i:PE X b tb)(j:behindInMarks o b=ξ):PT X (.Compare a [o] [b] pos) (nU$ g9 r ta tb):=by
 intro p s d H Q I h;refine Up (aV (g p s d H _ I h) λv S #[x,l,m,R,q]=>aV (i p S d l _ m q) λu n #[y,t,w,A,B]=>
  aV (f p n d t x y v u _ w R A B) λc G #[z,C,D,E,k,e,F]=>?_) j
 subst e;cases E;exact PR #[C,D,F]
def Gf(K:γ)(x:V)(H:Hp)(k:Bool):Prop:=
 match x with
 | .non=>k=ξ
 | .bl b=>k=b
 | .int i=>k=(i != 0)
 | .str y=>y.length<=τ/\k=((y.length:Int) != 0)
 | .byt y=>y.size<=τ/\k=((y.size:Int) != 0)
 | .ref p=>(∃d,aI K H p d/\k=!d.isEmpty)∨(∃d,aB K H p d/\k=!d.isEmpty)∨∃e,H p=δ (.dK e)/\k=!e.isEmpty
 |_=>False
theorem YC{d:Type}{k:List (d×V)}{v:List (d×ζ)}(r:KV k v):(!v.isEmpty)=!k.isEmpty:=by cases r<;>rfl
theorem KC(r:aD x i):(!i.toArray.isEmpty)=!x.isEmpty:=by cases r<;>simp
theorem eX:(τ:Nat) < 2 ^ 63:=by rw[O3];decide
theorem Fk:La X (λx H Q=>∃k,Gf X.K x H k/\Q k H):=by
 intro o s B H x v Q I R h;let⟨k,e,q⟩:=h;let C:=eX;let D:τ=16777216:=O3;cases x with
 |non=>cases R;let E:k=ξ:=e;subst E;exact truthy_none #[H,I,q]
 |bl b=>cases R;let E:k=b:=e;subst E;exact PR #[H,I,q]
 |int i=>let⟨t,rfl⟩:=R;let E:k=(i != 0):=e;subst E;exact PySem.P.truthy_int #[H,I,q]
 |str y=>let⟨t,rfl⟩:=R;obtain⟨z,E⟩:y.length<=τ/\k=((y.length:Int) != 0):=e;subst E;exact PySem.P.truthy_str VV #[H,I.tok _,q]
 |byt y=>let⟨t,rfl⟩:=R;obtain⟨z,E⟩:y.size<=τ/\k=((y.size:Int) != 0):=e;subst E;exact PySem.W.truthy_bytes VV #[H,I.tok _,q]
 |ref p=>
  cases R;let E:(∃g,aI X.K H p g/\k=!g.isEmpty)∨(∃g,aB X.K H p g/\k=!g.isEmpty)∨∃d,H p=δ (.dK d)/\k=!d.isEmpty:=e;rcases E with ⟨g,j,E⟩ | ⟨g,j,E⟩ | ⟨d,j,E⟩
  .subst E;let⟨l,r,n,u⟩:=I.list j;let f:=r.length;exact wpAny_truthy_list n.isList (by simp only[M1];omega) #[H,I.tok _,by rw[KC r];exact q]
  .subst E;let⟨l,r,n,u⟩:=I.tuple j;let f:=r.length;exact truthy_tuple n (by simp only[M1];omega) #[H,I.tok _,by rw[KC r];exact q]
  .subst E;obtain⟨u,A,V,r,m⟩:d.length<=τ/\(p==sysModules)=ξ/\∃V,KV d V/\s.heap.DictOf (aX X.prog X.w) p V:=I.hok p _ j;let f:d.length=V.length:=Paired.length r;exact wpAny_truthy_dict A m VV #[H,I.tok _,by rw[YC r];exact q]
 |_=>exact(show False from e).elim
theorem vQ(f:PE X a ta)(g:∀w,isTrue a X.env w=(do let v <- w;standAt a.pos;lu [v] (truthy v))):
  PT X a (λd H Q=>ta d H λx e=>∃k,Gf X.K x e k/\Q k e):=by
 intro p s d H Q I h;exact isTrue_plain (aV (f p s d H _ I h) λv S #[x,i,j,r,q]=>Fk p S d i x v Q j r q)$ g _
theorem zH:fh X (binaryOp .Add) (λx y H Q=>∃i j,x= .str i/\y= .str j/\i.length+j.length<=τ/\Q (.str$ i++j) H):=by intro p s e H x y v u Q I r R h;let⟨i,j,rfl,rfl,d,q⟩:=h;let⟨t,rfl⟩:=r;let⟨T,rfl⟩:=R;exact add_str (λT f=>#[.str$ i++j,H,I.tok _,#[_,Z],q]) d
theorem fg(r:aD [x] U):∃u,U=[u]/\aG x u:=by
 cases r with
 |cons R d=>cases d;exact#[_,Z,R]
theorem IC(r:aD [x,y] U):∃u w,U=[u,w]/\aG x u/\aG y w:=by
 cases r with
 |cons R d=>
  cases d with
  |cons e f=>cases f;exact#[_,_,Z,R,e]
theorem JI:eI X (.type "int") (λx H Q=>(∃i,x=[.int i]/\Q (.int i) H)∨∃k,x=[.bl k]/\Q (.int (if k then 1 else 0)) H):=by
 intro p s d H x U Q I r h;rcases h with ⟨i,rfl,q⟩ | ⟨k,rfl,q⟩
 .let⟨u,rfl,t,rfl⟩:=fg r;exact call_int_int #[.int i,H,I,#[_,Z],q]
 .let⟨u,rfl,R⟩:=fg r;cases R;exact call_int_bool #[.int (if k then 1 else 0),H,I.tok _,#[_,Z],q]
end
structure oj(h:de)(x dx C:η)(mA:ρ->Option ζ):Prop where
 obj:h.get? x=δ (instObj C dx)
 ns:h.Ns1 dx mA
 ne:dx≠x
theorem ZY{h:de}(n:h.Ns1 d m):∃O,h.get? d=δ O/\∀name,lookIn name O=δ (m name):=by
 let⟨o,E,j,b,c,f,_,g⟩:=n;refine#[o,b,λname=>?_];let e:=g name;unfold nsFind findBy at e;rw[<- Array.find?_toList]at e;unfold lookIn;rw[c];dsimp only;split
 .rename_i y q
  rw[q]at e;exact Od δ e
 .rename_i q
  rw[q]at e;let a:E.toList.any (·.refKey)=ξ:=by rw[Ui];intro y i;let⟨z,t,H⟩:=f y (Array.mem_toList_iff.mp i);simp [DictEntry.refKey,H]
  let A:¬E.toList.any (·.refKey)=μ:=by rw[a];exact M8
  rw[Na A];exact Od δ e
theorem oj.look(I:oj h x d C m):∃o,PySem.W.InstAt h x (instObj C d) C (δ o)/\∀name,lookIn name o=δ (m name):=
 let #[o,H,a]:=ZY I.ns
 #[o,#[I.obj,Z,Z,H],a]
section
variable {prog:ψ}{w:bU}{A:cc}{E:ζ->ι->Prop}{s:ι}{K:γ}{x dx C f:η}{mA:ρ->Option ζ}{name:ρ}{v:ζ}
theorem yI{Q:ζ->ι->Prop}(X:K.In s.heap)(I:oj s.heap x dx C mA)(a:plainGet K C name=μ)(b:hasDictIn K C=μ)
  (c:findIn K (.ref C) name=δ θ) (d:mA name=δ v) (H:PySem.W.handedIn v=μ) (h:Q v { s with toks:=s.toks+1 }):
  π (χ prog w) A (getAttr (.ref x) name e) Q E s:=by
 let⟨o,J,g⟩:=I.look;exact PySem.W.get_value X J (RU a).1 (PySem.W.findObj_own b c Z (by rw[g,d])) H h
theorem uC{Q:ζ×List ζ->ι->Prop}(X:K.In s.heap)(I:oj s.heap x dx C mA)(H:plainGet K C name=μ)
  (a:findIn K (.ref C) name=δ (↑f)) (b:isFn K (.ref f)=μ) (c:mA name=θ) (h:Q (.ref f,[.ref x]) s):
  π (χ prog w) A (getMethod (.ref x) name p) Q E s:=by
 let⟨o,J,d⟩:=I.look;exact PySem.W.method_fn X J (RU H).1 (RU H).2 a (beq_iff_eq.mp b) (by show(lookIn name o).map (·.isSome)=δ ξ;rw[d,c];rfl) h
theorem A8{Q:Unit->ι->Prop}(X:K.In s.heap)(I:oj s.heap x dx C mA)
  (k:findIn K (.ref C) "__setattr__"=δ (δ$ .builtin "object.__setattr__")) (l:PySem.W.plainOver K C=μ) (m:rb K C name=δ θ) (n:hasDictIn K C=μ)
  (o:PySem.Within mA N) (p:N.length<=τ)
  (h:∀d,oj d x dx C (λy=>if y=name then δ v else mA y)->fy dx s.heap d->Q () { s with heap:=d,toks:=s.toks+2 }):
  π (χ prog w) A (setAttr (.ref x) name v) Q E s:=by
 let⟨O,J,B⟩:=I.look;refine PySem.W.set_plain X J k$ PySem.W.osa_open (s:={ s with toks:=s.toks+1 }) (r:=θ) X J l m λb=>?_;let⟨D,q,e⟩:=PySem.W.any_some n;let t:s.heap.get? x=δ #[.ref C,δ dx,.plain,(ε [])]:=I.obj;refine MU$ MX$ MU$ MU$ Tx t$ MU$ Vc (s:={ s with toks:=s.toks+1 }) (PySem.W.looks_clsIn X q) ?_;rw[e];refine MX (a:=δ dx)$ MU$ MX$ MU ?_;refine wpAny_nsSet1 (s:={ s with toks:=s.toks+1 }) I.ns λd H c=>?_;let⟨F,u,z,g,i,j⟩:=H.count (Vn name v o);refine MU$ wpAny_lookBehind g (by rw[i];exact pastItsLine_dict$ Ng j (by rw[Nz];omega)) ?_;exact MX$ h _ #[(c.2 _$ NA I.ne).trans I.obj,H,I.ne] c
theorem uS{R:Result->ι->Prop}(X:K.In s.heap)(H:PySem.W.makesIn K C=μ)
  (b:findIn K (.ref C) "__init__"=δ (↑f)) (c:typeIn K (.ref f)=δ (.type "function"))
  (h:kw (χ prog w) (A.under$ .builtin "type.__call__" #[.ref C::a,k]) (.call (.ref f) #[.ref (s.heap.objs.size+1)::a,k]) (PySem.W.InitBack (s.heap.objs.size+1) R)
   { s with heap:=(s.heap.push emptyDict).push (instObj C s.heap.objs.size) }):
  kw (χ prog w) A (.call (.ref C) #[a,k]) R s:=by
 let⟨e,g,d,t,os⟩:=s;exact PySem.W.make_core (PySem.W.makes_of X H) (PySem.W.looks_findIn X b) (λS=>PySem.W.bind_fn X S c) (.inl Z) h
end
noncomputable def eY(f:ρ)(v:V):List (ρ×V)->List (ρ×V)
 | []=>[(f,v)]
 | (g,x)::r=>if g=f then (g,v)::r else (g,x)::eY f v r
theorem JP(f g:ρ)(v:V):∀F:List (ρ×V),(eY f v F).lookup g=if g=f then δ v else F.lookup g
 | []=>by
  show ic g [(f,v)]=_;by_cases h:g=f
  .let H:(g==f)=μ:=beq_iff_eq.mpr h;simp only[ic,H,M7 h]
  .let H:(g==f)=ξ:=beq_eq_false_iff_ne.mpr h;simp only[ic,H,Na h]
 | (k,x)::r=>by
  let i:=JP f g v r;rw[show eY f v ((k,x)::r)=(if k=f then (k,v)::r else (k,x)::eY f v r) from Z];by_cases a:k=f
  .rw[M7 a];by_cases h:g=k
   .let H:(g==k)=μ:=beq_iff_eq.mpr h;simp only[ic,H,M7$ h.trans a]
   .let H:(g==k)=ξ:=beq_eq_false_iff_ne.mpr h;simp only[ic,H,Na (λe:g=f=>h (e.trans a.symm))]
  .rw[Na a];by_cases h:g=k
   .let H:(g==k)=μ:=beq_iff_eq.mpr h;simp only[ic,H,Na (λe:g=f=>a (h.symm.trans e))]
   .let H:(g==k)=ξ:=beq_eq_false_iff_ne.mpr h;simp only[ic,H];exact i
theorem JJ(f:ρ)(v:V):∀F:List (ρ×V),f∈(eY f v F).map (·.1)/\∀g,g∈F.map (·.1)->g∈(eY f v F).map (·.1)
 | []=>#[by simp [eY],λg h=>by simp at h]
 | (k,x)::r=>by
  let⟨i,I⟩:=JJ f v r;rw[show eY f v ((k,x)::r)=(if k=f then (k,v)::r else (k,x)::eY f v r) from Z];by_cases H:k=f
  .rw[M7 H];subst H;exact#[VW,λg h=>by simpa using h]
  .rw[Na H];refine#[?_,λg h=>?_]
   .rw[Oe];exact Nv _ i
   .rw[Oe]at h ⊢;rcases Φ.mp h with e |e
    .exact Φ.mpr$ .inl e
    .exact Nv _$ I g e
theorem JQ(f:ρ)(v:V):∀F:List (ρ×V),(eY f v F).length<=F.length+1
 | []=>by simp [eY]
 | (k,x)::r=>by
  let i:=JQ f v r;rw[show eY f v ((k,x)::r)=(if k=f then (k,v)::r else (k,x)::eY f v r) from Z];by_cases h:k=f
  .rw[M7 h,Nz,Nz];omega
  .rw[Na h,Nz,Nz];omega
theorem dZ.some_of{v:V}{o:Option ζ}(r:dZ (δ v) o):∃u,o=δ u/\aG v u:=by
 cases o with
 |none=>exact(show False from r).elim
 |some u=>exact#[u,Z,r]
theorem dZ.none_of(r:dZ θ o):o=θ:=by
 cases o with
 |none=>rfl
 |some u=>exact(show False from r).elim
theorem ZZ(r:aG v u):PySem.W.handedIn u=μ:=by
 cases v with
 |non=>cases (show u=β from r);rfl
 |bl b=>cases (show u=ot b from r);rfl
 |int i=>let⟨t,e⟩:=(show ∃t,u=ii i t from r);cases e;rfl
 |str x=>let⟨t,e⟩:=(show ∃t,u=lq x t from r);cases e;rfl
 |byt b=>let⟨t,e⟩:=(show ∃t,u=Value.bytes b t from r);cases e;rfl
 |flt b=>let⟨t,e⟩:=(show ∃t,u=Value.float b t from r);cases e;rfl
 |ref a=>cases (show u=Θ a from r);rfl
 |ty n=>cases (show u=fx n from r);rfl
section
variable {P:ψ}{w:bU}{H H':Hp}{h h':de}{a C dx:η}{fs fs':List (ρ×V)}
theorem J3(b:fq P w H h)(e:H a=δ (.ins C dx fs)):∃m,oj h a dx C m/\(∀f,dZ (fs.lookup f)$ m f)/\PySem.Within m (fs.map (·.1))/\fs.length<=1000/\H dx=δ (.own a):=by let⟨d,z,N,o,m,n,r,q⟩:=(show aN P w H h a (.ins C dx fs) from b a _ e);exact#[m,#[o,n,N],r,q,z,d]
end
structure oQ(K:γ)(C:η):Prop where
 pg:plainGet K C Str.empty=μ
 hd:hasDictIn K C=μ
 po:PySem.W.plainOver K C=μ
 sa:findIn K (.ref C) "__setattr__"=δ (δ$ .builtin "object.__setattr__")
theorem oQ.get{K:γ}(c:oQ K C)(f:ρ):plainGet K C f=μ:=c.pg
def a7(K:γ)(C:η)(f:ρ):Prop:=findIn K (.ref C) f=δ θ
theorem a7.taker{K:γ}(n:a7 K C f):rb K C f=δ θ:=by unfold rb;rw[show findIn K (.ref C) f=δ θ from n];rfl
structure bj(K:γ)(C:η)(m:ρ)(f:η):Prop where
 at_:findIn K (.ref C) m=δ (↑f)
 fn:isFn K (.ref f)=μ
 kp:iv K (.ref f)=μ
section
variable {X:Cx}{pins:List (η×hY)}{σ:St}{H:Hp}{s:ι}{a C dx:η}{fs:List (ρ×V)}{f:ρ}{v:V}{A:cc}{E:ζ->ι->Prop}
theorem KD{Q:ζ->ι->Prop}(I:au X pins σ H s)(e:H a=δ (.ins C dx fs))(c:oQ X.K C)(n:a7 X.K C f)(l:fs.lookup f=δ v)
  (h:∀u S,au X pins σ H S->aG v u->Q u S):π (χ X.prog X.w) A (getAttr (.ref a) f b) Q E s:=by
 let⟨m,O,r,_,_,_⟩:=J3 I.hok e;let⟨u,d,R⟩:=dZ.some_of (v:=v) (o:=m f) (by rw[<- l];exact r f);exact yI I.kIn O (c.get f) c.hd n d (ZZ R)$ h u _ (I.tok _) R
theorem KE{Q:ζ×List ζ->ι->Prop}(I:au X pins σ H s)(e:H a=δ (.ins C dx fs))(c:oQ X.K C)(k:bj X.K C m g)(l:fs.lookup m=θ)
  (h:Q (.ref g,[.ref a]) s):π (χ X.prog X.w) A (getMethod (.ref a) m p) Q E s:=by
 let⟨M,O,r,_,_,_⟩:=J3 I.hok e;let b:M m=θ:=dZ.none_of (by rw[<- l];exact r m);exact uC I.kIn O (c.get m) k.at_ k.fn b h
theorem KF{Q:Unit->ι->Prop}(I:au X pins σ H s)(e:H a=δ (.ins C dx fs))(c:oQ X.K C)(n:a7 X.K C f)(F:fs.length < 1000)(R:aG y u)
  (h:∀S,au X pins σ (af H a$ .ins C dx$ eY f y fs) S->Q () S):π (χ X.prog X.w) A (setAttr (.ref a) f u) Q E s:=by
 let⟨m,O,r,W,_,i⟩:=J3 I.hok e;let j:(fs.map (·.1)).length<=τ:=by rw[MY,O3];omega
 refine A8 I.kIn O c.sa c.po n.taker c.hd W j λk d l=>h _ ?_;let p:∃o,k.get? dx=δ o:=let #[o,_,_,t,_]:=d.ns;#[o,t]
 refine I.write (x:=a) (e:=dx) (by rw[e];exact True.intro) (.inr i) (λb q B z=>(l.2 b B).trans z) p ?_;refine#[by rw[jh O.ne];exact i,?_,O.ne,d.obj,_,d.ns,λg=>?_,λg D=>?_]
 .let:=JQ f y fs;omega
 .show dZ ((eY f y fs).lookup g) (if g=f then δ u else m g);rw[JP];by_cases q:g=f
  .rw[M7 q,M7 q];exact R
  .rw[Na q,Na q];exact r g
 .by_cases q:g=f
  .rw[q];exact(JJ f y fs).1
  .refine(JJ f y fs).2 g (W g λz=>D ?_);show(if g=f then δ u else m g)=θ;rw[Na q];exact z
theorem au.made(I:au X pins σ H s):au X pins σ (af (af H s.heap.objs.size$ .own$ s.heap.objs.size+1) (s.heap.objs.size+1)$ .ins C s.heap.objs.size [])
  { s with heap:=(s.heap.push emptyDict).push (instObj C s.heap.objs.size) }:=by
 let c:(s.heap.push emptyDict).get? s.heap.objs.size=δ emptyDict:=M3 s.heap Z;let d:((s.heap.push emptyDict).push$ instObj C s.heap.objs.size).get? (s.heap.objs.size+1)=δ (instObj C s.heap.objs.size):=by let:=M3 (s.heap.push emptyDict) (o:=instObj C s.heap.objs.size) Z;rwa [NP]at this
 let g:(s.heap.push emptyDict).Ns s.heap.objs.size (λ_=>θ):=#[emptyDict,(ε []),_,c,Z,(λe h=>absurd h VW),λ_=>Z];let i:=I.laid (a:=s.heap.objs.size) (o:=.own (s.heap.objs.size+1)) (h':=s.heap.push emptyDict) (t':=s.toks) (λb u q=>MW _ q) (M0 _) #[_,c];refine i.laid (a:=s.heap.objs.size+1) (o:=.ins C s.heap.objs.size []) (t':=s.toks) (λb u q=>MW _ q) (Sl$ NP _ _) ?_;let n:s.heap.objs.size≠s.heap.objs.size+1:=Nb (Oy _);refine#[by rw[jh n,jb],M6 _,n,d,λ_=>θ,(Heap.Ns1.of_empty g).at λo q=>MW _ q,λ_=>True.intro,λy j=>absurd Z j]
theorem yp{f:ρ}{s:ι}(c:attributeBase e f b (eval e b)=eval e b)
  (h:π (χ p w) A (eval e b) (λo S=>π (χ p w) A (getAttr o f μ) Q E S) E s):π (χ p w) A (eval (.Attribute e f d) b) Q E s:=
 Attribute_any_ h (by rw[arm_eval_Attribute,c])
end
inductive Cz(K:γ)(f:ρ)(Q:VK)(x:V)(b:Hp):Prop
 |mk(a C c d v:_)(_:x= .ref a)(_:b a=δ (.ins C c d))(_:oQ K C)(_:a7 K C f)(_:d.lookup f=δ v)(_:Q v b)
def LO(K:γ)(t:TE)(f:ρ):TE:=λa H Q=>t a H (Cz K f Q)
inductive Cn(K:γ)(f:ρ)(D:bV)(e:St)(y x:V)(b:Hp):Prop
 |mk(a C c d:_)(_:x= .ref a)(_:b a=δ (.ins C c d))(_:oQ K C)(_:a7 K C f)(_:d.length < 1000)(_:D.nx e (af b a (.ins C c (eY f y d))))
def LB(K:γ)(t T:TE)(f:ρ):TS:=λD a H=>T a H λy h=>t a h (Cn K f D a y)
def FX(X:Cx)(o:Operator)(r:V->V->Hp->VK->Prop):Prop:=
 ∀(p:List (η×hY)) (s:ι) (a:St) (H:Hp) (x y:V) (u v:ζ) (Q:VK),au X p a H s->aG x u->aG y v->r x y H Q->π (χ X.prog X.w) X.A (inplaceOp o u v) (EP X p a Q) X.xe s
inductive nj(K:γ)(g:TE)(e:V->V->Hp->VK->Prop)(f:ρ)(D:bV)(h:St)(x:V)(b:Hp):Prop
 |mk(a C c d v:_)(_:x= .ref a)(_:b a=δ (.ins C c d))(_:oQ K C)(_:a7 K C f)(_:d.lookup f=δ v)(_:g h b λy H2=>e v y H2 λz H3=>∃dx' fs',H3 a=δ (.ins C dx' fs')/\fs'.length < 1000/\D.nx h (af H3 a (.ins C dx' (eY f z fs'))))
def AS(K:γ)(t T:TE)(r:V->V->Hp->VK->Prop)(f:ρ):TS:=λD a H=>t a H (nj K T r f D a)
section
variable {X:Cx}{o e value:dr}{f:ρ}{pos pos' tpos:Pos}{ta tv:TE}
theorem j6(b:PE X e ta)(d:attributeBase e f X.env (eval e X.env)=eval e X.env):PE X (.Attribute e f pos) (LO X.K ta f):=by intro p s g H Q I h;refine yp d$ aV (b p s g H _ I h) λu S z=>?_;let⟨x,i,j,r,a,C,D,F,v,E,k,c,n,l,q⟩:=z;subst E;obtain rfl:u=Θ a:=r;exact KD j k c n l λU t m R=>#[v,i,m,R,q]
theorem zB(d:PE X o ta)(g:PE X value tv)(i:swapsWith value (δ$ .Attribute o f pos') pos.line X.env=pure ξ):PS X (.Assign [.Attribute o f pos'] value pos) (LB X.K ta tv f):=by intro p s b H D I h;refine plainObj_wpAny_Assign_Attribute (aV (g p s b H _ I h) λu S #[y,j,k,r,q]=>aV (d p S b j _ k q) λO w z=>?_) i;let⟨x,A,m,R,a,C,B,F,E,t,c,n,l,Q⟩:=z;subst E;obtain rfl:O=Θ a:=R;exact KF m t c n l r λG v=>#[b,_,v,Q]
theorem Z0{O:Operator}{r:V->V->Hp->VK->Prop}(i:PE X o ta)(j:PE X value tv)(g:FX X O r):PS X (.AugAssign (.Attribute o f tpos) O value pos) (AS X.K ta tv r f):=by intro p s d H D I h;refine wpAny_AugAssign_AttributeAny$ aV (i p s d H _ I h) λk s1 b=>?_;let⟨x,m,t,R,a,C,dx,fs,v,w,A,c,n,l,q⟩:=b;subst w;obtain rfl:k=Θ a:=R;refine KD t A c n l λu S B F=>aV (j p S d m _ B q) λW G #[y,J,L,M,Q]=>aV (g p G d J v y u W _ L F M Q) λw4 s4 b=>?_;let⟨z,H3,N,P,T,U,E,Y,q4⟩:=b;exact KF N E c n Y P λs5 I5=>#[d,_,I5,q4]
inductive Hw(x y:V)(H:Hp)(Q:VK):Prop
 |mk(i j:_)(_:x= .int i)(_:y= .int j)(_:Q (.int (i+j)) H)
theorem Di:FX X .Add Hw:=by rintro p s a H x y u v Q I r R ⟨i,j,rfl,rfl,q⟩;let⟨t,rfl⟩:=(show ∃t,u=ii i t from r);let⟨T,rfl⟩:=(show ∃T,v=ii j T from R);exact VD #[.int$ i+j,H,I.tok _,#[_,Z],q]
end
section
variable {X:Cx}{pins:List (η×hY)}{σ:St}{H:Hp}{s:ι}{A:cc}{E:ζ->ι->Prop}{Q:ζ->ι->Prop}{c:ζ}{b:Bool}
inductive gV(K:γ)(H:Hp):V->ζ->Prop where
 |non:gV K H .non (.type "NoneType")
 |bl (x:Bool):gV K H (.bl x) (.type "bool")
 |int (i:Int):gV K H (.int i) (.type "int")
 |str (x:ρ):gV K H (.str x) (.type "str")
 |flt (x:UInt64):gV K H (.flt x) (.type "float")
 |lst {a:η} {xs:List V} (e:H a=δ (.lst xs)):gV K H (.ref a) (.type "list")
 |frz {a:η} {o:hY} {xs:List V} (e:H a=δ (.frz o (.lst xs))):gV K H (.ref a) (.type "list")
 |tup {a:η} {xs:List V} (e:H a=δ (.tup xs)):gV K H (.ref a) (.type "tuple")
 |dK {a:η} {kvs:List (bH×V)} (e:H a=δ (.dK kvs)):gV K H (.ref a) (.type "dict")
 |dT {a:η} {kvs:List (List bH×V)} (e:H a=δ (.dT kvs)):gV K H (.ref a) (.type "dict")
 |ins {a C dx:η} {fs:List (ρ×V)} (e:H a=δ (.ins C dx fs)) (cl:oQ K C) (ha:findIn K (.ref C) "__class__"=δ (δ (.builtin "object.__class__")))
   (hn:specialIn K (.builtin "object.__class__") "__get__"=δ (δ$ .builtin "getset_descriptor.__get__")) (htk:PySem.W.takesIn K (.builtin "object.__class__")=δ μ)
   (hm:mroIn K C (.type "object")=δ μ):gV K H (.ref a) (.ref C)
theorem Z1(I:au X pins σ H s)(r:aG x u)(T:gV X.K H x t)(e:kitOne X.K t c=δ b)(h:∀v,Q (.bool b) { s with toks:=v }):
  π (χ X.prog X.w) A (call (.builtin "isinstance") [u,c]) Q E s:=by
 cases T with
 |non=>cases (show u=β from r);exact Rg PySem.W.kitx_none I.kIn True.intro e (λz=>nomatch z) h
 |bl y=>cases (show u=ot y from r);exact Rg PySem.W.kitx_bool I.kIn True.intro e (λz=>nomatch z) h
 |int i=>let⟨t,q⟩:=(show ∃t,u=ii i t from r);cases q;exact Rg PySem.W.kitx_int I.kIn True.intro e (λz=>nomatch z) h
 |str y=>let⟨t,q⟩:=(show ∃t,u=lq y t from r);cases q;exact Rg PySem.W.kitx_str I.kIn True.intro e (λz=>nomatch z) h
 |flt y=>let⟨t,q⟩:=(show ∃t,u=Value.float y t from r);cases q;exact Rg PySem.W.kitx_float I.kIn True.intro e (λz=>nomatch z) h
 | @lst a g d=>cases (show u=Θ a from r);let⟨_,_,n,_,f⟩:=(show aN X.prog X.w H s.heap a (.lst g) from I.hok a _ d);exact Rg TJ I.kIn #[_,f,Z] e (λz=>nomatch z) h
 | @frz a B g d=>cases (show u=Θ a from r);let⟨_,_,_,n,_,f⟩:=(show aN X.prog X.w H s.heap a (.frz B$ .lst g) from I.hok a _ d);exact Rg TJ I.kIn #[_,f,Z] e (λz=>nomatch z) h
 | @tup a g d=>cases (show u=Θ a from r);let⟨_,_,_,p⟩:=(show aN X.prog X.w H s.heap a (.tup g) from I.hok a _ d);let⟨o,f,j,_⟩:=p;exact Rg PySem.W.kitx_tuple I.kIn #[o,f,j] e (λz=>nomatch z) h
 | @dK a k d=>cases (show u=Θ a from r);let⟨_,_,V,_,p⟩:=(show aN X.prog X.w H s.heap a (.dK k) from I.hok a _ d);let⟨o,D,F,f,j,_⟩:=p;exact Rg TK I.kIn #[o,f,j.1] e (λz=>nomatch z) h
 | @dT a k d=>cases (show u=Θ a from r);let⟨_,_,g,_,o,D,F,f,j,_⟩:=(show aN X.prog X.w H s.heap a (.dT k) from I.hok a _ d);exact Rg TK I.kIn #[o,f,j.1] e (λz=>nomatch z) h
 | @ins a C N P d m G L l M=>cases (show u=Θ a from r);let⟨R,O,_⟩:=J3 I.hok d;let⟨S,J,_⟩:=O.look;exact Rg (PySem.W.kitx_own (m.get _) m.hd G L l M) I.kIn J e (λz=>nomatch z) h
end
structure bJ(k:Nat)(A:cc):Prop where
 hd:A.handled=θ
 dp:A.depth+3*k+5 < recursionLimit
 un:A.units+16*k+200 < cLine
theorem bJ.mono(r:bJ k A)(h:j<=k):bJ j A:=#[r.hd,by let:=r.dp;omega,by let:=r.un;omega]
theorem bJ.deeper(r:bJ (k+1) A)(e:Env):bJ k (A.deeper e):=
 #[r.hd,by let:=r.dp;show A.depth+1+3*k+5 < _;omega,by let:=r.un;show A.units+3+16*k+200 < _;omega]
theorem YD{A:cc}:(A.under$ .builtin "type.__call__" #[.ref C::u,k]).depth=A.depth+1:=by
 first |rfl |simp [Around.under,Code.weight,Code.isCreation,Code.isGuard,Code.isCaller,Code.frames,Code.isFrame,guardIds]
theorem YE{A:cc}:(A.under$ .builtin "type.__call__" #[.ref C::u,k]).units=A.units+1:=by
 first |rfl |simp [Around.under,Code.cUnits,Code.frames,Code.isFrame]
theorem bJ.make(r:bJ (k+1) A)(C:η)(u:List ζ)(K:List (ρ×ζ)):bJ k (A.under$ .builtin "type.__call__" #[.ref C::u,K]):=
 #[r.hd,by let:=r.dp;rw[YD];omega,by let:=r.un;rw[YE];omega]
theorem bJ.depth(r:bJ k A):A.depth < recursionLimit:=by let:=r.dp;omega
theorem bJ.units(r:bJ k A):A.units+64 < cLine:=by let:=r.un;omega
def bh:TA:=λ_ H Q=>Q [] H
def ar(t:TE)(T:TA):TA:=λa H Q=>t a H λx h=>T a h λX b=>Q (x::X) b
section
variable {X:Cx}{e:dr}{es:List dr}{te:TE}{t:TA}{pos:Pos}
theorem jc:PA X [] bh:=λ_ _ _ _ H Q I h=>O6 #[[],H,I,.nil,h]
theorem ja(b:PE X e te)(c:PA X es t)(d:Δ (e::es) X.env=(ξ,eval e X.env)::Δ es X.env:=by rfl):PA X (e::es) (ar te t):=by intro pos p s a H Q I h;rw[d];show π _ _ (spliced ((ξ,eval e X.env)::fJ pos (Δ es X.env))) _ _ s;refine OH$ aV (b p s a H _ I h) λu S z=>?_;let⟨x,f,i,r,q⟩:=z;exact aV (c pos p S a f _ i q) λU m #[g,j,k,R,l]=>#[x::g,j,k,.cons r R,l]
def cY(t:TA):TE:=λa H Q=>t a H λx h=>x.length<=τ/\∀p,h p=θ->Q (.ref p) (af h p$ .tup x)
def Iu(t:TA):TE:=λa H Q=>t a H λx h=>x.length<=τ/\∀p,h p=θ->Q (.ref p) (af h p$ .lst x)
theorem jl{x}(h:PA X es t):PE X (.Tuple es x pos) (cY t):=by intro p s c H Q I d;refine wpAny_Tuple_spliced$ aV (h pos p s c H _ I d) λU S #[f,a,i,r,z,q]=>#[by rw[<- r.length];exact z,?_];let g:a S.heap.objs.size=θ:=i.hok.fresh (M0 _);refine#[.ref S.heap.objs.size,af a S.heap.objs.size$ .tup f,i.laid (t':=S.toks) (λb u e=>MW _ e) (M0 _) ?_,Z,q _ g];exact#[z,U,r,#[_,M3 _ Z,Z,_,Z]]
theorem jK(h:PA X es t):PE X (.List es pos) (Iu t):=by intro p s c H Q I d;refine wpAny_List_spliced$ aV (h pos p s c H _ I d) λU S #[x,a,i,r,z,q]=>#[by rw[<- r.length];exact z,?_];let f:a S.heap.objs.size=θ:=i.hok.fresh (M0 _);refine#[.ref S.heap.objs.size,af a S.heap.objs.size$ .lst x,i.laid (t':=S.toks) (λb u e=>MW _ e) (M0 _) ?_,Z,q _ f];exact#[z,U,0,r,M3 _ Z]
end
abbrev Sp:=List V->Hp->VK->XK->Prop
abbrev pY:=List Env->Hp->ι->XK->ζ->ι->Prop
structure og(P:ψ)(w:bU)(K:γ)(mg:ρ->Option ζ)(base:de)(A:cc)(outer:List Env)(s:ι)(H:Hp):Prop where
 frames:A.frames=δ outer
 mod:Mod K mg base
 bs:∀b o,base.get? b=δ o->s.heap.get? b=δ o/\H b=θ
 bsz:base.objs.size<=s.heap.objs.size
 funs:s.heap.FunFrames base outer
 frf:∀b∈lF outer,H b=θ
 hok:fq P w H s.heap
 bare:AllBare s.gens
def CE(o:List Env)(P:ψ)(w:bU)(H:Hp)(s:ι)(Q:VK)(u:ζ)(S:ι):Prop:=
 ∃v h,S.os=s.os/\AllBare S.gens/\Un (lF o) [] H h s.heap S.heap/\fq P w h S.heap/\aG v u/\Q v h
def CR(C:pY)(o:List Env)(P:ψ)(w:bU)(H:Hp)(s:ι)(Q:VK)(E:XK)(r:Result)(S:ι):Prop:=
 match r with
 | .ok (.ret u)=>CE o P w H s Q u S
 | .ok _=>False
 | .error e=>C o H s E e S
structure ah(P:ψ)(w:bU)(K:γ)(mg:ρ->Option ζ)(base:de)(CX:pY)(k:Nat)(f:η)(fd:hG)(ps:List ρ)(sp:Sp):Prop where
 len:∀vs H Q E,sp vs H Q E->vs.length=ps.length
 run:∀(A:cc) (outer:List Env) (s:ι) (H:Hp) (args:Args) (us:List ζ) (vs:List V) (Q:VK) (E:XK),bJ k A->og P w K mg base A outer s H->BindsTo s fd args (ps.zip us)->aD vs us->sp vs H Q E->
  kw (χ P w) A (.call (.ref f) args) (CR CX outer P w H s Q E) s
theorem og.make{P:ψ}{K:γ}(e:og P w K m b A o s H)(C:η)(u:List ζ)(k:List (ρ×ζ)):
  og P w K m b (A.under$ .builtin "type.__call__" #[.ref C::u,k]) o s H:=#[by first |exact e.frames | (simpa [Around.under,Code.envs,Code.isFrame,pushEnvs] using e.frames),e.mod,e.bs,e.bsz,e.funs,e.frf,e.hok,e.bare]
section
variable {X:Cx}{pins:List (η×hY)}{σ:St}{H:Hp}{s s':ι}
theorem au.env0(I:au X pins σ H s):og X.prog X.w X.K X.mg X.base X.A X.stack s H:=
 #[I.ok.frames,I.ok.mod,I.bs,Ng I.ok.bsz I.sz,I.stack,I.stkFree,I.hok,I.bare]
theorem au.after(I:au X pins σ H s)(h:CE X.stack X.prog X.w H s Q u s'):EP X pins σ Q u s':=by let⟨v,c,os,B,U,a,r,q⟩:=h;let⟨e,g,d,t,o⟩:=s';obtain rfl:o=s.os:=os;exact#[v,c,I.call (h':=e) (g':=g) (d':=d) (t':=t) (ch:=[]) U a B (λb z=>absurd z VW),r,q]
end
def ff(s:Sp)(d:List V)(E:XK)(t:TA):TE:=λa H Q=>t a H λv h=>s (v++d) h Q E
inductive xC(C:η)(m:ρ)(f:Sp)(b:List V)(E:XK)(t:TA)(g:St)(Q:VK)(x:V)(c:Hp):Prop
 |mk(a d e:_)(_:x= .ref a)(_:c a=δ (.ins C d e))(_:e.lookup m=θ)(_:t g c λvs H2=>f (x::(vs++b)) H2 Q E)
def xA(C:η)(m:ρ)(s:Sp)(d:List V)(E:XK)(T:TE)(t:TA):TE:=λa H Q=>T a H (xC C m s d E t a Q)
def CA(C:η)(s:Sp)(D:List V)(E:XK)(t:TA):TE:=λa H Q=>t a H λb h=>∀x d,h x=θ->h d=θ->d≠x->
 s (.ref x::(b++D)) (af (af h d$ .own x) x$ .ins C d []) (λv c=>v= .non/\Q (.ref x) c) E
def aC(K:γ)(f:hG)(p:List ρ)(d:List ζ):Prop:=
 ∀(s:ι) (u:List ζ),K.In s.heap->(u++d).length=p.length->BindsTo s f #[u,[]] (p.zip$ u++d)
theorem aC.all{K:γ}{p:List ρ}(h:∀u:List ζ,u.length=p.length->bindArgs f #[u,[]]=pure (p.zip u)):aC K f p []:=λs u _ H=>by rw[Nx]at H ⊢;exact .of_eq$ h u H
def dw(C:pY)(X:Cx)(E:XK):Prop:=∀(p:List (η×hY)) (a:St) (H:Hp) (s:ι) (e:ζ) (S:ι),au X p a H s->C X.stack H s E e S->X.xe e S
section
variable {X:Cx}{CX:pY}{k:Nat}{f C:η}{fd:hG}{ps:List ρ}{sp:Sp}{dvs:List V}{ds:List ζ}{E:XK}{x m:ρ}{p pos apos:Pos}{e o:dr}{es:List dr}{ta:TE}{t:TA}
theorem QR{us:List ζ}{vs:List V}(F:ah X.prog X.w X.K X.mg X.base CX k f fd ps sp)(d:bJ k X.A)(g:aC X.K fd ps ds)(i:aD dvs ds)(j:dw CX X E)
  (I:au X a c H s) (r:aD vs us) (h:sp (vs++dvs) H Q E):π (χ X.prog X.w) X.A (call (.ref f) us) (EP X a c Q) X.xe s:=by
 let R:aD (vs++dvs) (us++ds):=r.append i;let l:(us++ds).length=ps.length:=by rw[<- R.length];exact F.len _ _ _ _ h
 refine TB$ Pj (F.run X.A X.stack s H #[us,[]] (us++ds) (vs++dvs) Q E d I.env0 (g s us I.kIn l) R h) λr S b=>?_;cases r with
 |error e=>exact j a c H s e S I b
 |ok n=>
  cases n with
  |ret u=>exact I.after b
  |next=>exact False.elim b
  |brk=>exact False.elim b
  |cont=>exact False.elim b
theorem kS(F:ah X.prog X.w X.K X.mg X.base CX k f fd ps sp)(c:bJ k X.A)(d:Gl X x)(g:X.mg x=↑f)(j:iv X.K (.ref f)=μ)(l:aC X.K fd ps ds)(n:aD dvs ds)(u:dw CX X E)
  (v:PA X (e::es) t) (a:(x==("__debug__":ρ))=ξ:=by decide) (y:Δ (e::es) X.env=(ξ,eval e X.env)::Δ es X.env:=by rfl) (b:(fJ pos$ Δ es X.env).any (·.1)=ξ:=by rfl):
  PE X (.Call (.Name x p) (e::es) [] pos) (ff sp dvs E t):=by
 intro P s z H Q I h;refine NT$ zJ I d g ?_ a;refine Sv (h₀:=X.base) I.ok.mod.kin j (aV (v pos P s z H _ I h) λU S #[B,D,i,r,q]=>#[i.kIn,?_]) y b;exact QR F c l n u i r q
theorem j7(v:PE X o ta)(c:oQ X.K C)(g:bj X.K C m f)(F:ah X.prog X.w X.K X.mg X.base CX k f fd ps sp)(y:bJ k X.A)(B:aC X.K fd ps ds)(D:aD dvs ds)(G:dw CX X E)(J:PA X (e::es) t)
  (b:Δ (e::es) X.env=(ξ,eval e X.env)::Δ es X.env:=by rfl) (d:(fJ pos$ Δ es X.env).any (·.1)=ξ:=by rfl)
  (L:eval (.Call (.Attribute o m apos) (e::es) [] pos) X.env=(do
   let O <- eval o X.env
   standAt apos.atName
   let (f,first) <- lu [O] (getMethod O m pl)
   callWith pos f first (fJ pos$ Δ (e::es) X.env) (backToKw pos$ keywordEach [] X.env)):=by rfl):
  PE X (.Call (.Attribute o m apos) (e::es) [] pos) (xA C m sp dvs E ta t):=by
 intro P s i H Q I h;refine Rv (pl:=pl) (aV (v P s i H _ I h) λu S z=>?_) L;let⟨x,M,j,R,a,W,Y,N,T,l,q⟩:=z;subst N;obtain rfl:u=Θ a:=R;refine KE j T c g l ?_;refine Sv (first:=[.ref a]) (h₀:=X.base) I.ok.mod.kin g.kp (aV (J pos P S i M _ j q) λus s2 #[vs,H2,n,r,U]=>#[n.kIn,?_]) b d;exact QR (us:=.ref a::us) (vs:=.ref a::vs) F y B D G n (.cons Z r) U
theorem vH(d:PE X o ta)(c:oQ X.K C)(b:bj X.K C m f)(F:ah X.prog X.w X.K X.mg X.base CX k f fd ps sp)(g:bJ k X.A)(j:aC X.K fd ps ds)(n:aD dvs ds)(r:dw CX X E)
  (v:eval (.Call (.Attribute o m apos) [] [] pos) X.env=(do
   let O <- eval o X.env
   standAt apos.atName
   let (f,first) <- lu [O] (getMethod O m pl)
   callWith pos f first (fJ pos$ Δ [] X.env) (backToKw pos$ keywordEach [] X.env)):=by rfl):
  PE X (.Call (.Attribute o m apos) [] [] pos) (xA C m sp dvs E ta bh):=by
 intro P s y H Q I h;refine Rv (pl:=pl) (aV (d P s y H _ I h) λu S z=>?_) v;let⟨x,G,i,R,a,J,L,B,D,l,q⟩:=z;subst B;obtain rfl:u=Θ a:=R;refine KE i D c b l ?_;exact RV (first:=[.ref a]) i.kIn b.kp$ QR (us:=[.ref a]) (vs:=[.ref a]) F g j n r i (.cons Z .nil) q
structure Mk(K:γ)(C f:η):Prop where
 makes:PySem.W.makesIn K C=μ
 init:findIn K (.ref C) "__init__"=δ (↑f)
 fn:isFn K (.ref f)=μ
 kp:iv K (.ref C)=μ
theorem XA{us:List ζ}(M:Mk X.K C f)(F:ah X.prog X.w X.K X.mg X.base CX k f fd ps sp)(l:bJ (k+1) X.A)(n:aC X.K fd ps ds)(q:aD dvs ds)
  (y:dw CX X E) (I:au X b c H s) (r:aD g us)
  (h:∀x d,H x=θ->H d=θ->d≠x->sp (.ref x::(g++dvs)) (af (af H d$ .own x) x$ .ins C d []) (λv z=>v= .non/\Q (.ref x) z) E):
  π (χ X.prog X.w) X.A (call (.ref C) us) (EP X b c Q) X.xe s:=by
 let j:=h (s.heap.objs.size+1) s.heap.objs.size (I.hok.fresh$ NW _) (I.hok.fresh$ M0 _) (Nb$ Oy _);let i:=au.made (C:=C) I;let R:aD (sn (s.heap.objs.size+1)::(g++dvs)) (Θ (s.heap.objs.size+1)::(us++ds)):=.cons Z (r.append q);let B:(Θ (s.heap.objs.size+1)::us++ds).length=ps.length:=by let e:=R.length;rw[F.len _ _ _ _ j]at e;exact e.symm
 refine TB (uS (f:=f) I.kIn M.makes M.init (beq_iff_eq.mp M.fn) (Pj (F.run _ X.stack _ _ #[Θ (s.heap.objs.size+1)::us,[]] (Θ (s.heap.objs.size+1)::(us++ds)) _ _ E (l.make C us [])
  (i.env0.make C us []) (n _ (Θ (s.heap.objs.size+1)::us) i.kIn B) R j) λr S a=>?_))
 cases r with
 |error e=>exact y b c _ _ e S i a
 |ok D=>
  cases D with
  |ret u=>let⟨v,G,J,L,N,O⟩:=i.after a;subst N;exact#[L,#[sn$ s.heap.objs.size+1,G,J,Z,O]]
  |next=>exact False.elim a
  |brk=>exact False.elim a
  |cont=>exact False.elim a
theorem Zo(M:Mk X.K C f)(F:ah X.prog X.w X.K X.mg X.base CX k f fd ps sp)(c:bJ (k+1) X.A)(d:Gl X x)(g:X.mg x=↑C)(j:aC X.K fd ps ds)(l:aD dvs ds)(n:dw CX X E)
  (u:PA X (e::es) t) (a:(x==("__debug__":ρ))=ξ:=by decide) (v:Δ (e::es) X.env=(ξ,eval e X.env)::Δ es X.env:=by rfl) (b:(fJ pos$ Δ es X.env).any (·.1)=ξ:=by rfl):
  PE X (.Call (.Name x p) (e::es) [] pos) (CA C sp dvs E t):=by
 intro P s y H Q I h;refine NT$ zJ I d g ?_ a;refine Sv (h₀:=X.base) I.ok.mod.kin M.kp (aV (u pos P s y H _ I h) λU S #[z,B,i,r,q]=>#[i.kIn,?_]) v b;exact XA M F c j l n i r q
theorem vG(M:Mk X.K C f)(F:ah X.prog X.w X.K X.mg X.base CX k f fd ps sp)(b:bJ (k+1) X.A)(c:Gl X x)(d:X.mg x=↑C)(g:aC X.K fd ps ds)(i:aD dvs ds)(j:dw CX X E)
  (a:(x==("__debug__":ρ))=ξ:=by decide):PE X (.Call (.Name x p) [] [] pos) (CA C sp dvs E bh):=by
 intro P s l H Q I h;refine NT$ zJ I c d ?_ a;exact RV I.kIn M.kp$ XA (us:=[]) M F b g i j I .nil h
end
structure ai(N P:List ρ)(sc:ir):Prop where
 kind:sc.kind= .function
 co:sc.isCoroutine=ξ
 gen:sc.isGenerator=ξ
 nd:N.Nodup
 pre:N.take P.length=P
 par:∀x∈P,sc.names.lookup x=δ .local∨sc.names.lookup x=δ .cell
 nofree:∀y∈sc.names,y.2≠ .free
theorem Qu{kindOf:ρ->Option NameKind}:∀{b:List (ρ×ζ)} {m:ρ->Option ζ},(∀v,(x,v)∉b)->bindL kindOf b m x=m x
 | [],_,_=>rfl
 | (n,v)::r,m,h=>by
  unfold bindL;rw[Qu λw H=>h w (Nv _ H)];split
  .let:x≠n:=by rintro rfl;exact h v No
   simp [this]
  .rfl
theorem Qv{kindOf:ρ->Option NameKind}:∀{b:List (ρ×ζ)} {m:ρ->Option ζ},(∀v,(x,v)∉b)->bindC kindOf b m x=m x
 | [],_,_=>rfl
 | (n,v)::r,m,h=>by
  unfold bindC;rw[Qv λw H=>h w (Nv _ H)];split
  .rfl
  .let:x≠n:=by rintro rfl;exact h v No
   simp [this]
theorem Qw{kindOf:ρ->Option NameKind}:∀{P:List ρ} {V:List ζ} {i:Nat} {m:ρ->Option ζ},P.Nodup->P[i]?=δ x->V[i]?=δ v->kindOf x=δ .local->
  bindL kindOf (P.zip V) m x=δ v
 | [],_,_,_,_,h,_,_=>by simp at h
 |_::_,[],_,_,_,_,h,_=>by simp at h
 |p::P,w::V,0,m,n,H,a,b=>by simp at H a;subst H;subst a;show bindL kindOf ((p,w)::P.zip V) m p=_;unfold bindL;rw[Qu λv c=>(mT.mp n).1 (RO c).1,M7 b];simp
 |p::P,w::V,i+1,m,n,H,a,b=>by show bindL kindOf ((p,w)::P.zip V) m x=_;unfold bindL;exact Qw (i:=i) (mT.mp n).2 (by simpa using H) (by simpa using a) b
theorem Qx{kindOf:ρ->Option NameKind}:∀{P:List ρ} {V:List ζ} {i:Nat} {m:ρ->Option ζ},P.Nodup->P[i]?=δ x->V[i]?=δ v->kindOf x≠δ .local->
  bindC kindOf (P.zip V) m x=δ v
 | [],_,_,_,_,h,_,_=>by simp at h
 |_::_,[],_,_,_,_,h,_=>by simp at h
 |p::P,w::V,0,m,n,H,a,b=>by simp at H a;subst H;subst a;show bindC kindOf ((p,w)::P.zip V) m p=_;unfold bindC;rw[Qv λv c=>(mT.mp n).1 (RO c).1,Na b];simp
 |p::P,w::V,i+1,m,n,H,a,b=>by show bindC kindOf ((p,w)::P.zip V) m x=_;unfold bindC;exact Qx (i:=i) (mT.mp n).2 (by simpa using H) (by simpa using a) b
noncomputable def gO(N:List ρ)(v:List V):St:=v.map δ++kz (N.length - v.length) θ
noncomputable def gu(C:pY)(P:ψ)(w:bU)(K:γ)(mg:ρ->Option ζ)(base:de)(N:List ρ)(q:ρ)(S:ir)(f:η)(c:ζ)(A:cc)(outer:List Env)(s:ι)(H:Hp)(E:XK):Cx where
 prog:=P
 w:=w
 K:=K
 mg:=mg
 base:=base
 A:=A.deeper (envOfC q S s.heap.objs.size f c)
 N:=N
 s₀:=s
 H₀:=H
 env:=envOfC q S s.heap.objs.size f c
 outer:=outer
 stack:=envOfC q S s.heap.objs.size f c::outer
 ex:=[]
 calm:=μ
 fn:=λ_=>μ
 pn:=[]
 xe:=λe b=>π (χ P w) (A.deeper$ envOfC q S s.heap.objs.size f c) (leaving (envOfC q S s.heap.objs.size f c) e) (λ_ a=>C outer H s E e a) (λd a=>C outer H s E d a) b
theorem XB{s:ir}{n:Nat}(h:s.names.lookup x=δ .cell):∃c,(cellsFrom n s.names []).lookup x=δ c:=by let q:=S0 s.names n [] (.inl h);exact mI.mp q
theorem Z2{P:ψ}{K:γ}{A:cc}{l:List V}
  (S:ai N t d) (O:A.handled=θ) (j:og P w K M B A o s H) (hl:l.length=t.length) (r:aD l U)
  (x:InCallC s s.heap.objs.size (bindL (envOfC Q d s.heap.objs.size f I).kindOf (t.zip U) λ_=>θ) (cellsFrom (s.heap.objs.size+1) d.names []) (bindC (envOfC Q d s.heap.objs.size f I).kindOf (t.zip U) λ_=>θ) T):
  au (gu Y P w K M B N Q d f I A o s H E) [] (gO N l) H T:=by
 let R:t.length<=N.length:=by let:=Od ri S.pre;rw[Nq]at this;omega
 let⟨F,tk,rfl,J⟩:=x.done;let m:∀b:η,b∉(gu Y P w K M B N Q d f I A o s H E).ex:=λb z=>absurd (show b∈([]:List η) from z) VW;refine#[#[j.mod,S.kind,Z,Z,M0 _,λy z c F g=>?_,λy hy=>?_,λy c _ h=>?_,λ_=>O,Around.frames_deeper j.frames,.inr #[Z,Z],λb z=>absurd z (m b),j.bs,j.bsz,λb _ _=>m b,λb z=>absurd z (m b),j.funs,j.frf],
  rfl,j.bare,Un.kept J,#[_,x.toInCall.ns,λi y v F g h3=>?_],λy c h=>#[_,x.cell y c h],j.hok.fresh$ M0 _,λy c h=>?_,λp C=>absurd (show p∈([]:List (η×hY)) from C) VW,j.hok.kept J,?_]
 .exact name_of_addr x.apart (Ot F)$ Ot g
 .let hy:d.names.lookup y=δ .cell∨d.names.lookup y=δ .free:=hy;rcases hy with hy |hy
  .exact XB hy
  .exact absurd Z$ S.nofree _$ Ot hy
 .exact OT$ x.above y c$ Ot h
 .let G:i < l.length:=by
   unfold gO at g;by_cases G:i < l.length
   .exact G
   .rw[OJ (by simpa using G)]at g;rw[Ts]at g;split at g<;>cases g
  let W:l[i]?=δ v:=by
   unfold gO at g;rw[ON (by simpa using G),Ni]at g;cases e:l[i]? with
   |none=>rw[e]at g;cases g
   |some a=>rw[e]at g;cases g;rfl
  let⟨u,L,X⟩:=r.get W;let C:t[i]?=δ y:=by rw[<- S.pre,List.getElem?_take_of_lt VV];exact F
  let D:t.Nodup:=by rw[<- S.pre];exact S.nd.sublist$ Px _ _
  refine#[u,X,?_];rcases S.par y (Nc C) with k |k
  .exact .inl #[k,Qw D C L k]
  .let⟨c,e⟩:=XB (n:=s.heap.objs.size+1) k;refine .inr #[.inl k,c,e,?_];let q:=x.cell y c e;rw[Qx D C L (by show d.names.lookup y≠_;rw[k];decide)]at q;exact q
 .exact j.hok.fresh$ OT$ x.above y c$ Ot h
 .unfold gO;show _=N.length;rw[MZ,MY,RS];omega
theorem BS{P:ψ}{K:γ}{kV:ζ}
    {G:Sp} (lk:K.lookup f=δ #[oc,od,.func$ rs name c p h a dV kV L pm an C ct,o1]) (M:codeIn K C c=μ) (S:ai N T a)
  (len:∀d H Q E,G d H Q E->d.length=T.length)
  (j:∀(A:cc) (O:List Env) (s:ι) (H:Hp) (d:List V) (Q:VK) (E:XK),bJ k (A.deeper$ envOfC c a s.heap.objs.size f C)->G d H Q E->
   ∃t,mY (gu U P w K Y B N c a f C A O s H E) h t/\t { nx:=λ_ i=>Q .non i,rt:=Q } (gO N d) H):
  ah P w K Y B U (k+1) f (rs name c p h a dV kV L pm an C ct) T G:=by
 refine#[len,λA O s H a0 us d Q E R z hb r D=>?_];let hl:=len _ _ _ _ D;let KX:K.In s.heap:=z.mod.kin.keeps λb o e=>(z.bs b o e).1;let X:s.heap.NoLimit:=z.mod.nolimit.keeps λb o e=>(z.bs b o e).1;let l:∀y∈T.zip us,a.names.lookup y.1=δ .local∨(a.names.lookup y.1=δ .cell/\((cellsFrom (s.heap.objs.size+1) a.names []).lookup y.1).isSome=μ):=λ#[n,v] hy=>by
  rcases S.par n (RO hy).1 with q |q
  .exact .inl q
  .exact .inr #[q,S0 _ _ _$ .inl q]
 refine codeAny_call_function R.depth (KX _ _ lk) Z S.co S.gen Z (PySem.W.codeRec_of KX M)$ hb _ _ _ _ ?_;refine wpAny_newFunctionEnv_cells S.kind l λe1 he s1 x=>?_;subst he;refine#[X.keeps x.toInCall.keep,codeAny_func ?_];let⟨t,ht,hq⟩:=j A O s H d Q E (R.deeper _) D;let I:au (gu U P w K Y B N c a f C A O s H E) [] (gO N d) H s1:=Z2 S R.hd z hl r x;refine N7 (ht [] s1 (gO N d) H _ I hq) (λfl s' m=>?_) λe s' m=>m;let F:∀{g:St} {i:Hp} {v:V} {u:ζ},au (gu U P w K Y B N c a f C A O s H E) [] g i s'->aG v u->Q v i->CE O P w H s Q u s':=
  λ{g i v u} J rv q=>#[v,i,J.os,J.bare,J.base,J.hok,rv,q]
 cases fl with
 |ret u=>let⟨v,g,i,J,rv,q⟩:=m;exact F J rv q
 |next=>let⟨g,i,J,q⟩:=m;exact F (v:=V.non) (u:=β) J Z q
 |brk=>let⟨_,_,_,q⟩:=m;exact False.elim q
 |cont=>let⟨_,_,_,q⟩:=m;exact False.elim q
section
variable {X:Cx}{x:ρ}{p pos:Pos}{e:dr}{es:List dr}{t:TA}{id T:String}{r:List V->Hp->VK->Prop}
def Mv(r:List V->Hp->VK->Prop)(t:TA):TE:=λa H Q=>t a H λv h=>r v h Q
theorem jN(d:eI X (.builtin id) r)(f:Gl X x)(g:X.mg x=θ)(i:bootBuiltins x=δ (.builtin id))(j:PA X (e::es) t)(k:x≠"__name__":=by decide)(a:(x==("__debug__":ρ))=ξ:=by decide)
  (l:Δ (e::es) X.env=(ξ,eval e X.env)::Δ es X.env:=by rfl) (b:(fJ pos$ Δ es X.env).any (·.1)=ξ:=by rfl):PE X (.Call (.Name x p) (e::es) [] pos) (Mv r t):=by
 intro P s c H Q I h;refine NT$ zy I f g i ?_ k a;exact VF (aV (j pos P s c H _ I h) λu S #[v,m,n,R,q]=>d P S c m v u Q n R q) l b
theorem jJ(d:eI X (.type T) r)(f:Gl X x)(g:X.mg x=θ)(i:bootBuiltins x=δ (.type T))(j:PA X (e::es) t)(k:x≠"__name__":=by decide)(a:(x==("__debug__":ρ))=ξ:=by decide)
  (l:Δ (e::es) X.env=(ξ,eval e X.env)::Δ es X.env:=by rfl) (b:(fJ pos$ Δ es X.env).any (·.1)=ξ:=by rfl):PE X (.Call (.Name x p) (e::es) [] pos) (Mv r t):=by
 intro P s c H Q I h;refine NT$ zy I f g i ?_ k a;exact NG (aV (j pos P s c H _ I h) λu S #[v,m,n,R,q]=>d P S c m v u Q n R q) l b
end
end _L
namespace HT
open PySem PyProof.Rows
section
variable {prog:ψ}{w:bU}{A:cc}{E:ζ->ι->Prop}{s:ι}
theorem cat_tup{v W:List ζ}{Q:ζ->ι->Prop}(m:IsTup s.heap t v.toArray)(o:IsTup s.heap b W.toArray)(i:v≠[])
  (p:W=[]->Q (.ref t) s) (q:W≠[]->Q (.ref s.heap.objs.size) { s with heap:=s.heap.push { cls:=.type "tuple",data:=.seq (v++W).toArray } })
  (g:v.length+W.length<=τ):π (χ prog w) A (binaryOp .Add (.ref t)$ .ref b) Q E s:=by
 obtain⟨⟨cls,D,data,j⟩,c,k,n,l⟩:=id m;obtain⟨⟨C,d,data2,S⟩,h,H,N,a⟩:=id o;simp only at k l H a;subst k l H a;let e:v.toArray++W.toArray=(v++W).toArray:=by simp
 by_cases f:W=[]
 .exact Ud #[_,c,Z] #[_,h,Z] SY TU Ro Rh (Rb _ _)
   (tuple_addW1 t b v.toArray W.toArray n N D d j S (by simpa using i) (by simp [f])) #[c,h,p f]
 .refine Ud #[_,c,Z] #[_,h,Z] SY TU Ro Rh (Rb _ _)
   (tuple_addW2 t b v.toArray W.toArray n N D d j S (by simpa using i) (by simpa using f) (by rw[M1,M1];exact g)) #[c,h,?_]
  rw[e];exact q f
def sIx(n d:Nat):Option Int->Nat
 |none=>d
 |some v=>if v < 0 then (v+(n:Int)).toNat else min v.toNat n
theorem sIx_none(n d:Nat):sIx n d θ=d:=rfl
theorem sIx_nat(n d k:Nat):sIx n d (δ (k:Int))=min k n:=by show(if (k:Int) < 0 then ((k:Int)+(n:Int)).toNat else min (k:Int).toNat n)=min k n;rw[Na VV,NQ]
theorem EK(n d:Nat)(H:d<=n)(o:Option Int):sIx n d o<=n:=by
 cases o with
 |none=>exact H
 |some v=>
  show(if v < 0 then (v+(n:Int)).toNat else min v.toNat n)<=n;by_cases h:v < 0
  .rw[M7 h];omega
  .rw[Na h];exact Nat.min_le_right _ _
theorem Zp(v:Int)(n d:Nat):(if v < 0 then max (v+(n:Int)) 0 else min v (n:Int))=((sIx n d (δ v):Nat):Int):=by
 show(if v < 0 then max (v+(n:Int)) 0 else min v (n:Int))=(((if v < 0 then (v+(n:Int)).toNat else min v.toNat n):Nat):Int);by_cases h:v < 0
 .simp only[M7 h];omega
 .simp only[Na h];omega
theorem YF(lo h:Option Int)(n:Nat):mm lo h 1 (n:Int)=(((sIx n 0 lo:Nat):Int),((sIx n n h:Nat):Int)):=by
 let H:¬((1:Int) < 0):=by omega
 unfold mm;simp only[H,Oj];refine Prod.ext ?_ ?_
 .cases lo with
  |none=>rfl
  |some v=>exact Zp v n 0
 .cases h with
  |none=>rfl
  |some v=>exact Zp v n n
theorem YG(i j:Nat):im (i:Int) (j:Int) 1=j - i:=by
 unfold im;let h:(1:Int) > 0:=by omega
 simp only[h,P7,Int.ediv_one];split<;>omega
theorem KG{Q:Option Int->ι->Prop}(p:IsPart v o)(h:Q o s):π (χ prog w) A (Builtin.Slice.slicePartIndex v) Q E s:=by
 cases p with
 |none=>exact VL h
 |int i t=>exact slicePart_int h
theorem sliceApplied_gen{lo:Option Int}{Q:Int×Int×Nat->ι->Prop}(d:s.heap.IsSliceOf e v c .none)(p:IsPart v lo)(P:IsPart c b)
  (h:Q (((sIx n 0 lo:Nat):Int),1,sIx n n b - sIx n 0 lo) s):π (χ prog w) A (oS (.ref e)$ pure (n:Int)) Q E s:=by
 let⟨os,H,f,a⟩:=id d;unfold oS Builtin.Slice.sliceFields;refine MU$ MU$ Nw H a (x:=v) Z$ MU$ Nw H a (x:=c) Z$ MU$ Nw H a (x:=.none) Z$ MX ?_;refine MU$ VL ?_;show π _ _ (if ((1:Int)==0)=μ then _ else _) _ _ s;rw[Na VU];refine MU$ KG p$ MU$ KG P$ MU$ MX ?_;show π _ _ (match mm lo b 1 (n:Int) with | (lo,b)=>pure (lo,(1:Int),im lo b 1)) _ _ s;rw[YF lo b n];show π _ _ (pure (((sIx n 0 lo:Nat):Int),(1:Int),im ((sIx n 0 lo:Nat):Int) ((sIx n n b:Nat):Int) 1)) _ _ s;rw[YG];exact MX h
theorem vN(X:Array ζ)(i k:Nat):((dB k).filterMap λ(m:Nat)=>X[((i:Int)+(m:Int)*1).toNat]?).toArray=((X.toList.drop i).take k).toArray:=by
 let e:(λ(m:Nat)=>X[((i:Int)+(m:Int)*1).toNat]?)=λm=>X[i+m]?:=by
  funext m;let:((i:Int)+(m:Int)*1).toNat=i+m:=by omega
  rw[this]
 rw[e];let:=pick_run X i k;rw[List.filterMap_map]at this;let a:((λx=>X[x]?) ∘ λx=>i+x)=λm=>X[i+m]?:=rfl;rw[a]at this;rw[this]
theorem getItem_tuple_cut{lo:Option Int}{Q:ζ->ι->Prop}(ht:IsTup s.heap t items)(hs:s.heap.IsSliceOf sl vl vu .none)(pl:IsPart vl lo)(pu:IsPart vu hi)
  (hw:¬(sIx items.size 0 lo=0/\sIx items.size items.size hi=items.size))
  (h:Q (.ref s.heap.objs.size) { s with heap:=s.heap.push { cls:=.type "tuple",data:=.seq ((items.toList.drop$ sIx items.size 0 lo).take$ sIx items.size items.size hi - sIx items.size 0 lo).toArray } })
  (hsz:items.size<=τ):π (χ prog w) A (getItem (.ref t)$ .ref sl) Q E s:=by
 let htake:sizeOk (.seq ((items.toList.drop$ sIx items.size 0 lo).take$ sIx items.size items.size hi - sIx items.size 0 lo).toArray):=by show((items.toList.drop$ sIx items.size 0 lo).take$ sIx items.size items.size hi - sIx items.size 0 lo).toArray.size<=τ;rw[M1,Nq,NN,Nn];omega
 let hj:sIx items.size items.size hi<=items.size:=EK _ _ (M0 _) hi;let⟨os,hos,hcs,hds⟩:=id hs;let hTs:s.TypeIs (.ref sl) "slice":=#[os,hos,hcs];unfold getItem;try with_reducible refine Np ?_
 first |refine MU (MX ?_) |skip
 refine MU$ SG ht.typeIs VU ?_;refine MU (NE (name:=Str.ofString "__getitem__") ht.typeIs OL
  (NC OL ht.typeIs entry_tuple_getitem ?_$ args_tuple_getitem _ _))
 show π _ _ (pz (.ref t) >>= _) _ _ s;refine MU$ tupleItemsOf_ ht ?_;refine MU$ OK hTs ?_;rw[M7 VU];refine MU$ sliceApplied_gen hs pl pu ?_;let hno:¬((((sIx items.size 0 lo:Nat):Int)==0&&(1:Int)==1&&(sIx items.size items.size hi - sIx items.size 0 lo)==items.size)=μ):=by intro q;rw[Of,Of]at q;let q1:((sIx items.size 0 lo:Nat):Int)=0:=eq_of_beq q.1.1;let q2:sIx items.size items.size hi - sIx items.size 0 lo=items.size:=eq_of_beq q.2;exact hw #[VV,VV]
 show π _ _ (if (((sIx items.size 0 lo:Nat):Int)==0&&(1:Int)==1&&(sIx items.size items.size hi - sIx items.size 0 lo)==items.size)=μ then _ else _) _ _ s;rw[Na hno,vN];first
  |exact MU (m:=eT _) (NF (MX #[_,Z,MX h]) htake)
  |exact MU (m:=eT _) (NF (MU (MX (MX #[_,Z,MX h]))) htake)
  |exact MU (MU (m:=eT _) (NF (MX (MX #[_,Z,MX h])) htake))
  |exact MU (MU (m:=eT _) (NF (MX #[_,Z,MX h]) htake))
end
end HT
namespace _L
open PySem PySem.Spec PyProof.Rows
abbrev TO:=St->Hp->(Option Int->Hp->Prop)->Prop
def PO(X:Cx)(e:Option dr)(t:TO):Prop:=
 ∀(p:List (η×hY)) (s:ι) (a:St) (H:Hp) (Q:Option Int->Hp->Prop),au X p a H s->t a H Q->
  π (χ X.prog X.w) X.A (evalPart e X.env) (λu S=>∃o h,au X p a h S/\IsPart u o/\Q o h) X.xe s
def Bm:TO:=λ_ H Q=>Q θ H
inductive xG(Q:Option Int->Hp->Prop)(x:V)(a:Hp):Prop
 |mk(i:_)(_:x= .int i)(_:Q (δ i) a)
def xF(t:TE):TO:=λa H Q=>t a H (xG Q)
section
variable {X:Cx}{e:dr}{te:TE}{lo hi:Option dr}{tl th:TO}{pos p2:Pos}
theorem jV:PO X θ Bm:=by intro p s a H Q I h;rw[evalPart_none];exact MX #[θ,H,I,.none,h]
theorem jL(h:PE X e te):PO X (δ e) (xF te):=by intro p s a H Q I b;rw[evalPart_some];refine aV (h p s a H _ I b) λu S z=>?_;let⟨x,c,d,r,f⟩:=z;let⟨i,rfl,q⟩:=f;let⟨t,rfl⟩:=r;exact#[δ i,c,d,.int i t,q]
def IK(X:Cx)(r:V->Option Int->Option Int->Hp->VK->Prop):Prop:=
 ∀(p:List (η×hY)) (s:ι) (a:St) (H:Hp) (x:V) (v b c:ζ) (lo hi:Option Int) (S:η) (Q:VK),au X p a H s->aG x v->s.heap.IsSliceOf S b c .none->IsPart b lo->IsPart c hi->r x lo hi H Q->
  ∃T id,typeLookup (.type T) "__getitem__"=pure (δ$ .builtin id)/\s.TypeIs v T/\π (χ X.prog X.w) X.A (getItem v$ .ref S) (EP X p a Q) X.xe s
def Mw(r:V->Option Int->Option Int->Hp->VK->Prop)(te:TE)(tl th:TO):TE:=λa H Q=>te a H λx h=>tl a h λl b=>th a b λu c=>r x l u c Q
theorem jM{r:V->Option Int->Option Int->Hp->VK->Prop}(g:IK X r)(i:PE X e te)(j:PO X lo tl)(k:PO X hi th):PE X (.Subscript e (.Slice lo hi θ p2) pos) (Mw r te tl th):=by intro p s a H Q I h;refine UZ$ aV (i p s a H _ I h) λv m z=>?_;let⟨x,n,o,R,t⟩:=z;refine wpAny_Slice$ aV (j p m a n _ o t) λc y #[l,B,C,P,D]=>aV (k p y a B _ C D) λd S z=>?_;let⟨u,f,E,F,G⟩:=z;rw[evalPart_none];refine MX ?_;let J:au X p a f { S with heap:=S.heap.push { cls:=.type "slice",data:=.fields (ε [c,d,.none]) } }:=E.kept (t':=S.toks) λb O q=>MW _ q;let⟨T,id,K,L,M⟩:=g p { S with heap:=S.heap.push { cls:=.type "slice",data:=.fields (ε [c,d,.none]) } } a f x v c d l u S.heap.objs.size Q J R (SE ..) P F G;show π (χ X.prog X.w) X.A (subscriptTail e (.Slice lo hi θ p2) v$ .ref S.heap.objs.size) (EP X p a Q) X.xe { S with heap:=S.heap.push { cls:=.type "slice",data:=.fields (ε [c,d,.none]) } };exact tail_any (ops:=[.ref S.heap.objs.size,v]) L K M (by with_unfolding_all rfl)
noncomputable def aW(x:List V)(lo hi:Option Int):List V:=(x.drop$ HT.sIx x.length 0 lo).take (HT.sIx x.length x.length hi - HT.sIx x.length 0 lo)
theorem zj(x:List V)(lo hi:Option Int):(aW x lo hi).length<=x.length:=by unfold aW;rw[Nq,NN];omega
inductive HP(K:γ)(x:V)(c b:Option Int)(H:Hp)(Q:VK):Prop
 |mk(a d:_)(_:x= .ref a)(_:aB K H a d)(_:¬(HT.sIx d.length 0 c=0/\HT.sIx d.length d.length b=d.length))(_:∀p,H p=θ->Q (.ref p) (af H p (.tup (aW d c b))))
theorem EZ:IK X (HP X.K):=by
 intro p s n H x v V t lo hi S Q I R j P k h;let⟨a,d,rfl,l,m,q⟩:=h;cases R;let⟨i,r,f,g⟩:=I.tuple l;let c:i.toArray.size=d.length:=by rw[M1];exact r.length.symm
 refine#["tuple",_,PyProof.Rows.slot_tuple_getitem.lookup,f.typeIs,?_];refine HT.getItem_tuple_cut f j P k (by rw[c];exact m) ?_ (by rw[c];exact g);rw[c];refine#[.ref s.heap.objs.size,_,I.laid (t':=s.toks) (o:=.tup (aW d lo hi)) (λb O q=>MW _ q) (M0 _) ?_,Z,q _$ I.hok.fresh$ M0 _];exact#[Ng (zj d lo hi) g,_,(r.drop$ HT.sIx d.length 0 lo).take$ HT.sIx d.length d.length hi - HT.sIx d.length 0 lo,Uj _ _]
inductive Ci(K:γ)(x y:V)(H:Hp)(Q:VK):Prop
 |mk(a b c d:_)(_:x= .ref a)(_:y= .ref b)(_:aB K H a c)(_:aB K H b d)(_:c≠[])(_:c.length+d.length<=τ)(_:d=[]->Q (.ref a) H)(_:d≠[]->∀p,H p=θ->Q (.ref p) (af H p (.tup (c++d))))
theorem aD.nil_iff(r:aD x u):u=[]↔x=[]:=by
 cases r with
 |nil=>simp
 |cons _ _=>simp
theorem Au:fh X (binaryOp .Add) (Ci X.K):=by intro p s A H x y v u Q I d f h;let⟨a,b,g,Y,rfl,rfl,j,k,l,c,m,n⟩:=h;cases d;cases f;let⟨t,R,P,_⟩:=I.tuple j;let⟨i,r,p2,_⟩:=I.tuple k;refine HT.cat_tup P p2 (λz=>l (R.nil_iff.mp z)) (λz=>#[.ref a,H,I,Z,m$ r.nil_iff.mp z]) (λz=>?_) (by rw[<- R.length,<- r.length];exact c);refine#[.ref s.heap.objs.size,_,I.laid (t':=s.toks) (o:=.tup (g++Y)) (λb O q=>MW _ q) (M0 _) ?_,Z,n (λw=>z (r.nil_iff.mpr w)) _$ I.hok.fresh$ M0 _];exact#[by rw[MZ];exact c,_,R.append r,Uj _ _]
end
noncomputable def yN(n:Nat)(i:Int):Option Nat:=if 0<=i then (if i < n then δ i.toNat else θ) else if -(n:Int)<=i then δ (i+n).toNat else θ
noncomputable def eU{a:Type}(x:List a)(i:Int):Option a:=(yN x.length i).bind λj=>x[j]?
theorem Zq(h:yN n i=δ j):seqIndex? i n=δ j/\j < n/\ -(n:Int)<=i/\i < n:=by
 unfold yN at h;by_cases a:0<=i
 .rw[M7 a]at h;by_cases H:i < n
  .rw[M7 H]at h;let e:i.toNat=j:=NH h;exact#[by rw[UA a H,e],VV,VV,H]
  .rw[Na H]at h;cases h
 .rw[Na a]at h;by_cases H: -(n:Int)<=i
  .rw[M7 H]at h;let e:(i+n).toNat=j:=NH h;exact#[by rw[Ub VV H,e],VV,H,VV]
  .rw[Na H]at h;cases h
theorem Q0{a:Type}{x:List a}{v:a}(h:eU x i=δ v):∃j,seqIndex? i x.length=δ j/\x[j]?=δ v/\j < x.length/\ -(x.length:Int)<=i/\i < x.length:=by
 unfold eU at h;cases e:yN x.length i with
 |none=>rw[e]at h;cases h
 |some j=>rw[e]at h;let⟨H,b,c,d⟩:=Zq e;exact#[j,H,h,b,c,d]
theorem jG{a:Type}{x:List a}{j:Nat}{v:a}(h:x[j]?=δ v):eU x (j:Int)=δ v:=by
 let H:j < x.length:=(ν.mp h).1;let e:yN x.length (j:Int)=δ j:=by unfold yN;rw[M7 VV,M7 VV];simp
 unfold eU;rw[e];exact h
def yj(b:dr):Prop:=∀o i,subscripted b ξ o i=operate [o,i] (getItem o i)
def FY(X:Cx)(r:R2):Prop:=
 ∀(a S:dr) (p:List (η×hY)) (s:ι) (b:St) (H:Hp) (x y:V) (v u:ζ) (Q:VK),au X p b H s->aG x v->aG y u->r x y H Q->
  subscripted S ξ v u=operate [v,u] (getItem v u)->π (χ X.prog X.w) X.A (subscriptTail a S v u) (EP X p b Q) X.xe s
def I8(X:Cx)(id:String)(r:V->List V->Hp->VK->Prop):Prop:=
 ∀(p:List (η×hY)) (s:ι) (a:St) (H:Hp) (x:V) (b:List V) (v:ζ) (u:List ζ) (Q:VK),au X p a H s->aG x v->aD b u->r x b H Q->
  π (χ X.prog X.w) X.A (call (.builtin id) (v::u)) (EP X p a Q) X.xe s
section
variable {X:Cx}{a b:dr}{ta tb:TE}{pos:Pos}
theorem ju{r:R2}(c:FY X r)(d:PE X a ta)(e:PE X b tb)(f:yj b):PE X (.Subscript a b pos) (g9 r ta tb):=by intro p s g H Q I h;exact UZ$ CQ d e I h λv u S x y i j R k q=>c a b p S g i x y v u Q j R k q (f _ _)
inductive vU(K:γ)(x y:V)(H:Hp)(Q:VK):Prop
 |mk(p a i v:_)(_:x= .ref p)(_:y= .int i)(_:aI K H p a)(_:eU a i=δ v)(_:Q v H)
inductive cw(K:γ)(x y:V)(H:Hp)(Q:VK):Prop
 |mk(p a i v:_)(_:x= .ref p)(_:y= .int i)(_:aB K H p a)(_:eU a i=δ v)(_:Q v H)
inductive AH(x y:V)(H:Hp)(Q:VK):Prop
 |mk(z i c:_)(_:x= .str z)(_:y= .int i)(_:z.length<=τ)(_:eU z.cps.toList i=δ c)(_:Q (.str #[(ε [c])]) H)
theorem jD:FY X (vU X.K):=by
 intro V S P s k H x y v u Q I n o h l;let⟨p,L,i,z,rfl,rfl,A,B,q⟩:=h;cases n;let⟨t,rfl⟩:=o;let⟨d,r,e,M⟩:=I.list A;let⟨j,c,C,N,D,F⟩:=Q0 B;let⟨w,E,R⟩:=r.get C;let G:=r.length;let O:=eX;let f:EP X P k Q w s:=#[z,H,I,R,q];by_cases m:0<=i
 .let g:i.toNat=j:=by rw[UA m F]at c;exact NH c
  exact item_listR e.isList m VV (by rw[g];simpa using E) f l
 .let g:(i+(d.toArray.size:Int)).toNat=j:=by rw[Ub VV D]at c;rw[M1,<- G];exact NH c
  exact Ua (x:=w) e.isList.typeIs slot_list_getitem.lookup
   (wpAny_getItem_list_neg (Q:=λr J=>r=w/\EP X P k Q r J) e.isList VV (by rw[M1]<;>omega) VV (by rw[g];simpa using E) #[Z,f]) l
theorem jF:FY X (cw X.K):=by
 intro V S P s c H x y v u Q I e g h k;let⟨p,D,i,z,rfl,rfl,l,m,q⟩:=h;cases e;let⟨t,rfl⟩:=g;let⟨n,r,d,F⟩:=I.tuple l;let⟨j,o,A,G,J,L⟩:=Q0 m;let⟨w,E,R⟩:=r.get A;let B:=r.length;let M:=eX;let f:EP X P c Q w s:=#[z,H,I,R,q];exact Ua (x:=w) d.typeIs slot_tuple_getitem.lookup
  (getItem_tuple (j:=j) (Q:=λr C=>r=w/\EP X P c Q r C) d VV VV (by rw[M1,<- B];exact o) (by simpa using E) #[Z,f]) k
theorem Kl:FY X AH:=by
 intro V S p s o H x y v u Q I r R h e;let⟨z,i,c,rfl,rfl,w,f,q⟩:=h;let⟨t,rfl⟩:=r;let⟨T,rfl⟩:=R;let⟨j,d,g,A,k,l⟩:=Q0 f;let m:z.cps.toList.length=z.length:=by simp [Str.length]
 rw[m]at d k l;let B:=eX;exact tail_any (typeIs_str s z t) slot_str_getitem.lookup (getItem_str (c:=c) (by
  let E:decide (i < -(2 ^ 63:Int))=ξ:=M5 VV;let n:decide (i≥2 ^ 63)=ξ:=M5 VV;rw[E,n,Tn]) (by rw[d];simpa using g) #[.str #[(ε [c])],H,I.tok _,#[_,Z],q]) e
theorem YH(i:List ζ)(n j:Nat)(u:ζ):ab (·.setIfInBounds j u) { cls:=.type "list",data:=.seq i.toArray n }={ cls:=.type "list",data:=.seq (i.set j u).toArray n }:=by simp [ab]
theorem au.lst(I:au X c d H s)(h:H p=δ (.lst x)):
  ∃(i:List ζ) (n:Nat),aD x i/\s.heap.get? p=δ { cls:=.type "list",data:=.seq i.toArray n }/\x.length<=τ:=by
 let⟨z,i,n,r,e⟩:=I.hok p _ h;exact#[i,n,r,e,z]
theorem au.lstUpd{c i:List ζ}{f:hY->hY}(I:au X d j H s)(h:H p=δ (.lst o))
  (k:s.heap.get? p=δ { cls:=.type "list",data:=.seq c.toArray n }) (g:f { cls:=.type "list",data:=.seq c.toArray n }={ cls:=.type "list",data:=.seq i.toArray N }) (r:aD y i) (l:y.length<=τ) (t:Nat):
  au X d j (af H p$ .lst y) { s with heap:=s.heap.update p f,toks:=t }:=by
 let e:(s.heap.update p f).get? p=δ { cls:=.type "list",data:=.seq i.toArray N }:=by rw[Heap.get?_update_self f k (by rw[g]<;>rfl),g]
 refine I.write (x:=p) (e:=p) (by rw[h];trivial) (.inl Z) (λb u m q=>(Heap.get?_update_other _ _$ Ne.symm m).trans q) #[_,e] ?_;exact#[l,i,N,r,e]
inductive Cj(o i v:V)(H:Hp)(Q:Hp->Prop):Prop
 |mk(p a k j:_)(_:o= .ref p)(_:i= .int k)(_:H p=δ (.lst a))(_:yN a.length k=δ j)(_:Q (af H p (.lst (a.set j v))))
theorem zD:Gb X Cj:=by
 intro P s z H o i v O F u Q I R A B h;let⟨p,C,k,j,rfl,rfl,l,D,q⟩:=h;cases R;let⟨t,rfl⟩:=A;let⟨c,n,r,e,E⟩:=I.lst l;let⟨d,G,m,w⟩:=Zq D;let f:=r.length;let J:=eX;let x:au X P z (af H p$ .lst$ C.set j v) { s with heap:=s.heap.update p (ab (·.setIfInBounds j u)) }:=
  I.lstUpd l e (YH c n j u) (r.set B j) (by rw[Sz];exact E) s.toks
 by_cases y:0<=k
 .let g:k.toNat=j:=by rw[UA y w]at d;exact NH d
  exact PySem.W.ki_setAt e y VV (by rw[M1,<- f];exact w) (by rw[g];exact#[_,x,q])
 .let g:(k+(c.toArray.size:Int)).toNat=j:=by rw[Ub VV m]at d;rw[M1,<- f];exact NH d
  exact PySem.W.ki_setBack e VV (by rw[M1,<- f];exact m) VV (by rw[g];exact#[_,x,q])
theorem Xh(lo H:Option Int)(n:Nat):(sliceBounds lo H θ n).1=((HT.sIx n 0 lo:Nat):Int)/\(sliceBounds lo H θ n).2.1=((HT.sIx n n H:Nat):Int)/\(sliceBounds lo H θ n).2.2=1:=by
 refine#[?_,?_,Z]
 .cases lo with
  |none=>simp [sliceBounds,HT.sIx]
  |some i=>
   simp only[sliceBounds,HT.sIx,Si,show(1:Int) > 0 by decide,P7];by_cases h:i < 0
   .simp only[h,P7]<;>omega
   .simp only[h,Oj]<;>omega
 .cases H with
  |none=>simp [sliceBounds,HT.sIx]
  |some i=>
   simp only[sliceBounds,HT.sIx,Si,show(1:Int) > 0 by decide,P7];by_cases h:i < 0
   .simp only[h,P7]<;>omega
   .simp only[h,Oj]<;>omega
theorem K0(i:List ζ)(lo h:Option Int):slicePick i.toArray lo h θ=((i.drop$ HT.sIx i.length 0 lo).take$ HT.sIx i.length i.length h - HT.sIx i.length 0 lo).toArray:=by let⟨H,c,d⟩:=Xh lo h i.toArray.size;unfold slicePick;rw[H,c,d];simp only[sliceRange_one,pick_run,M1]<;>rfl
inductive Ez(K:γ)(x:V)(c b:Option Int)(H:Hp)(Q:VK):Prop
 |mk(a d:_)(_:x= .ref a)(_:aI K H a d)(_:∀p,H p=θ->Q (.ref p) (af H p (.lst (aW d c b))))
theorem zo:IK X (Ez X.K):=by intro p s m H x v V n lo e S Q I R g P i h;let⟨a,c,rfl,j,q⟩:=h;cases R;let⟨k,r,f,l⟩:=I.list j;let d:=r.length;refine#["list",_,slot_list_getitem.lookup,f.isList.typeIs,?_];refine wpAny_getItem_list_slice f.isList g P i .none VW ?_ (by rw[M1]<;>omega);rw[K0,<- d];refine#[.ref s.heap.objs.size,_,I.laid (t':=s.toks) (o:=.lst (aW c lo e)) (λb O q=>MW _ q) (M0 _) ?_,Z,q _$ I.hok.fresh$ M0 _];exact#[Ng (zj c lo e) l,_,0,(r.drop$ HT.sIx c.length 0 lo).take$ HT.sIx c.length c.length e - HT.sIx c.length 0 lo,M3 _ Z]
noncomputable def dh:V->Bool
 | .non=>μ
 | .bl _=>μ
 | .int _=>μ
 | .str _=>μ
 |_=>ξ
noncomputable def nZ:V->V->Bool
 | .non,.non=>μ
 | .bl a,.bl b=>a==b
 | .bl a,.int b=>(if a then 1 else 0)==b
 | .int a,.bl b=>a==(if b then 1 else 0)
 | .int a,.int b=>a==b
 | .str a,.str b=>a==b
 |_,_=>ξ
theorem uf(R:aG y u)(r:aG x v)(F:dh y=μ)(f:dh x=μ):SeqAt.EqAt A s u v (nZ y x):=by
 cases y with
 |non=>
  cases R;cases x with
  |non=>cases r;exact SeqAt.EqAt.same _
  |bl b=>cases r;exact SeqAt.EqAt.none_bool b
  |int b=>let⟨t,rfl⟩:=r;exact SeqAt.EqAt.none_int b t
  |str b=>let⟨t,rfl⟩:=r;exact SeqAt.EqAt.none_str b t
  |_=>exact absurd (show ξ=μ from f) M8
 |bl a=>
  cases R;cases x with
  |non=>cases r;exact SeqAt.EqAt.bool_none a
  |bl b=>cases r;exact SeqAt.EqAt.bool_bool a b
  |int b=>let⟨t,rfl⟩:=r;exact SeqAt.EqAt.bool_int a b t
  |str b=>let⟨t,rfl⟩:=r;exact SeqAt.EqAt.bool_str a b t
  |_=>exact absurd (show ξ=μ from f) M8
 |int a=>
  let⟨T,rfl⟩:=R;cases x with
  |non=>cases r;exact SeqAt.EqAt.int_none a T
  |bl b=>cases r;exact SeqAt.EqAt.int_bool a T b
  |int b=>let⟨t,rfl⟩:=r;exact SeqAt.EqAt.int_int a T b t
  |str b=>let⟨t,rfl⟩:=r;exact Tf a T b t
  |_=>exact absurd (show ξ=μ from f) M8
 |str a=>
  let⟨T,rfl⟩:=R;cases x with
  |non=>cases r;exact SeqAt.EqAt.str_none a T
  |bl b=>cases r;exact SeqAt.EqAt.str_bool a T b
  |int b=>let⟨t,rfl⟩:=r;exact Te a T b t
  |str b=>let⟨t,rfl⟩:=r;exact SeqAt.EqAt.str_str a T b t
  |_=>exact absurd (show ξ=μ from f) M8
 |_=>exact absurd (show ξ=μ from F) M8
noncomputable def oq(x:V)(u:ζ):Bool:=match u with
 | .none=>nZ .non x
 | .bool b=>nZ (.bl b) x
 | .int i _=>nZ (.int i) x
 | .str z _=>nZ (.str z) x
 |_=>ξ
theorem ui(r:aG y u)(f:dh y=μ):oq x u=nZ y x:=by
 cases y with
 |non=>cases r;rfl
 |bl b=>cases r;rfl
 |int i=>let⟨t,rfl⟩:=r;rfl
 |str z=>let⟨t,rfl⟩:=r;rfl
 |_=>exact absurd (show ξ=μ from f) M8
theorem q8:∀{c:List V} {U:List ζ},aD c U->c.all dh=μ->U.any (oq x)=c.any λy=>nZ y x
 |_,_,.nil,_=>rfl
 |y::c,u::U,.cons r t,f=>by rw[Tl,Of]at f;rw[PX,PX,ui r f.1,q8 t f.2]
theorem qu(R:aG x v)(F:dh x=μ):∀{c:List V} {U:List ζ},aD c U->c.all dh=μ->∀u∈U,SeqAt.EqAt A s u v (oq x u)
 |_,_,.nil,_=>λu hu=>by cases hu
 |y::c,u::U,.cons r t,f=>λd hu=>by
  rw[Tl,Of]at f;rcases Φ.mp hu with rfl |hu
  .rw[ui r f.1];exact uf r R f.1 F
  .exact qu R F t f.2 d hu
noncomputable def oX(x:V)(c:List V):Bool:=c.any λy=>nZ y x
inductive HL(K:γ)(a:Bool)(x y:V)(H:Hp)(Q:VK):Prop
 |mk(p b:_)(_:y= .ref p)(_:aI K H p b∨aB K H p b)(_:dh x=μ)(_:b.all dh=μ)(_:Q (.bl (if a then !oX x b else oX x b)) H)
theorem zu:fh X (compareOp .In) (HL X.K ξ):=by
 intro d s j H x y v u Q I R e h;let⟨p,k,rfl,hq,F,f,q⟩:=h;cases e;rcases hq with hq |hq
 .let⟨i,r,P,g⟩:=I.list hq;refine SeqAt.in_listAt (oq x) P.isList (λw c=>qu R F r f w (by simpa using c)) #[.bl _,H,I,Z,?_];rw[show i.toArray.any (oq x)=i.any (oq x) by simp,q8 r f];exact q
 .let⟨i,r,P,g⟩:=I.tuple hq;refine SeqAt.in_tupleAt (oq x) P (λw c=>qu R F r f w (by simpa using c)) #[.bl _,H,I,Z,?_];rw[show i.toArray.any (oq x)=i.any (oq x) by simp,q8 r f];exact q
theorem Jr:fh X (compareOp .NotIn) (HL X.K μ):=by
 intro d s j H x y v u Q I R e h;let⟨p,k,rfl,hq,F,f,q⟩:=h;cases e;rcases hq with hq |hq
 .let⟨i,r,P,g⟩:=I.list hq;refine SeqAt.notIn_listAt (oq x) P.isList (λw c=>qu R F r f w (by simpa using c)) #[.bl _,H,I,Z,?_];rw[show i.toArray.any (oq x)=i.any (oq x) by simp,q8 r f];exact q
 .let⟨i,r,P,g⟩:=I.tuple hq;refine SeqAt.notIn_tupleAt (oq x) P (λw c=>qu R F r f w (by simpa using c)) #[.bl _,H,I,Z,?_];rw[show i.toArray.any (oq x)=i.any (oq x) by simp,q8 r f];exact q
theorem jI:eI X (.builtin "len") (λx H Q=>∃p y,x=[.ref p]/\(aI X.K H p y∨aB X.K H p y)/\Q (.int y.length) H):=by
 intro d s g H x U Q I r h;let⟨p,y,rfl,hq,q⟩:=h;let⟨u,rfl,e⟩:=fg r;cases e;let j:=eX;rcases hq with hq |hq
 .let⟨i,R,P,f⟩:=I.list hq;let c:=R.length;exact Calls.call_len_list P.isList (by simp only[M1]<;>omega) #[.int y.length,H,I.tok _,#[s.toks+1,by rw[M1,c]],q]
 .let⟨i,R,P,f⟩:=I.tuple hq;let c:=R.length;exact len_tuple P (by simp only[M1]<;>omega) #[.int y.length,H,I.tok _,#[s.toks+1,by rw[M1,c]],q]
theorem Js:eI X (.type "list") (λx H Q=>∃p y,x=[.ref p]/\(aI X.K H p y∨aB X.K H p y)/\∀l,H l=θ->Q (.ref l) (af H l$ .lst y)):=by
 intro P s z H x U Q I r h;let⟨p,y,rfl,hq,q⟩:=h;let⟨u,rfl,A⟩:=fg r;cases A;let f:∀(i:List ζ),aD y i->y.length<=τ->∀(c:de) (C:Nat),(∀b O,s.heap.get? b=δ O->c.get? b=δ O)->
   c.get? s.heap.objs.size=δ { cls:=.type "list",dict:=θ,data:=.seq i.toArray C,slots:=(ε []) }->EP X P z Q (.ref s.heap.objs.size) { s with heap:=c }:=λi R d c C k e=>
  #[.ref s.heap.objs.size,_,I.laid (t':=s.toks) k (M0 _) (show aN X.prog X.w _ c _ (.lst y) from #[d,i,C,R,e]),Z,q _$ I.hok.fresh$ M0 _]
 rcases hq with hq |hq
 .let⟨i,R,j,d⟩:=I.list hq;let g:=R.length;let⟨o,m,t,n,v⟩:=j.isList;exact call_list_seq p (.inl Z) m t v (λc C k e=>f i R d c C k e) (by simp only[M1]<;>omega)
 .let⟨i,R,j,d⟩:=I.tuple hq;let g:=R.length;let⟨o,m,t,n,v⟩:=j;exact call_list_seq p (.inr Z) m t v (λc C k e=>f i R d c C k e) (by simp only[M1]<;>omega)
theorem jO:eI X (.type "tuple") (λx H Q=>∃p y,x=[.ref p]/\((aI X.K H p y/\∀l,H l=θ->Q (.ref l) (af H l$ .tup y))∨(aB X.K H p y/\Q (.ref p) H))):=by
 intro P s g H x U Q I r h;let⟨p,y,rfl,h⟩:=h;let⟨u,rfl,n⟩:=fg r;cases n;rcases h with ⟨d,q⟩ | ⟨d,q⟩
 .let⟨i,R,f,j⟩:=I.list d;let k:=R.length;refine call_tuple_list f.isList (λc t=>?_) (by simp only[M1]<;>omega);let m:au X P g H { s with heap:=c }:=I.kept (t':=s.toks) t;let v:au X P g (af H c.objs.size$ .tup y) { s with heap:=c.push { cls:=.type "tuple",data:=.seq i.toArray } }:=
   m.laid (t':=s.toks) (λb o e=>MW _ e) (M0 _) (show aN X.prog X.w _ _ _ (.tup y) from #[j,i,R,Uj _ _])
  exact#[.ref c.objs.size,_,v,Z,q _$ m.hok.fresh$ M0 _]
 .let⟨i,R,f,j⟩:=I.tuple d;exact call_tuple_same f #[.ref p,H,I,Z,q]
def LU(K:γ)(T:String)(x:V)(H:Hp):Prop:=match x with
 | .str _=>T="str"
 | .int _=>T="int"
 | .ref p=>(T="list"/\∃c,aI K H p c)∨(T="tuple"/\∃o,K.lookup p=δ o/\o.cls= .type "tuple"/\o.dict=θ)∨
   (T="dict"/\((∃k,H p=δ (.dK k))∨∃k,H p=δ (.dT k)))∨(T="set"/\∃S n,H p=δ (.set S n))
 |_=>False
theorem xN(I:au X j u H s)(r:aG x v)(d:LU X.K T x H):
  s.TypeIs v T/\∀a,v= .ref a->∃O,s.heap.get? a=δ O/\O.dict=θ:=by
 cases x with
 |str z=>let⟨t,rfl⟩:=r;cases (show T="str" from d);exact#[typeIs_str s z t,λ_ e=>nomatch e]
 |int i=>let⟨t,rfl⟩:=r;cases (show T="int" from d);exact#[typeIs_int s i t,λ_ e=>nomatch e]
 |ref p=>
  cases r;rcases d with ⟨rfl,w,l⟩ | ⟨rfl,o,h,m,f⟩ | ⟨rfl,h⟩ | ⟨rfl,S,n,h⟩
  .let⟨q,_,P,_⟩:=I.list l;refine#[P.isList.typeIs,λa e=>?_];cases e;let⟨o,n,e,c,f,_⟩:=P;exact#[o,e,f]
  .refine#[#[o,I.kIn p o h,m],λa e=>?_];cases e;exact#[o,I.kIn _ o h,f]
  .let z:∃o,s.heap.get? p=δ o/\o.ExactDict:=by
    rcases h with ⟨k,h⟩ | ⟨k,h⟩
    .let⟨_,_,_,_,o,_,_,e,E,_⟩:=I.hok p _ h;exact#[o,e,E]
    .let⟨_,_,_,_,o,_,_,e,E,_⟩:=I.hok p _ h;exact#[o,e,E]
   let⟨o,e,E⟩:=z;refine#[#[o,e,E.1],λa g=>?_];cases g;exact#[o,e,E.2.1]
  .let⟨o,_,_,_,e,E,_⟩:=I.hok p _ h;refine#[#[o,e,E.1],λa g=>?_];cases g;exact#[o,e,E.2.1]
 |_=>exact False.elim d
def LM(K:γ)(T:String)(r:V->List V->Hp->VK->Prop)(t:TE):TE:=λc H Q=>t c H λx h=>LU K T x h/\r x [] h Q
def Mt(K:γ)(T:String)(r:V->List V->Hp->VK->Prop)(d:TE)(t:TA):TE:=λc H Q=>d c H λx h=>LU K T x h/\t c h λe f=>r x e f Q
variable {o e:dr}{es:List dr}{to:TE}{t:TA}{name:ρ}{apos cpos:Pos}{T id:String}{r:V->List V->Hp->VK->Prop}
theorem Ep(P:PlainAttrs T)(S:Slot T name id)(f:typeOf (.builtin id)=pure (.type "method_descriptor"))(j:I8 X id r)(k:PE X o to)
  (c:attributeBase o name X.env (eval o X.env)=eval o X.env:=by rfl) (d:(apos.endLine==cpos.line)=μ:=by rfl):PE X (.Call (.Attribute o name apos) [] [] cpos) (LM X.K T r to):=by
 intro p s g H Q I h;refine wpAny_Call_method0_late c d$ aV (k p s g H _ I h) λv l z=>?_;let⟨x,m,i,R,n,q⟩:=z;let⟨u,w⟩:=xN i R n;exact#[T,id,P,S,f,u,w,RD Z$ PySem.evalArgs_none$ j p l g m x [] v [] Q i R .nil q]
theorem j8(P:PlainAttrs T)(S:Slot T name id)(i:typeOf (.builtin id)=pure (.type "method_descriptor"))(m:I8 X id r)(n:PE X o to)(q:PA X (e::es) t)
  (d:attributeBase o name X.env (eval o X.env)=eval o X.env:=by rfl)
  (g:((fJ cpos$ Δ (e::es) X.env).all (λx=>!x.1)&&(backToKw cpos$ keywordEach [] X.env).all (λx=>x.1.isSome)
   &&decide ((e::es).length+([]:List Keyword).length+(if ([]:List Keyword).isEmpty then 0 else 1) < 30))=μ:=by rfl)
  (f:(apos.endLine==cpos.line)=μ:=by rfl) (u:Δ (e::es) X.env=(ξ,eval e X.env)::Δ es X.env:=by rfl) (c:(fJ cpos$ Δ es X.env).any (·.1)=ξ:=by rfl):
  PE X (.Call (.Attribute o name apos) (e::es) [] cpos) (Mt X.K T r to t):=by
 intro p s j H Q I h;refine wpAny_Call_method_late d g f Z$ aV (n p s j H _ I h) λv w z=>?_;let⟨x,y,k,R,A,B⟩:=z;let⟨C,D⟩:=xN k R A;refine#[T,id,P,S,i,C,D,?_];let l:=q cpos p w j y _ k B;rw[u]at l ⊢;refine RD (by show(ξ||(fJ cpos$ Δ es X.env).any (·.1))=ξ;rw[c]<;>rfl)$ TH ?_;exact aV l λU E #[F,G,J,L,M]=>m p E j G x F v U Q J R L M
end
def F9(X:Cx)(id:String)(r:V->List V->Hp->VK->Prop):Prop:=
 ∀(p:List (η×hY)) (s:ι) (a:St) (H:Hp) (x:V) (b:List V) (v:ζ) (u:List ζ) (Q:VK),au X p a H s->aG x v->aD b u->r x b H Q->
  π (χ X.prog X.w) X.A (call (.builtin id) (v::u)) (EP X p a Q) X.xe s
theorem aD.one:∀{x:V} {U:List ζ},aD [x] U->∃u,U=[u]/\aG x u
 |_,_,.cons r .nil=>#[_,Z,r]
theorem aD.zero:∀{u:List ζ},aD [] u->u=[]
 |_,.nil=>rfl
theorem aD.dropLast(h:aD x u):aD x.dropLast u.dropLast:=by
 induction h with
 |nil=>exact .nil
 |cons r t i=>
  cases t with
  |nil=>exact .nil
  |cons q T=>exact .cons r i
theorem aD.reverse(h:aD x u):aD x.reverse u.reverse:=by
 induction h with
 |nil=>exact .nil
 |cons r t i=>rw[Ri,Ri];exact aD.append i (.cons r .nil)
theorem YI{c:Type}(l:List c):l.eraseIdx (l.length - 1)=l.dropLast:=by
 induction l with
 |nil=>rfl
 |cons a r i=>
  cases r with
  |nil=>rfl
  |cons b r=>
   let e:(a::b::r).length - 1=((b::r).length - 1)+1:=by let h:(a::b::r).length=r.length+2:=rfl;let H:(b::r).length=r.length+1:=rfl;omega
   rw[e,List.eraseIdx_cons_succ,i];all_goals rfl
section
variable {X:Cx}{pins:List (η×hY)}{σ:St}{H:Hp}{s:ι}{l b:η}{xs ys zs:List V}
theorem au.lset{i its':List ζ}{f:Array ζ->Array ζ}{t':Nat}(I:au X pins σ H s)(h:H l=δ (.lst xs))
  (e:s.heap.get? l=δ { cls:=.type "list",data:=.seq i.toArray n }) (a:f i.toArray=its'.toArray) (c:aD ys its') (d:ys.length<=τ):
  au X pins σ (af H l$ .lst ys) { s with heap:=s.heap.update l (ab f),toks:=t' }:=by
 let q:=PySem.IsL.update e f;rw[a]at q;refine I.write (x:=l) (e:=l) (by rw[h];exact trivial) (.inl Z) (λB u g j=>(Nj s.heap (ab f)$ NA g).trans j) #[_,q] ?_;exact#[d,its',_,c,q]
theorem au.lnew{t':Nat}(I:au X pins σ H s)(h:aD ys i)(a:ys.length<=τ):
  au X pins σ (af H s.heap.objs.size$ .lst ys) { s with heap:=s.heap.push { cls:=.type "list",data:=.seq i.toArray },toks:=t' }:=
 I.laid (λ_ _ q=>MW _ q) (M0 _) #[a,i,0,h,M3 _ Z]
theorem au.fresh(I:au X pins σ H s):H s.heap.objs.size=θ:=I.hok.fresh (M0 _)
theorem au.lstM(I:au X pins σ H s)(h:H l=δ (.lst xs)):xs.length<=τ/\∃(i:List ζ) (n:Nat),aD xs i/\xs.length=i.length/\s.heap.get? l=δ { cls:=.type "list",data:=.seq i.toArray n }:=by let⟨z,i,n,r,e⟩:=I.hok l _ h;exact#[z,i,n,r,r.length,e]
theorem gD(h:n<=τ):fR n=ξ:=by unfold fR;exact M5 VV
end
section
variable {X:Cx}
inductive o0(x:V)(a:List V)(H:Hp)(Q:VK):Prop
 |mk(l b y:_)(_:x= .ref l)(_:a=[y])(_:H l=δ (.lst b))(_:b.length < τ)(_:Q .non (af H l (.lst (b++[y]))))
theorem jR:F9 X "list.append" o0:=by intro p s d H x V v U Q I R b h;let⟨l,f,y,rfl,rfl,a,g,q⟩:=h;cases R;let⟨u,rfl,c⟩:=b.one;let⟨z,i,n,r,j,e⟩:=I.lstM a;refine Su F.slot_list_append #[_,e,Z] F.entry_list_append (F.args_list_append_2 _ _) (PySem.list_append l i.toArray n u (by rw[M1];omega)) #[e,?_];refine#[.non,_,I.lset (its':=i++[u]) a e VW (r.append$ .cons c .nil) ?_,Z,q];rw[MZ,O5];omega
inductive pf(x:V)(a:List V)(H:Hp)(Q:VK):Prop
 |mk(l b c d:_)(_:x= .ref l)(_:a=[.ref b])(_:H l=δ (.lst c))(_:H b=δ (.lst d))(_:c.length+d.length<=τ)(_:Q .non (af H l (.lst (c++d))))
theorem zw:F9 X "list.extend" pf:=by
 intro p s t H x V v U Q I R g h;let⟨l,b,w,y,rfl,rfl,f,j,A,q⟩:=h;cases R;let⟨u,rfl,k⟩:=g.one;cases k;let⟨z,a,n,r,B,e⟩:=I.lstM f;let⟨C,i,N,m,o,E⟩:=I.lstM j;let d:a.toArray.size+i.toArray.size<=τ:=by rw[M1,M1];omega
 let c:¬(!a.toArray.isEmpty&&fR (a.toArray.size+i.toArray.size))=μ:=by rw[gD d,R0];exact M8
 refine Su UH #[_,e,Z] Uw (Uk _ _)
  (AutoSeq1.list_extend_list_list_0 l a.toArray n b i.toArray N c (by rw[M1];omega) VV) #[e,E,?_]
 refine#[.non,_,I.lset (its':=a++i) f e VW (r.append m) ?_,Z,q];rw[MZ];omega
inductive HM(x:V)(a:List V)(H:Hp)(Q:VK):Prop
 |mk(l b y:_)(_:x= .ref l)(_:a=[])(_:H l=δ (.lst b))(_:b[b.length - 1]?=δ y)(_:Q y (af H l (.lst b.dropLast)))
theorem Dw:F9 X "list.pop" HM:=by
 intro p s m H x V v U Q I R d h;let⟨l,o,y,rfl,rfl,c,f,q⟩:=h;cases R;let a:=d.zero;subst a;let⟨z,i,n,r,g,e⟩:=I.lstM c;let⟨u,j,k⟩:=r.get f;let b:i.toArray[i.toArray.size - 1]?=δ u:=by show i.toArray[i.length - 1]?=δ u;rw[<- Ow,<- g];exact j
 refine Su F.slot_list_pop #[_,e,Z] F.entry_list_pop (F.args_list_pop_1 _) (MeetsSeq.list_pop_last l i.toArray n u b (by rw[M1];omega)) #[e,?_];refine#[y,_,I.lset (its':=i.dropLast) c e ?_ r.dropLast ?_,k,q]
 .show i.toArray.eraseIdxIfInBounds (i.toArray.size - 1)=i.dropLast.toArray;rw[M1,List.eraseIdxIfInBounds_toArray,YI]
 .rw[List.length_dropLast];omega
inductive HJ(x y:V)(H:Hp)(Q:VK):Prop
 |mk(l b a c:_)(_:x= .ref l)(_:y= .ref b)(_:H l=δ (.lst a))(_:H b=δ (.lst c))(_:a.length+c.length<=τ)(_:∀p,H p=θ->Q (.ref p) (af H p (.lst (a++c))))
theorem qN:fh X (binaryOp .Add) HJ:=by
 intro p s m H x y v u Q I R c h;let⟨l,b,o,t,rfl,rfl,d,f,w,q⟩:=h;cases R;cases c;let⟨z,a,n,r,A,e⟩:=I.lstM d;let⟨B,i,N,g,j,E⟩:=I.lstM f;refine PySem.P.add_list e E ?_ (by rw[M1,M1];omega);let k:a.toArray++i.toArray=(a++i).toArray:=by simp
 rw[k];exact#[.ref _,_,I.lnew (t':=s.toks) (r.append g) (by rw[MZ];omega),Z,q _ I.fresh]
end
section
variable {prog:ψ}{w:bU}{A:cc}{E:ζ->ι->Prop}{s:ι}
theorem Z3(i I : List ζ)(a c : Nat) : i.toArray.extract 0 a ++ I.toArray ++ i.toArray.extract c i.toArray.size = (i.take a ++ I ++ i.drop c).toArray := by
  apply Array.toList_inj.mp;first
    | (simp
       exact Ou VW)
    | simp [Ou]
    | simp
theorem YJ{a c n:Nat}(hac:a<=c)(hc:c<=n):sliceBounds (δ (a:Int)) (δ (c:Int)) θ n=((a:Int),(c:Int),1):=by
 simp only[sliceBounds,Si];let h1:¬((a:Int) < 0):=by omega
 let h2:¬((c:Int) < 0):=by omega
 simp only[h1,h2,Oj,show(1:Int) > 0 by decide,P7];congr 1
 .omega
 .congr 1;omega
set_option maxRecDepth 100000 in
theorem K8{a c : Nat}{Q : Unit -> ι -> Prop}
    (e : s.heap.get? l = δ { cls := .type "list", data := .seq i n }) (y : s.heap.get? b = δ { cls := .type "list", data := .seq N I }) (q : l ≠ b)
    (C : s.heap.IsSliceOf p z B .none) (P : IsPart z (δ (a : Int))) (D : IsPart B (δ (c : Int))) (r : a <= c) (F : c <= i.size)
    (f : i.size + N.size <= τ) (h : Q () { s with heap := s.heap.update l (ab λX => X.extract 0 a ++ N ++ X.extract c X.size) }) :
    π (χ prog w) A (setItem (.ref l) (.ref p)$ .ref b) Q E s := by
  let t : s.heap.IsList l i := TF e;let G : s.heap.IsList b N := TF y;obtain ⟨os, d, u, g⟩ := id C;let k : s.TypeIs (.ref p) "slice" := #[os, d, u];let j : ¬ ((rawPart θ == rawInt 0) = μ) := M8;let H : fr (.ref l) (.ref b) = ξ := by unfold fr;exact beq_eq_false_iff_ne.mpr q
  let o : (max (a : Int) (c : Int)).toNat = c := by omega
  let v : ((λX : Array ζ => X.extract 0 a ++ N ++ X.extract c X.size) i).size <= τ + 1 := by simp only [Sf, Array.size_extract];omega
  unfold setItem;try with_reducible refine Np ?_
  first | refine MU (MX ?_) | skip
  refine MU$ SG t.typeIs VU ?_;refine MU (NE (name := Str.ofString "__setitem__") t.typeIs U4
    (NC U4 t.typeIs entry_list_setitem ?_$ args_list_setitem _ _ _))
  show π _ _ (qs (.ref p) >>= _) _ _ s;refine MU ?_;unfold qs;refine MU$ OF k slice_no_index ?_;simp only [TN, P7];refine MX ?_;show π _ _ (typeOf (.ref p) >>= _) _ _ s;refine MU$ OK k ?_;first
    | rw [Na VU]
    | refine RL VU ?_
  rw [listSliceParts_eq];refine MU$ MU$ Nw d g (x := .none) Z$ MU$ Tz .none ?_;rw [Na j];refine MU$ Nw d g (x := z) Z$ MU$ Tz P ?_;refine MU$ Nw d g (x := B) Z$ MU$ Tz D$ MX ?_;first
    | simp only [H, Nf, Oj]
    | refine RL H ?_
    | (dsimp only
       rw [Na (by rw [H]; exact M8)])
  refine MU (m := ra (.ref b) "must assign iterable to extended slice") ?_;unfold ra;refine MU$ OK G.typeIs ?_;first
    | refine VP VU ?_
    | rw [M7 VU]
    | simp only [Rc, U', P7]
  unfold Builtin.List.listItems;refine MU$ N6 y Z$ MX ?_;refine MU$ MU$ N6 e Z$ MX ?_;refine MU$ RG ((sliceIndices_raw (δ (a : Int)) (δ (c : Int)) θ i.size VW).trans$ Od (pure : Int × Int × Int -> Sem (Int × Int × Int))$ YJ r F) ?_;show π _ _ (if ((1 : Int) == 1) = μ then _ else _) _ _ s;rw [M7 VU];refine MU$ OV ?_;first
    | simp only [gD f, Nf, Oj]
    | refine RL (gD f) ?_
  first | refine MU (MX ?_) | skip
  show π _ _ (updateSeq l (λX => X.extract 0 ((a : Int)).toNat ++ N ++ X.extract (max (a : Int) (c : Int)).toNat X.size) >>= _) _ _ s;rw [o, NQ];refine MU$ R3 (hz := Ng (Pd _ _) f) (_hz' := v) e Z ?_;refine MU$ Uz ?_;first
    | exact MU (MX (MX #[.none, Z, MX h]))
    | exact MX #[.none, Z, MX h]
end
section
variable {X:Cx}
theorem Z4{Q:Unit->ι->Prop}(I:au X p o H s)
  (k:H l=δ (.lst x)) (q:H b=δ (.lst y)) (f:l≠b) (t:s.heap.IsSliceOf u v B .none) (R:aG (.int a) v) (D:aG (.int c) B) (m:0<=a) (g:a<=c) (J:c<=x.length)
  (K:x.length+y.length<=τ) (h:∀S,au X p o (af H l$ .lst$ x.take a.toNat++y++x.drop c.toNat) S->Q () S):
  π (χ X.prog X.w) X.A (setItem (.ref l) (.ref u)$ .ref b) Q X.xe s:=by
 let⟨T,rfl⟩:=R;let⟨L,rfl⟩:=D;let⟨z,d,n,r,M,e⟩:=I.lstM k;let⟨N,i,O,E,F,G⟩:=I.lstM q;let⟨j,rfl⟩:=Tu m;let⟨C,rfl⟩:=Tu (Int.le_trans m g);simp only[NQ]at h;refine K8 (a:=j) (c:=C) e G f t (.int _ _) (.int _ _) VV (by rw[M1];omega) (by rw[M1,M1];omega)$ h _ ?_;refine I.lset (its':=d.take j++i++d.drop C) (t':=s.toks) k e ?_ (aD.append (aD.append (r.take _) E)$ r.drop _) ?_
 .exact Z3 d i j C
 .rw[MZ,MZ,Nq,NN];omega
end
end _L
namespace Att
open PySem PySem.W PySem.Calls PyProof.Rows
theorem JX{P:Params}:∀(N:List Int) (v:List ζ),WellAll P h v (N.map WData.int)->IntsAre v N:=by
 intro N;induction N with
 |nil=>intro v w;rw[U7]at w;cases w;exact .nil
 |cons n N i=>
  intro v w;rw[Oe]at w;cases w with
  |cons a b=>cases a;exact .cons _ _$ i _ b
theorem Z5{l:OpenLaw}(k:l.most=δ n){P:Params}
  (H:l.row.toRowW.claim.pre args=μ) (g:WellAll P h v args):
  ∃a V N,v=[Θ a]/\args=[WData.list$ N.map WData.int]/\h.get? a=δ { cls:=.type "list",data:=.seq V.toArray }/\IntsAre V N/\N.length<=n:=by
 let i:WShape.hasAll [] args [.list .int]=μ:=(pre_splitW H).1;let j:l.pre.holds [] { args:=args }=μ:=(pre_splitW H).2;let⟨d,r,rfl,m,o⟩:=hasAllW_cons i;obtain rfl:=hasAllW_nil o;let⟨x,rfl,p⟩:=hasW_list m;let⟨N,rfl⟩:=items_int p;let b:N.length<=n:=by
  unfold OpenLaw.pre at j;let e:(WTm.not$ .lt (.lit$ .int (n:Int))$ .len$ .arg 0).holds [] { args:=[.list$ N.map .int] }=μ:=by let e:=(holds_andW j).1;rw[k]at e;exact e
  let f:=condW_of e (w_not$ w_lt w_lit$ w_len_list$ w_arg Z);rw[MY]at f;refine RC λq=>?_;let Q:(n:Int) < ((N.length:Nat):Int):=by omega
  first
   | (rw[M9 Q]at f;exact absurd f VU)
   | (simp at f;omega)
 cases g with
 |cons w W=>
  cases W;cases w with
  |list s c=>exact#[_,_,N,Z,Z,s,JX N _ c,b]
theorem Z6(l:OpenLaw)(args:List WData):l.row.toRowW.claim.post args (.bool μ) args=μ:=
 postW_of (r:=l.row.toRowW) (X:=(μ==μ))
  (show WShape.has [] (.bool μ) .bool=μ by first |rfl |decide |simp [WShape.has,WShape.arms,WShape.armsAll])
  (show(WTm.eq .res$ .lit$ .bool μ).value [] { args:=args,res:=δ (.bool μ),after:=args }=δ (.bool$ μ==μ) from w_eq_bool (w_res Z) w_lit) Z
theorem attach_call{l:OpenLaw}{y:bU->de->Prop}{d:DefRec}
  (x:l.most=δ n) (g:d.params.defaults=[])
  (call:∀(w:bU) (S s:ι) (m M:ρ->Option ζ) (F:η) (o:hY) (p C D:ζ) (a:η) (v:List ζ) (N:List Int),
   Ground q L [] z w S m M s.heap->y w s.heap->
   s.heap.get? F=δ o->o.data= .func (docDef d.name d.params d.body d.scope p C D)->s.heap.CodeRec C d.name->m d.name=↑F->
   s.heap.get? a=δ { cls:=.type "list",data:=.seq v.toArray }->IntsAre v N->N.length<=n->s.gens=(ε [])->
   kw (χ l.prog w) callerA (.call (.ref F) #[[.ref a],[]]) (λr e=>r= .ok (.ret$ .bool μ)/\OldK s.heap e.heap/\e.os=s.os/\AllBare e.gens) s):
  WalkO q L z y l.row.toRowW d [] (λf v=>PySem.call f v):=by
 intro w S s m M G Y F o p C D B kV E I i t j J A V W H u K k O;obtain rfl:B= .none:=Dflts.none t g;obtain rfl:kV= .none:=Dflts.noKw t;let⟨a,v,N,rfl,rfl,b,h,c⟩:=Z5 x H k;refine enter_call$ Pj (call w S s m M F o p C D a v N G Y E (fd_plain I) i j b h c J) λr e P=>?_;let⟨rfl,Q,R,T⟩:=P;exact#[.inl #[.bool μ,.bool μ,[],Z,λ_=>Z,.bool μ,Z6 l _,λ_=>#[dO,λ_ U=>(nomatch U)]],Q,R,T]
end Att
namespace _L
open PySem PySem.Spec PyProof.Rows
theorem Qy:∀{v:List ζ} {N:List Int},IntsAre v N->aD (N.map rz) v
 |_,_,.nil=>.nil
 |_,_,.cons n t h=>.cons #[t,Z] (Qy h)
def CG(H:Hp):Prop:=∀b,H b=θ∨∃o x,H b=δ (.frz o$ .lst x)
theorem uM{P:ψ}{K:γ}{S:ι}{i:List ζ}
  (Y:K.In S.heap) (l:S.heap.Ns Ω M) (c:S.heap.Ns builtinsNs mb) (Q:∀x:ρ,x≠"__name__"->mb x=bootBuiltins x) (p:S.heap.NoLimit) (hg:S.gens=(ε []))
  (J:S.heap.get? a=δ { cls:=.type "list",data:=.seq i.toArray }) (hi:IntsAre i O) (hl:O.length<=τ) (hr:bJ k callerA)
  (F:∀f:de,K.In f->f.Ns Ω M->ah P w K M f CX k fa fd [x] sp) (j:∀(s:ι) (u:ζ),BindsTo s fd #[[u],[]] [(x,u)])
  (R:∀H:Hp,CG H->aI K H a (O.map rz)->sp [.ref a] H (λv _=>v= .bl μ) λ_ _ _=>False)
  (T:∀H e g,CX [] H S (λ_ _ _=>False) e g->False):
  kw (χ P w) callerA (.call (.ref fa) #[[.ref a],[]]) (λr g=>r= .ok (.ret$ .bool μ)/\OldK S.heap g.heap/\g.os=S.os/\AllBare g.gens) S:=by
 let rv:=Qy hi;let L:=hi.length;let C:∀H:Hp,CG H->aI K H a (O.map rz)->fq P w H S.heap->(∀b,H b≠θ->b=a)->(H a≠θ->K.lookup a=θ)->
   kw (χ P w) callerA (.call (.ref fa) #[[.ref a],[]]) (λr g=>r= .ok (.ret$ .bool μ)/\OldK S.heap g.heap/\g.os=S.os/\AllBare g.gens) S:=by
  intro H hO hS t hA hK;let B:∀{b:η} {o:hY},S.heap.get? b=δ o->H b=θ->(lT S.heap H).get? b=δ o:=λe n=>uD e n;let U:∀{b:η} {o:hY} {E:Array DictEntry} {y:Nat},S.heap.get? b=δ o->o.data= .dict E y->H b=θ:=λ{b o E y} e d=>by
   cases q:H b with
   |none=>rfl
   |some u=>have W:b=a:=hA b (by rw[q];simp);subst W;rw[J]at e;cases e;let d':Data.seq i.toArray _=Data.dict E y:=d;cases d'
  let N:∀{b:η} {m:ρ->Option ζ},S.heap.Ns b m->(lT S.heap H).Ns b m:=λ{b m} #[o,E,y,e,d,r]=>#[o,E,y,B e$ U e d,d,r];let A:K.In (lT S.heap H):=λb o e=>B (Y b o e) (by
   cases q:H b with
   |none=>rfl
   |some u=>
    let W:b=a:=hA b (by rw[q];simp);subst W;rw[hK (by rw[q];simp)]at e;cases e)
  let hM:Mod K M (lT S.heap H):=#[A,N l,#[mb,N c,Q],let #[mc,h1,h2]:=p;#[mc,N h1,h2]];let e0:og P w K M (lT S.heap H) callerA [] S H:=#[Z,hM,λb o e=>Ab e,Sl$ ZV _ _,trivial,λb c=>absurd (show b∈([]:List η) from c) VW,t,.of_eq hg];refine Pj ((F _ A$ N l).run callerA [] S H #[[.ref a],[]] [.ref a] [.ref a] _ _ hr e0 (j S$ .ref a) (.cons Z .nil) (R H hO hS)) λr g h=>?_;cases r with
  |error e=>exact(T H e g h).elim
  |ok fl=>
   cases fl with
   |next=>exact False.elim h
   |brk=>exact False.elim h
   |cont=>exact False.elim h
   |ret u=>
    let⟨v,H',os,D,un,G,r',q⟩:=h;let q':v= .bl μ:=q;subst q';obtain rfl:u=ot μ:=r';refine#[Z,OldK.of_keep λb o e=>?_,os,D];cases q:H b with
    |none=>exact un.keep b o e q (by intro z;exact absurd (show b∈([]:List η) from z) VW) VW
    |some u=>
     rcases hO b with z | ⟨ob,xs,z⟩
     .rw[q]at z;cases z
     .let z2:=un.frzs b ob _ z;let⟨e1,_⟩:=t b _ z;let⟨e2,_⟩:=G b _ z2;rw[e]at e1;cases e1;exact e2
 cases X:K.lookup a with
 |some o=>have e:=Y a o X;rw[J]at e;cases e;refine C (λ_=>θ) (λ_=>.inl Z) (.inr #[_,i.toArray,_,X,Z,Z,Z,by rw[M1,L];exact hl,by simpa using rv]) (λb u z=>by let I:(θ:Option HO)=δ u:=z;cases I) (λb z=>absurd Z z) λz=>absurd Z z
 |none=>
  refine C (λb=>if b=a then δ (.frz { cls:=.type "list",data:=.seq i.toArray }$ .lst$ O.map rz) else θ) (λb=>?_) (.inl$ .inr #[{ cls:=.type "list",data:=.seq i.toArray },M7 Z]) (λb u z=>?_) (λb z=>?_) λ_=>X
  .by_cases c:b=a
   .exact .inr #[_,_,M7 c]
   .exact .inl$ Na c
  .by_cases c:b=a
   .let I:=(M7 c).symm.trans z;cases I;subst c;exact#[J,by rw[MY];exact hl,i,_,rv,J]
   .let I:=(Na c).symm.trans z;cases I
  .by_cases c:b=a
   .exact c
   .exact absurd (Na c) z
theorem Bq{l:rc}{n k:Nat}{E:bU->de->Prop}{d:DefRec}{K:Params->γ}{CX:bU->pY}{sp:bU->Sp}{x:ρ}
  (O:l.most=δ n) (r:n<=τ) (t:d.params.defaults=[]) (P:bJ k callerA)
  (Q:∀(w:bU) (h:de),E w h->(K w.params).In h)
  (F:∀(w:bU) (m:ρ->Option ζ) (p:η) (h:de),(K w.params).In h->h.Ns Ω m->m d.name=↑p->
   ∃y:hG,(∀(s:ι) (u:ζ),BindsTo s y #[[u],[]] [(x,u)])/\
    ∀B:de,(K w.params).In B->B.Ns Ω m->ah l.prog w (K w.params) m B (CX w) k p y [x] (sp w))
  (z:∀(w:bU) (H:Hp) (a:η) (N:List Int),N.length<=n->CG H->aI (K w.params) H a (N.map rz)->sp w [.ref a] H (λv _=>v= .bl μ) λ_ _ _=>False)
  (A:∀(w:bU) (H:Hp) (s:ι) (e:ζ) (C:ι),CX w [] H s (λ_ _ _=>False) e C->False):
  PySem.W.WalkO q L XP E l.row.toRowW d [] (λf I=>PySem.call f I):=by
 refine Att.attach_call O t λw J S m mb p o pm cd R a I N G Y ho hd U D j i c X=>?_;let M:=Q w _ Y;let⟨y,hb,hF⟩:=F w m p _ M G.T.g D;exact uM M G.T.g G.T.b G.T.builtins G.T.nolimit X j i (Ng c r) P hF hb (λH hO hS=>z w H a N c hO hS) λH e C=>A w H S e C
noncomputable def bp(s:cv)(j:Nat):cv:=match s with
 | .ClassDef _ _ _ b _ _ _ _ _ _ _=>b.getD j (.Pass #[0,0,0,0])
 |_=>.Pass #[0,0,0,0]
noncomputable def bX(s:cv):Arguments:=match s with
 | .FunctionDef _ a _ _ _ _ _ _ _ _=>a
 |_=>{ posonlyargs:=[],args:=[],vararg:=θ,kwonlyargs:=[],kw_defaults:=[],kwarg:=θ,defaults:=[] }
noncomputable def bo(s:cv):List cv:=match s with
 | .FunctionDef _ _ b _ _ _ _ _ _ _=>b
 |_=>[]
noncomputable def ae(s:cv):ir:=match s with
 | .FunctionDef _ _ _ _ _ _ S _ _ _=>S
 |_=>{ kind:=.function,names:=[],isGenerator:=ξ,isCoroutine:=ξ }
abbrev aE:pY:=λ_ _ _ _ _ _=>False
abbrev E0:XK:=λ_ _ _=>False
theorem a8{X:Cx}:dw aE X E0:=λ_ _ _ _ _ _ _ h=>h.elim
structure aQ(K:γ)(x qual:ρ)(st:cv)(f:η)(fd:hG):Prop where
 ex:∃(oc:ζ) (od:Option η) (kV doc pm:ζ) (an:Option η) (cdv ct:ζ) (osl:Array (Option ζ)),
  fd=rs x qual (bX st) (bo st) (ae st) .none kV doc pm an cdv ct/\K.lookup f=δ #[oc,od,.func fd,osl]/\codeIn K cdv qual=μ
 kp:iv K (.ref f)=μ
section
variable {P:ψ}{w:bU}{K:γ}{mg:ρ->Option ζ}{base:de}
abbrev tf(K:γ)(x:ρ):=aQ K x x
theorem aQ.ok{st:cv}{d:Sp}(F:aQ K x a st f i)(S:ai N p (ae st))
  (b:∀(c:ζ) (A:cc) (o:List Env) (s:ι) (H:Hp) (v:List V) (Q:VK) (E:XK),bJ k (A.deeper$ envOfC a (ae st) s.heap.objs.size f c)->d v H Q E->
   ∃t,mY (gu aE P w K mg base N a (ae st) f c A o s H E).nox (bo st) t/\t { nx:=λ_ j=>Q .non j,rt:=Q } (gO N v) H)(len:∀v H Q E,d v H Q E->v.length=p.length:=by rintro _ _ _ _⟨⟩;subst_vars;rfl):ah P w K mg base aE (k+1) f i p d:=by
 let⟨m,n,kV,D,r,u,c,C,O,rfl,lk,e⟩:=F.ex;refine BS lk e S len λA o s H v Q E l g=>?_;let⟨t,h,q⟩:=b c A o s H v Q E l g;exact#[t,h.nox,q]
theorem aQ.binds{st:cv}{p:List ρ}(F:aQ K x q st f b)
  (h:∀(kV d a:ζ) (A:Option η) (c C:ζ) (u:List ζ),u.length=p.length->bindArgs (rs x q (bX st) (bo st) (ae st) .none kV d a A c C) #[u,[]]=pure (p.zip u)):aC K b p []:=by
 let⟨O,e,kV,d,a,A,c,C,o,rfl,lk,H⟩:=F.ex;exact .all$ h kV d a A c C
theorem uA{st:cv}{kV:ζ}(l:K.lookup f=δ #[O,e,.func$ rs x q (bX st) (bo st) (ae st) .none kV d p a C b,o])
  (c:codeIn K C q=μ) (k:iv K (.ref f)=μ):aQ K x q st f (rs x q (bX st) (bo st) (ae st) .none kV d p a C b):=#[#[O,e,kV,d,p,a,C,b,o,Z,l,c],k]
end
theorem zI(h:bJ k A):A.units+1 < cLine:=Ol (Nat.add_le_add_left (by decide:1<=64) _) h.units
section
variable {X:Cx}
theorem pv(i:Nat){x:ρ}{p:Pos}(H:X.N[i]?=δ x:=by rfl)(a:IM X.env.scope x:=by first |exact ω Z |exact ge (ω Z) |exact ge$ ge Z)(b:(x==("__debug__":ρ))=ξ:=by decide)
  (h:(x==("__classdict__":ρ))=ξ:=by decide):PE X (.Name x p) (bK i):=Et H a b h
end
theorem lU{A B:Prop}(h:B):if ξ=μ then A else B:=by rw[Na M8];exact h
theorem i8{A B:Prop}(h:A):if μ=μ then A else B:=by rw[M7 Z];exact h
theorem bZ{c A B:Prop}[Decidable c](H:c->A)(a:¬c->B):if c then A else B:=by
 by_cases h:c
 .rw[M7 h];exact H h
 .rw[Na h];exact a h
def aa(H h:Hp):Prop:=∀b o,H b=δ o->h b=δ o
theorem aa.refl(H:Hp):aa H H:=λ_ _ h=>h
theorem aa.trans(a:aa H d)(b:aa d e):aa H e:=λc o h=>b c o (a c o h)
theorem aa.free(e:aa H a)(h:a l=Option.none):H l=Option.none:=by
 cases q:H l with
 |none=>rfl
 |some o=>rw[e l o q]at h;cases h
theorem aa.seq{K:γ}(e:aa H b)(h:aI K H a x):aI K b a x:=by
 rcases h with (h | ⟨o,h⟩) |h
 .exact .inl$ .inl$ e _ _ h
 .exact .inl$ .inr #[o,e _ _ h]
 .exact .inr h
section
variable {prog:ψ}{w:bU}{A:cc}{R:Result->ι->Prop}{s:ι}
abbrev BD:ζ->ι->Prop:=λ_ _=>False
theorem Z7{iter:dr}(I:Nat->ι->Prop)
  (T:∀n s,I n s->π (χ prog w) A (pyNext B) (λr S=>match r with
   |none=>R (.ok .next) S
   |some v=>π (χ prog w) A (letOwnedTupleGo t B v) (λ_ b=>π (χ prog w) A (assign t e v) (λ_ d=>
     π (χ prog w) A (forIn l μ λc r=>if r=μ then do let o <- isTrue c e (eval c e);pure (ForInStep.yield o) else pure (ForInStep.yield r)) (λo a=>
      if o=μ then π (χ prog w) A (eval E e) (λx g=>
       π (χ prog w) A (call (.builtin "list.append") [p,x]) (λ_ i=>∃m,m < n/\I m i) BD g) BD a
      else ∃m,m < n/\I m a) BD d) BD b) BD S) BD s)
  (n:Nat) (h:I n s):
  kw (χ prog w) A (.compLoop (.ListComp E [#[t,iter,l,0]] k C) 0 B p e) R s:=by
 refine codeAny_loop Z I (λn s D=>?_) n h;show π _ A ((compTurn (.ListComp E [#[t,iter,l,0]] k C) 0 B p e).onRaise (λx=>do noteFrame x e;theTreesLotGoes x)) _ _ s;refine wpAny_noted ?_;rw[compTurn_list];refine MU$ Pr$ MU$ N7 (T n s D) (λr S H=>?_) λ_ _ f=>f.elim;cases r with
 |none=>exact MX H
 |some v=>
  refine MU$ N7 H (λ_ b q=>?_) λ_ _ f=>f.elim;refine MU$ N7 q (λ_ d u=>MU (N7 u (λo a j=>?_) λ_ _ f=>f.elim)) λ_ _ f=>f.elim;cases o with
  |false=>exact MX #[Z,j]
  |true=>exact MU$ MU$ N7 j (λx g y=>MU (N7 y (λ_ i z=>MX (MX #[Z,z])) λ_ _ f=>f.elim)) λ_ _ f=>f.elim
end
noncomputable def bf(X:Cx)(s:ir)(M:List ρ)(c:List (ρ×η))(C:η)(f:List η)(S:ι)(H:Hp):Cx where
 prog:=X.prog
 w:=X.w
 K:=X.K
 mg:=X.mg
 base:=X.base
 A:=X.A
 N:=M
 s₀:=S
 H₀:=H
 env:=compEnvC s c C X.env
 outer:=X.stack
 stack:=X.stack
 ex:=f
 fn:=λ_=>ξ
 calm:=X.calm
 pn:=[]
 xe:=λ_ _=>False
noncomputable def FN(n:Nat)(I:List Nat)(a:St):St:=kz n θ++I.map λi=>(a[i]?).getD θ
structure be(N:List ρ)(sc scope:ir)(M:List ρ)(nT:Nat)(ix:List Nat):Prop where
 cell:∀y∈scope.names,y.2≠ .cell
 kind:scope.kind= .function
 loc:∀y∈scope.names,y.2= .local->scope.names.lookup y.1=δ .local
 fre:∀y∈scope.names,y.2= .free->sc.names.lookup y.1=δ .cell
 nms:M.drop nT=ix.map λi=>N.getD i Str.empty
 len:M.length=nT+ix.length
 vis:∀i∈ix,scope.names.lookup (N.getD i Str.empty)=δ .free
theorem Jt{E:Env}(c:E.scope.kind= .function):∀{N:List (ρ×NameKind)} {y:ρ},N.lookup y=δ .free->E.kindOf y=δ .cell->
  (N.map λ(n,k)=>if (k==NameKind.free&&E.scope.kind== .function&&E.kindOf n==δ .cell) then (n,NameKind.cell) else (n,k)).lookup y=δ .cell
 | [],_,h,_=>by simp at h
 | (n,k)::r,y,h,b=>by
  let i:=@Jt E c r y;show ic y ((if (k==NameKind.free&&E.scope.kind== .function&&E.kindOf n==δ .cell)=μ then (n,NameKind.cell) else (n,k))::_)=_;cases H:y==n with
  |true=>
   simp only[N9,H]at h;cases h;let e:y=n:=by simpa using H
   subst e;rw[M7 (by rw[c,b];rfl)];simp [N9]
  |false=>
   simp only[N9,H]at h;by_cases a:(k==NameKind.free&&E.scope.kind== .function&&E.kindOf n==δ .cell)=μ
   .rw[M7 a];simp only[N9,H];exact i h b
   .rw[Na a];simp only[N9,H];exact i h b
theorem KH{E:Env}:∀{N:List (ρ×NameKind)} {y:ρ} {K:NameKind},
  (N.map λ(n,k)=>if (k==NameKind.free&&E.scope.kind== .function&&E.kindOf n==δ .cell) then (n,NameKind.cell) else (n,k)).lookup y=δ K->
  ∃k,N.lookup y=δ k/\(K=k∨k= .free)
 | [],_,_,h=>by simp at h
 | (n,k)::r,y,K,h=>by
  let i:=@KH E r y K;let h:ic y ((if (k==NameKind.free&&E.scope.kind== .function&&E.kindOf n==δ .cell)=μ then (n,NameKind.cell) else (n,k))::_)=δ K:=h;cases a:y==n with
  |true=>
   refine#[k,by simp only[N9,a],?_];by_cases H:(k==NameKind.free&&E.scope.kind== .function&&E.kindOf n==δ .cell)=μ
   .right;simp only[Of]at H;simpa using H.1.1
   .rw[Na H]at h;simp only[N9,a]at h;left;exact(NH h).symm
  |false=>
   let b:ic y (r.map λ(n,k)=>if (k==NameKind.free&&E.scope.kind== .function&&E.kindOf n==δ .cell) then (n,NameKind.cell) else (n,k))=δ K:=by
    by_cases H:(k==NameKind.free&&E.scope.kind== .function&&E.kindOf n==δ .cell)=μ
    .rw[M7 H]at h;simp only[N9,a]at h;exact h
    .rw[Na H]at h;simp only[N9,a]at h;exact h
   let⟨c,e,q⟩:=i b;exact#[c,by simp only[N9,a];exact e,q]
noncomputable def aY(e:Env):List (ρ×NameKind)->List (ρ×η)->List (ρ×η)
 | [],a=>a
 | (n,k)::r,a=>if k== .free then aY e r ((n,(e.cells.lookup n).getD 0)::a) else aY e r a
theorem qg{E:Env}:∀{N:List (ρ×NameKind)} {acc:List (ρ×η)},(∀y∈N,y.2= .free->∃c,E.cells.lookup y.1=δ c)->(∀x c,acc.lookup x=δ c->E.cells.lookup x=δ c)->
  ∀x c,(aY E N acc).lookup x=δ c->E.cells.lookup x=δ c
 | [],_,_,b,x,c,h=>b x c h
 | (n,k)::r,acc,f,b,x,c,h=>by
  unfold aY at h;by_cases g:(k==NameKind.free)=μ
  .rw[M7 g]at h;refine qg (λy H=>f y (Nv _ H)) (λX j a=>?_) x c h;let⟨C,d⟩:=f (n,k) No (by simpa using g);let d:E.cells.lookup n=δ C:=d;simp only[N9]at a;cases i:X==n with
   |true=>
    rw[i]at a;let e:X=n:=by simpa using i
    subst e;rw[d]at a;rw[d];exact a
   |false=>rw[i]at a;exact b _ _ a
  .rw[Na g]at h;exact qg (λy H=>f y (Nv _ H)) b x c h
theorem qB:∀{a:List (ρ×η)},(∃c,(x,c)∈a)->∃c,a.lookup x=δ c
 | [],h=>by let⟨_,h⟩:=h;cases h
 | (n,c)::r,h=>by
  simp only[N9];cases H:x==n with
  |true=>exact#[c,Z]
  |false=>
   let⟨C,h⟩:=h;rcases Φ.mp h with e |h
   .injection e with E _;subst E;simp at H
   .exact qB #[C,h]
theorem qS:∀{N:List (ρ×NameKind)} {a:List (ρ×η)},((∃c,(x,c)∈a)∨(x,NameKind.free)∈N)->∃c,(x,c)∈aY E N a
 | [],_,h=>by
  rcases h with h |h
  .exact h
  .cases h
 | (n,k)::r,a,h=>by
  unfold aY;by_cases H:(k==NameKind.free)=μ
  .rw[M7 H];refine qS ?_;rcases h with ⟨c,h⟩ |h
   .exact .inl #[c,Nv _ h]
   .rcases Φ.mp h with e |h
    .injection e with b _;subst b;exact .inl #[_,No]
    .exact .inr h
  .rw[Na H];refine qS ?_;rcases h with h |h
   .exact .inl h
   .rcases Φ.mp h with e |h
    .injection e with _ d;subst d;exact absurd Z H
    .exact .inr h
theorem qF{e:Env}:∀(N:List (ρ×NameKind)) (A:List (ρ×η)),(∀y∈N,y.2= .free->∃c,e.cells.lookup y.1=δ c)->
  (forIn N A (λx r=>match x with | (name,K)=>if (K==NameKind.free)=μ then (do let a <- cellOf e name;pure (ForInStep.yield ((name,a)::r))) else pure (ForInStep.yield r)):Sem (List$ ρ×η))=pure (aY e N A)
 | [],A,_=>rfl
 | (n,k)::r,A,b=>by
  let i:=λA=>qF r A λy H=>b y (Nv _ H);rw[O2];unfold aY;by_cases h:(k==NameKind.free)=μ
  .let⟨C,E⟩:=b (n,k) No (by simpa using h);let E:e.cells.lookup n=δ C:=E;let d:cellOf e n=pure C:=by unfold cellOf;rw[E]
   rw[M7 h];simp only[h,P7,d,E];exact i _
  .rw[Na h];simp only[h];exact i _
theorem qG{e:Env}{S:ir}(H:∀y∈S.names,y.2= .free->∃c,e.cells.lookup y.1=δ c):closureFor S e=pure (aY e S.names []):=by let h:=qF S.names [] H;exact Od (λt:Sem (List$ ρ×η)=>t >>= λs=>pure s) h
section
variable {X:Cx}{pins:List (η×hY)}{σ:St}{H:Hp}{s:ι}
theorem Jj(I:au X pins σ H s)(S:be X.N X.env.scope a M n i):∀y∈a.names,y.2= .free->∃c,X.env.cells.lookup y.1=δ c:=
 λy h e=>I.ok.has y.1 (.inl$ S.fre y h e)
theorem tL{g:de}(I:au X pins σ H s)(F:∀b∈Y,gr X pins H b)(P:∀b∈Y,b < s.heap.objs.size)
  (S:be X.N X.env.scope a M n G) (Q:s.heap.objs.size<=C) (O:∀b o,s.heap.get? b=δ o->g.get? b=δ o) (R:g.Ns C m):
  au (bf X a M (aY X.env a.names []) C Y s H) [] (FN n G σ) H { s with heap:=g,toks:=tk }:=by
 let sub:∀x c,(aY X.env a.names []).lookup x=δ c->X.env.cells.lookup x=δ c:=qg (Jj I S) (λx c h=>by simp at h);let j:∀x,a.names.lookup x=δ .free->∃c,(aY X.env a.names []).lookup x=δ c:=λx e=>qB (qS$ .inr$ Ot e);let hex:∀x K,(relabel a X.env).names.lookup x=δ K->(K= .cell∨K= .free)->a.names.lookup x=δ .free:=λx K e A=>by
  let⟨k,t,q⟩:=KH e;rcases q with q |q
  .rcases A with z |z
   .exact absurd (q.symm.trans z)$ S.cell (x,k)$ Ot t
   .rw[t,<- q,z]
  .rw[t,q]
 refine#[#[I.ok.mod,S.kind,I.ok.glob,I.ok.blt,Q,λx y c h1 h2=>I.ok.inj x y c (sub x c h1) (sub y c h2),λx hx=>?_,λx c hx=>?_,I.ok.hd,I.ok.frames,.inl Z,λb w=>#[λz=>?_,λx c e=>?_],I.bs,Ng I.ok.bsz I.sz,λb o e w=>?_,λb w hz=>?_,I.stack,I.stkFree],
  rfl,I.bare,Un.kept O,#[m,R,λk y v t E _=>?_],λx c e=>?_,I.hok.fresh Q,λx c e=>I.freeC x c (sub x c e),λp hp=>absurd (show p∈([]:List (η×hY)) from hp) VW,I.hok.kept O,?_]
 .rcases hx with hx |hx
  .exact j x$ hex x _ hx$ .inl Z
  .exact j x$ hex x _ hx$ .inr Z
 .exact absurd (show ξ=μ from hx) VU
 .let z':b=C:=z;let:=P b w;rw[z']at this;exact absurd this$ Nat.not_lt.mpr Q
 .exact(F b w).2.2.2.2.1 x c (sub x c e)
 .rcases(F b w).2.2.2.1 with z |z
  .exact I.ok.noex b o e z
  .exact absurd (Nh (M4 e)$ Ng I.ok.bsz z)$ N4 _
 .rcases Φ.mp (I.stkSub b hz) with z |z
  .exact(F b w).2.1 z
  .exact(F b w).2.2.1 z
 .let E:(FN n G σ)[k]?=δ (δ v):=E;let t:M[k]?=δ y:=t;unfold FN at E;by_cases A:k < n
  .rw[ON (by simpa using A),Ts]at E;simp [A]at E
  .let B:n<=k:=RC A;rw[OJ (by simpa using B),RS,Ni]at E;cases J:G[k - n]? with
   |none=>rw[J]at E;cases E
   |some i=>
    rw[J]at E;let L:(σ[i]?).getD θ=δ v:=NH E;let V:σ[i]?=δ (δ v):=by
     cases W:σ[i]? with
     |none=>rw[W]at L;cases L
     |some o=>rw[W]at L;exact Od δ L
    let hi:i < X.N.length:=by rw[<- I.len];exact(ν.mp V).1
    let e7:y=X.N.getD i Str.empty:=by
     let q:(M.drop n)[k - n]?=δ y:=by rw[P'];rw[T4 B];exact t
     rw[S.nms,Ni,J]at q;exact(NH q).symm
    let e8:X.N[i]?=δ y:=by rw[e7,MV hi,NZ,MV hi];rfl
    let d:a.names.lookup y=δ .free:=by rw[e7];exact S.vis i$ Nc J
    let f:X.env.scope.names.lookup y=δ .cell:=S.fre (y,.free) (Ot d) Z;let⟨m',_,hl⟩:=I.loc;let⟨u,r,l⟩:=hl i y v e8 V (.inr$ .inl f);refine#[u,r,?_];rcases l with ⟨l,_⟩ | ⟨_,c,ec,o,T,U⟩
    .let l:X.env.scope.names.lookup y=δ .local:=l;rw[f]at l;cases l
    .let⟨c',D⟩:=j y d;let q:=sub y c' D;rw[ec]at q;cases q;exact .inr #[.inl$ Jt I.ok.kind d f,c,D,o,O _ _ T,U]
 .let⟨v,o,T,U⟩:=I.cell x c (sub x c e);exact#[v,o,O _ _ T,U]
 .show(FN n G σ).length=M.length;rw[S.len];simp [FN]
theorem au.track(I:au X pins σ H s)(f:gr X pins H D)(G:X.s₀.heap.objs.size<=D)(a:aN X.prog X.w (af H D o) s.heap D o):au X pins σ (af H D o) s:=by
 let n:=f.1;let N:∀b u,H b=δ u->b≠D:=λb u e=>ji e n;refine#[I.ok,I.os,I.bare,#[I.base.keep,I.base.slot,λb O e q i=>?_,I.base.there,λb d e=>?_,λb O u e=>?_,λb P e=>?_],I.loc,I.cell,?_,λx c e=>?_,λp h=>?_,λb u e=>?_,I.len]
 .rw[jh$ Nb$ Nh (M4 e) G];exact I.base.free b O e q i
 .let q:=I.base.tups b d e;rw[jh$ N _ _ q];exact q
 .let q:=I.base.frzs b O u e;rw[jh$ N _ _ q];exact q
 .let⟨m,q⟩:=I.base.tbls b P e;exact#[m,by rw[jh$ N _ _ q];exact q]
 .rw[jh$ NA f.2.1];exact I.free
 .rw[jh$ f.2.2.2.2.1 x c e];exact I.freeC x c e
 .let⟨e,q,r⟩:=I.pin p h;exact#[e,by rw[jh$ f.2.2.2.2.2 p h];exact q,r]
 .by_cases g:b=D
  .subst g;rw[jb]at e;cases e;exact a
  .rw[jh g]at e;exact(I.hok b u e).stay (λ_ _ _ q=>q) (λc q=>by rw[jh$ N _ _ q];exact q) λc d q=>by rw[jh$ N _ _ q];exact q
noncomputable abbrev lg(u:List ζ):hY:={ cls:=.type "list",data:=.seq u.toArray u.length }
theorem Z8(u:List ζ)(y:ζ):({ cls:=.type "list",data:=.seq (u.toArray.push y) (u.length+1) }:hY)=lg (u++[y]):=by show({ cls:=.type "list",data:=.seq (u.toArray.push y) (u.length+1) }:hY)={ cls:=.type "list",data:=.seq (u++[y]).toArray (u++[y]).length };rw[MZ,O5,List.push_toArray]
def PF(X:Cx)(i:List dr)(t:TT):Prop:=
 ∀(pins:List (η×hY)) (s:ι) (σ:St) (H:Hp) (Q:Bool->Hp->Prop),au X pins σ H s->t σ H Q->
  π (χ X.prog X.w) X.A (forIn i μ λc r=>if r=μ then do let o <- isTrue c X.env (eval c X.env);pure (ForInStep.yield o) else pure (ForInStep.yield r)) (TP X pins σ Q) X.xe s
def mN:TT:=λ_ H Q=>Q μ H
theorem zZ:PF X [] mN:=λ_ _ _ H _ I h=>wpAny_tests_nil #[H,I,h]
theorem JC{c:dr}{t:TT}(h:PT X c t):PF X [c] t:=λpins s σ H Q I q=>wpAny_tests_one (h pins s σ H Q I q)
noncomputable def pk(I:List Nat)(σ:St):St:=I.map λi=>(σ[i]?).getD θ
def eJ(J:It)(n:Nat)(t:St)(g:TG)(j:TT)(k:TE)(Q:List V->Hp->Prop)(H:Hp):Prop:=
 ∃W:Nat->Nat->List V->Hp->Prop,(∃m,W 0 m [] H)/\∀i m Y H,W i m Y H->
  (J.stop i H/\Q Y H)∨(J.go i H/\Y.length < τ/\∃N:List V->Hp->Prop,(∀c h,N c h->∃M,M < m/\W (i+1) M c h)/\
   ∀x d (e:St),e.length=n->J.yld i H x d->g x (e++t) d λa h=>(∃T:St,T.length=n/\a=T++t)/\j a h λb f=>if b=μ then k a f λy l=>N (Y++[y]) l else N Y f)
theorem KI{iter:dr}
  {RR:ζ->η->Result->ι->Prop} 
  (I:au X pins σ H s) (hc:X.calm=μ) (T:om X.prog X.w X.K tg J k it tn) (st:tn 0 s.heap) (hf:∀b∈k,gr X pins H b) (S:be X.N X.env.scope scope M nT ix)
  (hg:∀cl C k s H,PG (bf X scope M cl C k s H) tg g) (hi:∀cl C k s H,PF (bf X scope M cl C k s H) i0 tt) (he:∀cl C k s H,PE (bf X scope M cl C k s H) e0 te)
  (h:eJ J nT (pk ix σ) g tt te Qf H)
  (h':∀D C Y m t G,(∀b o u,H b=δ (.frz o u)->t b=δ (.frz o u))->t D=θ->au X pins σ (af t D$ .lst Y) G->gr X pins (af t D$ .lst Y) C->G.heap.Ns C m->Qf Y t->RR (.ref D) C (.ok .next) G):
  π (χ X.prog X.w) X.A (newList []) (λacc B=>π (χ X.prog X.w) X.A (newFunctionEnv scope X.env.globals (aY X.env scope.names []) [] X.env.qual θ .none$ δ X.env) (λc0 s0=>
   kw (χ X.prog X.w) X.A (.compStart (.ListComp e0 [#[tg,iter,i0,0]] scope p1) 0 (.ref it) acc { c0 with scope:=relabel scope X.env }) (RR acc c0.locals) s0) E B) E s:=by
 obtain⟨W,⟨m0,w0⟩,t1⟩:=h;let h3:∀b∈k,b < s.heap.objs.size:=λb a=>by let⟨o,e,_⟩:=T.obj 0 _ st b a;exact M4 e
 refine NF$ wpAny_newFunctionEnv S.cell (by intro y hy;simp at hy) (λF l f=>?_) S.kind;dsimp only at l f ⊢;generalize h4:s.heap.push { cls:=.type "list",dict:=θ,data:=.seq ([]:List ζ).toArray }=H2 at l f ⊢;let hC:H2.objs.size=s.heap.objs.size+1:=by rw[<- h4,NP]
 let P:s.heap.objs.size≠H2.objs.size:=by rw[hC];exact Nb$ Oy _
 let h0:s.heap.objs.size<=H2.objs.size:=by rw[hC];exact NW _
 let b0:∀b,b < s.heap.objs.size->b≠H2.objs.size/\b≠s.heap.objs.size:=λb a=>#[by rw[hC];exact Nb$ OS a,Nb a];let o1:∀b o,s.heap.get? b=δ o->F.get? b=δ o:=λb o e=>f.extBut b o (b0 b$ M4 e).1 (MW _$ h4▸MW _ e);let h5:F.get? s.heap.objs.size=δ (lg []):=f.extBut _ _ P (MW _$ h4▸M3 _ Z);let a0:H s.heap.objs.size=θ:=I.hok.fresh (M0 _);let h6:s.heap.objs.size∉lF X.stack:=λa=>(Φ.mp$ I.stkSub _ a).elim (λe=>absurd I.lt (by rw[<- e];exact N4 _)) (I.nofs$ M0 _);generalize hD:s.heap.objs.size=D at*;generalize b1:H2.objs.size=C at*;let J0:∀tk,au (bf X scope M (aY X.env scope.names []) C k s H) [] (FN nT ix σ) H { s with heap:=F,toks:=tk }:=λtk=>tL I hf (by rw[hD];exact h3) S (by rw[hD];exact h0) o1 l;let c1:∀x c,(aY X.env scope.names []).lookup x=δ c->c≠D:=λx c e z=>by let sub:=qg (Jj I S) (acc:=[]) (λx c h=>by simp at h) x c e;let⟨v,o,ho,_⟩:=I.cell x c sub;let:=M4 ho;rw[z,hD]at this;exact N4 _ this
 let p0:∀{σ0:St} {t:Hp} {G:ι} {U:List ζ},au (bf X scope M (aY X.env scope.names []) C k s H) [] σ0 t G->G.heap.get? D=δ (lg U)->t D=θ->
   au (bf X scope M (aY X.env scope.names []) C k s H) [(D,lg U)] σ0 t G:=λ{σ0 t G U} I' e n=>I'.pins_of λp hp=>by
  let ep:p=(D,lg U):=by simpa using hp
  subst ep;exact#[e,n,P,h6,λv z=>by cases z]
 let L:∀{t:Hp} {U:List ζ},(∀b∈k,t b=θ)->∀b∈k,gr (bf X scope M (aY X.env scope.names []) C k s H) [(D,lg U)] t b:=λ{t U} hn b a=>
  #[hn b a,((J0 0).ok.exf b a).1,(J0 0).ok.exfs b a,.inl a,((J0 0).ok.exf b a).2,λp hp z=>by
   let ep:p=(D,lg U):=by simpa [bf] using hp
   rw[ep]at z;let:=h3 b a;rw[<- z]at this;exact N4 _ this]
 let l0:∀B:ι,(∃tk,B={ s with heap:=F,toks:=tk })->
   kw (χ X.prog X.w) X.A (.compLoop (.ListComp e0 [#[tg,iter,i0,0]] scope p1) 0 (.ref it) (.ref D)$ compEnvC scope (aY X.env scope.names []) C X.env) (RR (.ref D) C) B:=by
  rintro B ⟨tk,rfl⟩;refine Z7 (λn G=>∃i Y U ts t,ts.length=nT/\au (bf X scope M (aY X.env scope.names []) C k s H) [(D,lg U)] (ts++pk ix σ) t G/\aD Y U/\Y.length<=τ/\tn i G.heap/\(∀b∈k,t b=θ)/\W i n Y t) ?_ m0
   #[0,[],[],kz nT θ,H,RS,p0 (J0 tk) h5 a0,.nil,M6 _,T.keep _ _ _ st λb a o e=>o1 b o e,λb a=>(hf b a).1,w0]
  rintro n s1 ⟨i,Y,U,ts,Q,a1,I1,rv,hz,s7,f0,w1⟩;rcases t1 i n Y Q w1 with ⟨stop,q⟩ | ⟨go,a2,N,hN,step⟩
  .refine aV (T.done (bf X scope M (aY X.env scope.names []) C k s H) Z Z Z hc i _ s1 _ Q BD I1 (L f0) s7 stop) λr s2 j=>?_;let⟨hr,I2⟩:=j;subst hr;let IO:au X pins σ Q s2:=I.call' (ch:=k) I2.os I2.base I2.hok I2.bare λb a=>#[(hf b a).2.2.2.1,(hf b a).2.1,(hf b a).2.2.2.2.1,(hf b a).2.2.2.2.2];let pD:=I2.pin (D,lg U) (by simp [bf]);let h8:Q D=θ:=pD.2.1;let fD:gr X pins Q D:=by rw[<- hD];exact I.fpOk (M0 _) (by rw[hD];exact h8)
   let IT:au X pins σ (af Q D$ .lst Y) s2:=IO.track fD (by rw[<- hD];exact I.sz) #[hz,U,U.length,rv,pD.1];let⟨mC,a3,_⟩:=I2.loc;let a4:Q C=θ:=I2.free;exact h' D C Y mC Q s2 I2.base.frzs h8 IT (I.fpOk (by rw[hD];exact h0) (by rw[jh$ NA P];exact a4)) a3 q
  .refine aV (T.item (bf X scope M (aY X.env scope.names []) C k s H) Z Z Z hc i _ s1 _ Q BD I1 (L f0) s7 go) λr s2 j=>?_;let⟨u,hr,h2⟩:=j;subst hr;refine aV h2 λ_ s3 j=>?_;let⟨x,H3,I3,r3,y3,O,f1⟩:=j;let a5:=I3.pinned (L f1) (T.obj _ _ O);refine aV (hg _ _ _ _ _ _ s3 _ H3 x u _ a5 r3$ step x H3 ts a1 y3) λ_ s4 j=>?_;obtain⟨σ1,H4,I4,⟨t0,h1,e4⟩,q4⟩:=j;subst e4;refine aV (hi _ _ _ _ _ _ s4 _ H4 _ I4 q4) λb s5 j=>?_;let⟨H5,I5,q5⟩:=j;cases b with
   |false=>obtain⟨m',hm,w'⟩:∃m',m' < n/\W (i+1) m' Y H5:=hN _ _ q5;refine#[m',hm,i+1,Y,U,t0,H5,h1,I5.unpinned,rv,hz,T.keep _ _ _ O λb a o e=>(I5.pin (b,o)$ Nk _$ Nk _$ zh a e).1,λb a=>?_,w'];let⟨o,e,d⟩:=T.obj _ _ O b a;exact(I5.pin (b,o)$ Nk _$ Nk _$ zh a e).2.1
   |true=>
    refine aV (he _ _ _ _ _ _ s5 _ H5 _ I5 q5) λv s6 j=>?_;let⟨y,H6,I6,r6,q6⟩:=j;let⟨m',hm,w'⟩:=hN _ _ q6;let pD:=I6.pin (D,lg U) (Nk _$ On _ No);let hl:=rv.length;let R:∀b∈k,∀o,s3.heap.get? b=δ o->s6.heap.get? b=δ o:=λb a o e=>(I6.pin (b,o)$ Nk _$ Nk _$ zh a e).1;let V:∀b∈k,H6 b=θ:=λb a=>by let⟨o,e,d⟩:=T.obj _ _ O b a;exact(I6.pin (b,o)$ Nk _$ Nk _$ zh a e).2.1
    refine append_at (hsz:=by rw[M1,<- hl];exact hz) pD.1 λh7 sb a'=>?_;let I7:au (bf X scope M (aY X.env scope.names []) C k s H) [] (t0++pk ix σ) H6 { s6 with heap:=h7 }:=
     (I6.pins_of (pins':=[]) λp hp=>absurd hp VW).turned (t':=s6.toks) (it:=D) (λb o a e=>(sb.2 b a).trans e) pD.2.1 P (.inr (by show s.heap.objs.size<=D;rw[hD];exact M0 _)) c1 λp hp=>absurd (show p∈([]:List (η×hY)) from hp) VW
    refine#[m',hm,i+1,Y++[y],U++[v],t0,H6,h1,p0 I7 (a'.trans$ Od δ$ Z8 U v) pD.2.1,rv.append$ .cons r6 .nil,by rw[MZ,O5];exact a2,
     T.keep _ _ _ (T.keep _ _ _ O R) λb a o e=>(sb.2 b λz=>?_).trans e,V,w']
    let:=h3 b a;rw[z]at this;exact N4 _ this
 exact codeAny_compStart_list (l0 _ #[_,Z])$ T.self _ 0 _ _ _ (T.keep _ _ _ st λb a o e=>o1 b o e)$ l0 _ #[_,Z]
def xu(w:TI)(n:Nat)(i:List Nat)(g:TG)(t:TT)(T:TE):TE:=λσ H Q=>w σ H λJ a=>eJ J n (pk i σ) g t T (λy h=>∀p,h p=θ->Q (.ref p) (af h p$ .lst y)) a
theorem zK{t E iter:dr}{i:List dr}{a:ir}{p:Pos}{M:List ρ}{k:Nat}{l:List Nat}{W:TI}{g:TG}{r:TT}{u:TE}(v:X.calm=μ)(y:PI X t iter W)(S:be X.N X.env.scope a M k l)
  (z:∀c C f s H,PG (bf X a M c C f s H) t g) (B:∀c C f s H,PF (bf X a M c C f s H) i r) (G:∀c C f s H,PE (bf X a M c C f s H) E u)
  (K:∀x,foldedSetIterable iter X.env x=pure x:=by intro _;rfl):
  PE X (.ListComp E [#[t,iter,i,0]] a p) (xu W k l g r u):=by
 intro pins s σ H Q I h;rw[eval_ListComp];refine TR (use:=θ) Z K (qG$ Jj I S) S.kind S.loc$ aV (y pins s σ H _ I h) λxv s1 L=>aV L λO s2 P=>?_;let⟨it,f,tn,J,H2,e,U,T,d,V,R⟩:=P;subst e;refine KI (RR:=λj C=>compPost (χ X.prog X.w) X.A X.xe θ (EP X pins σ Q) j C) U v T d V S z B G R ?_;intro D C ys m H' Y _ n I' F ns q;exact#[m,ns,λh' sb=>#[.ref D,_,I'.turned (t':=Y.toks) (λb o hb e=>(sb.2 b hb).trans e) F.1 F.2.1 F.2.2.2.1 F.2.2.2.2.1 F.2.2.2.2.2,Z,q D n]]
theorem qe{t E iter:dr}{d:List dr}{c:ir}{p P f:Pos}{y:ρ}{i:Nat}{M:List ρ}{U:Nat}{V:List Nat}{W:TI}{g:TG}{Y:TT}{te:TE}(hN:X.N.Nodup)(hy:X.N[i]?=δ y)(hx:BC X.env.scope y)
  (hc:X.calm=μ) (hI:PI X t iter W) (S:be X.N X.env.scope c M U V)
  (hg:∀l C j s H,PG (bf X c M l C j s H) t g) (hi:∀l C j s H,PF (bf X c M l C j s H) d Y) (he:∀l C j s H,PE (bf X c M l C j s H) E te)
  (r:swapsWith (.ListComp E [#[t,iter,d,0]] c p) (δ$ .Name y P) f.line X.env=pure μ:=by rfl)
  (hf:X.fn y=μ∨X.env.scope.names.lookup y=δ .local:=by first |exact .inl Z |exact .inr Z |assumption)
  (hs:∀x,foldedSetIterable iter X.env x=pure x:=by intro _;rfl):
  PS X (.Assign [.Name y P] (.ListComp E [#[t,iter,d,0]] c p) f) (λD σ H=>xu W U V g Y te σ H λv H1=>D.nx (σ.set i$ δ v) H1):=by
 intro pins s σ H D I h;rw[exec_Assign_Name_used _ _ _ _ r];refine MU$ Pr$ MU ?_;show π _ X.A (do let _ <- comprehension (.ListComp E [#[t,iter,d,0]] c p) c X.env _ (newList []) ξ (eval iter X.env) (δ$ assign (.Name y P) X.env)) _ _ s;refine MU (aV (TR (use:=δ (assign (.Name y P) X.env)) (Q:=λ_ k=>SP X pins D .next k) Z hs (qG$ Jj I S) S.kind S.loc
  (aV (hI pins s σ H _ I h) λxv s1 h1=>aV h1 λi0 s2 h2=>?_)) λ_ k hq=>MX (MX hq))
 let⟨it,j,tn,J,H2,e,I2,T,u,f2,R⟩:=h2;subst e;refine KI (RR:=λB C=>compPost (χ X.prog X.w) X.A X.xe (δ$ assign (.Name y P) X.env) (λ_ k=>SP X pins D .next k) B C) I2 hc T u f2 S hg hi he R ?_;intro Dd C ys m H' k _ n I' F ns q;show π _ X.A (assign (.Name y P) X.env$ .ref Dd) _ _ k;refine U2$ Qs I' hN hy hx (v:=.ref Dd) Z (λG K hh=>?_) hf;let⟨a,sb,ha⟩:=hh;let L:C≠a:=by
  rcases ha with z |z
  .rw[z];exact F.2.1
  .exact NA$ F.2.2.2.2.1 _ _ z
 exact#[m,ns.sameBut sb L,λh' O=>#[_,_,K.turned (t':=G.toks) (λb o hb e=>(O.2 b hb).trans e) F.1 F.2.1 F.2.2.2.1 F.2.2.2.2.1 F.2.2.2.2.2,q Dd n]]
end
section
variable {X:Cx}
def FP(i j:Int):Prop:=0 < j/\j<=1000000000000000000
theorem Kv:fh X (binaryOp .FloorDiv) (rI FP λi j=>.int (i / j)):=IQ λi j _ _ _ _ _ h q=>by
 let b:(0:Int) < j:=h.1;let c:j<=1000000000000000000:=h.2;refine floordiv_int VV (by rw[Int.fdiv_eq_ediv_of_nonneg i VV];exact q)$ .inl$ PyProof.noPylong_of_log2 ?_;let H:j.natAbs≠0:=by omega
 let a:j.natAbs < 2 ^ 60:=by omega
 let d:j.natAbs.log2 < 60:=(Nat.log2_lt H).mpr a;omega
noncomputable def Le:V->Option ζ
 | .ty n=>δ (.type n)
 | .ref a=>↑a
 |_=>θ
theorem JR:eI X (.builtin "isinstance") (λf H Q=>∃x y c t b,f=[x,y]/\Le y=δ c/\gV X.K H x t/\kitOne X.K t c=δ b/\Q (.bl b) H):=by
 intro p s i H f U Q I r h;let⟨x,y,c,t,b,rfl,d,ty,e,q⟩:=h;let⟨u,w,rfl,g,R⟩:=IC r;let E:w=c:=by
  cases y with
  |ty n=>exact Eq.trans R (NH d)
  |ref a=>exact Eq.trans R (NH d)
  |_=>cases d
 subst E;exact Z1 I g ty e λT=>#[.bl b,H,I.tok T,Z,q]
theorem qh:∀{Y:List ρ} {U:List ζ},aD (Y.map ry) U->StrsAre U Y
 | [],_,.nil=>.nil
 |y::r,_,.cons (b:=u) h t=>by obtain⟨T,e⟩:∃T,u=lq y T:=h;subst e;exact .cons y T$ qh t
theorem Q1:I8 X "str.join" (λx a H Q=>∃(z:ρ) (p:η) (y:List ρ),x= .str z/\a=[.ref p]/\aI X.K H p (y.map ry)/\z.length<=16/\(y.map (·.length)).sum+y.length<=1048576/\Q (.str$ Txt.join z y) H):=by intro P s l H x a v U Q I r R h;let⟨z,p,y,rfl,rfl,b,c,d,q⟩:=h;let⟨u,rfl,e⟩:=fg R;cases e;let⟨t,rfl⟩:=r;let⟨i,f,g,j⟩:=I.list b;exact join_listW g.isList (by simpa using qh f) c d λT k=>#[.str _,H,I.tok k,#[_,Z],q]
noncomputable def tO:dr->Option V
 | .Constant (.str x) _ _=>δ (.str x)
 | .Constant (.int i) _ _=>δ (.int i)
 |_=>θ
theorem Er(h:tO e=δ v):PE X e (tC v):=by
 cases e with
 |Constant c j p=>
  cases c with
  |str x=>cases h;exact jw
  |int i=>cases h;exact jf
  |_=>cases h
 |_=>cases h
theorem xj(h:tO e=δ v):Δ (e::a) E=(ξ,eval e E)::Δ a E:=by
 cases e with
 |Constant c j p=>rfl
 |_=>cases h
noncomputable def uK(e:dr):Bool:=(tO e).isSome
noncomputable def tN(e:dr):V:=(tO e).getD .non
theorem Q2:∀{E:List dr},E.all uK=μ->PA X E (λ_ H Q=>Q (E.map tN) H)
 | [],_=>jc
 |e::E,h=>by
  rw[Tl,Of]at h;let⟨v,a⟩:=mI.mp (show(tO e).isSome=μ from h.1);let b:tN e=v:=by unfold tN;rw[a];rfl
  rw[Oe,b];exact ja (Er a) (Q2 h.2)$ xj a
theorem Z9{E:List dr}(h:E.all uK=μ):(E.map tN).all dh=μ:=by
 rw[Ru]at h ⊢;intro v H;let⟨e,a,rfl⟩:=dN.mp H;let q:=h e a;unfold uK at q;unfold tN;cases e with
 |Constant c j p=>
  cases c with
  |str x=>rfl
  |int i=>rfl
  |_=>exact absurd q M8
 |_=>exact absurd q M8
def Iv(t:TS):TS:=λD b H=>∃R:St->Hp->Prop,t { D with nx:=R } b H/\∀a h,R a h->D.nx a h
theorem zb{st:cv}{t:TS}(h:PS X st t):PS X st (Iv t):=by
 intro p s b H D I c;let⟨R,d,e⟩:=c;refine aV (h p s b H _ I d) λf S q=>?_;cases f with
 |next=>let⟨a,g,i,q⟩:=q;exact#[a,g,i,e _ _ q]
 |brk=>exact q
 |cont=>exact q
 |ret v=>exact q
theorem rF{t:St}(h:t.length=1):∃v,t=[v]:=by
 cases t with
 |nil=>cases h
 |cons v r=>
  cases r with
  |nil=>exact#[v,Z]
  |cons _ _=>cases h
theorem X7{lo:Int}{t:TE}{Q:List V->Hp->Prop}(Pv:Nat->List V->Hp->Prop)(g:Pv 0 [] H)(j:n<=τ)(b:∀i Y h,Pv i Y h->Y.length<=i)
  (k:∀i Y h,i < n->Pv i Y h->t (δ (.int$ lo+i)::c) h λy d=>Pv (i+1) (Y++[y]) d) (l:∀Y h,Pv n Y h->Q Y h):
  eJ (sX lo n) 1 c (bQ 0) mN t Q H:=by
 refine#[λi m Y h=>m=n - i/\i<=n/\Pv i Y h,#[n,VW,M6 _,g],?_];rintro i m Y h ⟨rfl,q,p⟩;by_cases a:i < n
 .refine .inr #[a,Ol (b i Y h p)$ Nh a j,Pv$ i+1,λo d P=>#[n - (i+1),VV,Z,a,P],λx d T f y=>?_];let⟨e,y⟩:=y;subst e y;let⟨v,rfl⟩:=rF f;exact#[#[[δ _],Z,Z],k i Y _ a p]
 .let e:i=n:=by omega
  subst e;exact .inl #[M0 _,l Y h p]
end
section
variable {κ:Type}[DecidableEq κ]
noncomputable def b6(K:List (κ×V))(k:κ):Option V:=(K.find? λa=>decide (a.1=k)).map (·.2)
noncomputable def a9(K:List (κ×V))(k:κ)(v:V):List (κ×V):=
 if (K.any λa=>decide (a.1=k))=μ then K.map (λa=>if a.1=k then (a.1,v) else a) else K++[(k,v)]
noncomputable def lE(K:List (κ×V))(k:κ):List (κ×V):=K.filter λa=>decide (a.1≠k)
theorem km{p:κ×V}(e:p.1=k):b6 (p::r) k=δ p.2:=by simp [b6,Pl,e]
theorem kn{p:κ×V}(e:¬p.1=k):b6 (p::r) k=b6 r k:=by simp [b6,Pl,e]
theorem Jk(k:κ):∀K:List (κ×V),(K.any λa=>decide (a.1=k))=(b6 K k).isSome
 | []=>rfl
 |p::r=>by
  rw[PX];by_cases e:p.1=k
  .simp only[km e,M9 e,U',Option.isSome_some]
  .rw[kn e,M5 e,Bool.false_or];exact Jk k r
theorem XC(k j:κ)(y:V):∀K:List (κ×V),b6 (K.map λa=>if a.1=k then (a.1,y) else a) j=(b6 K j).map λx=>if j=k then y else x
 | []=>rfl
 |p::r=>by
  let i:=XC k j y r;rw[Oe];by_cases h:p.1=k
  .rw[M7 h];by_cases e:p.1=j
   .rw[km (p:=(p.1,y)) e,km e,RB,M7$ e.symm.trans h]
   .rw[kn (p:=(p.1,y)) e,kn e,i]
  .rw[Na h];by_cases e:p.1=j
   .rw[km (p:=p) e,km e,RB,Na (λz=>h (e.trans z))]
   .rw[kn (p:=p) e,kn e,i]
theorem Qz(k j:κ)(y:V):∀K:List (κ×V),b6 K k=θ->b6 (K++[(k,y)]) j=if j=k then δ y else b6 K j
 | [],_=>by
  by_cases e:k=j
  .rw[M7 e.symm];exact km (p:=(k,y)) e
  .rw[Na (λz=>e z.symm)];exact kn (p:=(k,y)) e
 |p::r,h=>by
  rw[List.cons_append];let H:¬p.1=k:=λz=>by rw[km z]at h;cases h
  rw[kn H]at h;let i:=Qz k j y r h;by_cases e:p.1=j
  .rw[km e,km e,Na (λz=>H (e.trans z))]
  .rw[kn e,kn e,i]
theorem xP(K:List (κ×V))(k j:κ)(y:V):b6 (a9 K k y) j=if j=k then δ y else b6 K j:=by
 unfold a9;by_cases a:(K.any λb=>decide (b.1=k))=μ
 .rw[M7 a,XC];rw[Jk]at a;by_cases e:j=k
  .let⟨x,h⟩:=mI.mp a;rw[M7 e,e,h,RB,M7 Z]
  .rw[Na e];cases b6 K j with
   |none=>rfl
   |some x=>rw[RB,Na e]
 .rw[Na a];refine Qz k j y K ?_;rw[Jk]at a;cases q:b6 K k with
  |none=>rfl
  |some x=>rw[q]at a;exact(a Z).elim
theorem qA(K:List (κ×V))(k:κ)(v:V):(a9 K k v).length<=K.length+1:=by
 unfold a9;split
 .rw[MY];omega
 .rw[MZ,Nz,SA];omega
theorem dZ.isSome_eq(r:dZ o u):o.isSome=u.isSome:=by
 cases o with
 |none=>cases u with
  |none=>rfl
  |some _=>exact(show False from r).elim
 |some _=>cases u with
  |none=>exact(show False from r).elim
  |some _=>rfl
theorem dZ.getD(r:dZ o u)(R:aG d D):aG (o.getD d) (u.getD D):=by
 cases o with
 |none=>cases u with
  |none=>exact R
  |some _=>exact(show False from r).elim
 |some _=>cases u with
  |none=>exact(show False from r).elim
  |some _=>exact r
theorem KV.val(r:KV a v)(k:κ):dZ (b6 a k) (valueAt v k):=by
 unfold KV at r;induction r with
 |nil=>exact True.intro
 | @cons p q P Q h t i=>
  let⟨H,c⟩:=h;by_cases e:p.1=k
  .let E:q.1=k:=H.symm.trans e;let b:valueAt (q::Q) k=δ q.2:=by simp [valueAt,Pl,E]
   rw[km e,b];exact c
  .let E:¬q.1=k:=λz=>e (H.trans z);let b:valueAt (q::Q) k=valueAt Q k:=by simp [valueAt,Pl,E]
   rw[kn e,b];exact i
theorem KV.any(r:KV a v)(k:κ):(a.any λK=>decide (K.1=k))=v.any λK=>decide (K.1=k):=by
 unfold KV at r;induction r with
 |nil=>rfl
 |cons h t i=>rw[PX,PX,i,h.1]
theorem KV.repl(r:KV a v)(k:κ)(R:aG y u):
  KV (a.map λK=>if K.1=k then (K.1,y) else K) (v.map λK=>if K.1=k then (K.1,u) else K):=by
 unfold KV at r ⊢;induction r with
 |nil=>exact .nil
 | @cons p q P Q h t i=>
  rw[Oe,Oe];refine .cons ?_ i;let⟨H,b⟩:=h;by_cases e:p.1=k
  .rw[M7 e,M7$ H.symm.trans e];exact#[H,R]
  .rw[Na e,Na (λz=>e (H.trans z))];exact#[H,b]
theorem KV.put(r:KV a v)(k:κ)(R:aG y u):KV (a9 a k y) (stored v k u):=by
 unfold a9 stored;rw[r.any k];by_cases e:(v.any λK=>decide (K.1=k))=μ
 .rw[M7 e,M7 e];exact r.repl k R
 .rw[Na e,Na e];exact Paired.snoc r #[Z,R]
theorem KV.drop(r:KV c v)(k:κ):KV (lE c k) (without v k):=by
 unfold KV at r ⊢;unfold lE without;induction r with
 |nil=>exact .nil
 | @cons p q P Q h t i=>
  let⟨H,d⟩:=h;rw[Us,Us];by_cases e:p.1=k
  .let a:¬decide (p.1≠k)=μ:=by simp [e]
   let b:¬decide (q.1≠k)=μ:=by simp [H.symm.trans e]
   rw[Na a,Na b];exact i
  .let E:¬q.1=k:=λz=>e (H.trans z);let a:decide (p.1≠k)=μ:=by simp [e]
   let b:decide (q.1≠k)=μ:=by simp [E]
   rw[M7 a,M7 b];exact .cons #[H,d] i
theorem KV.length(r:KV k v):k.length=v.length:=Paired.length r
theorem XD(K:List (κ×V))(k:κ):(lE K k).length<=K.length:=PL _ _
end
theorem Kg{P:ψ}(r:aG (kV k) u):(aX P w).is k u=μ:=by
 cases k with
 |inl i=>let⟨t,e⟩:=(show ∃t,u=ii i t from r);subst e;exact X5 P w i t
 |inr x=>let⟨t,e⟩:=(show ∃t,u=lq x t from r);subst e;exact X6 P w x t
theorem QA{P:ψ}:∀{K:List bH} {u:List ζ},aD (K.map kV) u->ItemsAre (aX P w) K u
 | [],_,r=>by rw[U7]at r;cases r;exact .nil
 |k::K,_,r=>by
  rw[Oe]at r;cases r with
  |cons h t=>exact .cons (Kg h) (QA t)
abbrev KT(H:Hp):List (List bH×V)->List (List bH×η×ζ)->Prop:=Paired λp q=>p.1=q.1/\H q.2.1=δ (.tup$ p.1.map kV)/\aG p.2 q.2.2
theorem KT.val(r:KT H a x)(k:List bH):dZ (b6 a k) ((atKey x k).map (·.2)):=by
 induction r with
 |nil=>exact True.intro
 | @cons p q P Q h t i=>
  let⟨c,_,d⟩:=h;by_cases e:p.1=k
  .let E:q.1=k:=c.symm.trans e;let b:atKey (q::Q) k=δ q.2:=by simp [atKey,Pl,E]
   rw[km e,b];exact d
  .let E:¬q.1=k:=λz=>e (c.trans z);let b:atKey (q::Q) k=atKey Q k:=by simp [atKey,Pl,E]
   rw[kn e,b];exact i
theorem KT.repl(r:KT H b x)(k:List bH)(R:aG y u):
  KT H (b.map λK=>if K.1=k then (K.1,y) else K) (x.map$ putAt k u):=by
 induction r with
 |nil=>exact .nil
 | @cons p q P Q h t i=>
  rw[Oe,Oe];refine .cons ?_ i;let⟨a,c,d⟩:=h;unfold putAt;by_cases e:p.1=k
  .rw[M7 e,M7$ a.symm.trans e];exact#[a,c,R]
  .rw[Na e,Na (λz=>e (a.trans z))];exact#[a,c,d]
theorem KT.put(r:KT H a x)(k:List bH)(h:H b=δ (.tup$ k.map kV))(R:aG y u):
  KT H (a9 a k y) (storedH x k b u):=by
 let e:(a.any λK=>decide (K.1=k))=(atKey x k).isSome:=by rw[Jk,(r.val k).isSome_eq,TX]
 unfold a9 storedH;rw[e];by_cases q:(atKey x k).isSome=μ
 .rw[M7 q,M7 q];exact r.repl k R
 .rw[Na q,Na q];exact Paired.snoc r #[Z,h,R]
theorem KT.keeps{h:Hp}(r:KT H k x)(a:∀b y,H b=δ (.tup y)->h b=δ (.tup y)):KT h k x:=
 Paired.mapP r λ_ _ z=>#[z.1,a _ _ z.2.1,z.2.2]
section
variable {P:ψ}{w:bU}{H:Hp}{h:de}{a:η}
theorem Ck(o:fq P w H h)(e:Rd H a u):aN P w H h a u:=e.ok o
theorem Kh(o:fq P w H h)(e:Rd H a (.dK k)):k.length<=τ/\(a==sysModules)=ξ/\∃v,KV k v/\h.DictOf (aX P w) a v:=
 show aN P w H h a (.dK k) from Ck o e
theorem BL(o:fq P w H h)(e:H a=δ (.dK k)):k.length<=τ/\(a==sysModules)=ξ/\∃v,KV k v/\h.DictOf (aX P w) a v:=Kh o (.inl e)
theorem Km{k:List bH}(O:fq P w H h)(e:H a=δ (.tup$ k.map kV)):(tupleKind$ aX P w).is h k a:=by let⟨_,i,r,o,b,c,n,d⟩:=(show aN P w H h a (.tup$ k.map kV) from O a _ e);exact#[o,i.toArray,n,b,c,d,by simpa using QA r]
theorem Qm(O:fq P w H h)(e:Rd H a (.dT k)):k.length<=τ/\(a==sysModules)=ξ/\
  ∃X,KT H k X/\h.DictOfH (tupleKind$ aX P w) a X:=by
 let⟨z,y,X,r,o,E,c,d,f,g,i,j⟩:=(show aN P w H h a (.dT k) from Ck O e);refine#[z,y,X,r,o,E,c,d,f,g,i,λx hx=>?_,j];let all:∀{l:List (List bH×V)} {m:List (List bH×η×ζ)},KT H l m->∀x∈m,(tupleKind$ aX P w).is h x.1 x.2.1:=by
  intro l m q;induction q with
  |nil=>intro x hx;exact nomatch hx
  | @cons p q n Q b t I=>
   intro x hx;rcases Φ.mp hx with e |hx
   .subst e;exact Km O (by rw[<- b.1];exact b.2.1)
   .exact I x hx
 exact all r x hx
theorem Gy(o:fq P w H h)(e:H a=δ (.dT k)):k.length<=τ/\(a==sysModules)=ξ/\
  ∃x,KT H k x/\h.DictOfH (tupleKind$ aX P w) a x:=Qm o (.inl e)
end
def gq(H:Hp)(a:η)(y:V)(r:Option V):Prop:=
 (∃K k,Rd H a (.dK K)/\y=kV k/\r=b6 K k)∨∃K k b,Rd H a (.dT K)/\y= .ref b/\H b=δ (.tup$ k.map kV)/\r=b6 K k
def oe(H:Hp)(a:η)(y v:V)(h:Hp):Prop:=
 (∃K k,H a=δ (.dK K)/\y=kV k/\K.length < τ/\h=af H a (.dK$ a9 K k v))∨
 ∃K k b,H a=δ (.dT K)/\y= .ref b/\H b=δ (.tup$ k.map kV)/\K.length < τ/\h=af H a (.dT$ a9 K k v)
theorem gq.k{H:Hp}{k:bH}(e:H a=δ (.dK b)):gq H a (kV k) (b6 b k):=.inl #[b,k,.inl e,Z,Z]
theorem oe.k{H:Hp}{k:bH}(e:H a=δ (.dK b))(h:b.length < τ):oe H a (kV k) v (af H a$ .dK$ a9 b k v):=.inl #[b,k,e,Z,h,Z]
section
variable {X:Cx}{pins:List (η×hY)}{σ:St}{H:Hp}{s:ι}{a:η}{y v:V}{u r:ζ}{o:Option V}{A:cc}{E:ζ->ι->Prop}
theorem au.big(I:au X pins σ H s):sysModules < s.heap.objs.size:=by let h:Ω < s.heap.objs.size:=(I.mod.glob.keeps I.bk).lt;exact Nat.lt_trans VU h
theorem rj{Q:ζ->ι->Prop}(m:A.units+1 < cLine)(I:au X pins σ H s)(g:gq H a y (δ v))(j:aG y u)(h:∀W S,au X pins σ H S->aG v W->Q W S):
  π (χ X.prog X.w) A (getItem (.ref a) u) Q E s:=by
 rcases g with ⟨K,k,e,d,l⟩ | ⟨K,k,b,e,d,n,l⟩
 .subst d;let⟨z,q,t,R,D⟩:=Kh I.hok e;let⟨W,f,c⟩:=dZ.some_of (v:=v) (o:=valueAt t k) (by rw[l];exact R.val k);exact wpAny_getItem_of (Kg j) D.mapOf f$ h W _ (I.tok _) c
 .subst d;cases (show u=Θ b from j);let⟨z,q,x,R,D⟩:=Qm I.hok e;let⟨W,f,c⟩:=dZ.some_of (v:=v) (o:=(atKey x k).map (·.2)) (by rw[l];exact R.val k);let⟨p,B,i⟩:=dg.mp f;refine wpAny_getItem_heap (Rm m) (Km I.hok n) D B ?_;rw[i];exact h W _ (I.tok _) c
theorem Li{Q:ζ->ι->Prop}(i:A.units+1 < cLine)(I:au X pins σ H s)(g:gq H a y o)(f:aG y u)(h:∀S,au X pins σ H S->Q (.bool o.isSome) S):
  π (χ X.prog X.w) A (compareOp .In u$ .ref a) Q E s:=by
 rcases g with ⟨K,k,e,c,l⟩ | ⟨K,k,b,e,c,j,l⟩
 .subst c;let⟨z,d,m,R,D⟩:=Kh I.hok e;refine wpAny_in_of (Kg f) d D.mapOf ?_;rw[<- (R.val k).isSome_eq,<- l];exact h _$ I.tok _
 .subst c;cases (show u=Θ b from f);let⟨z,d,x,R,D⟩:=Qm I.hok e;refine wpAny_in_heap (Rm i) (Km I.hok j) d D ?_;let q:=(R.val k).isSome_eq;rw[TX]at q;rw[<- q,<- l];exact h _$ I.tok _
theorem Q3(I:au X pins σ H s)(m:F' (H a))(c:fy a s.heap h)(d:∃q,h.get? a=δ q)(n:aN X.prog X.w (af H a O) h a O):
  au X pins σ (af H a O) { s with heap:=h,toks:=t }:=
 I.write (x:=a) (e:=a) m (.inl Z) (λb q f z=>(c.2 b f).trans z) d n
theorem QS{P:ψ}{h:de}{k:List (bH×V)}(z:k.length<=τ)(c:(a==sysModules)=ξ)(R:KV k b)(d:h.DictOf (aX P w) a b):
  aN P w e h a (.dK k):=#[z,c,b,R,d]
theorem rn{Q:Unit->ι->Prop}(J:A.units+1 < cLine)(I:au X pins σ H s)(g:oe H a y v L)(x:aG y u)(B:aG v r)(h:∀S,au X pins σ L S->Q () S):
  π (χ X.prog X.w) A (setItem (.ref a) u r) Q E s:=by
 rcases g with ⟨K,k,e,i,l,j⟩ | ⟨K,k,b,e,i,C,l,j⟩
 .subst i j;let⟨z,m,M,R,D⟩:=BL I.hok e;let n:M.length<=τ:=by rw[<- R.length];exact z
  let p:(a9 K k v).length<=τ:=by let:=qA K k v;omega
  refine wpAny_setItem_pairs (hsz:=n) (Kg x) D λF d t=>h _ ?_;let N:∃q,F.get? a=δ q:=let #[q,_,_,f,_]:=d;#[q,f]
  exact Q3 I (by rw[e];exact True.intro) t N$ QS p m (R.put k B) d
 .subst i j;cases (show u=Θ b from x);let⟨z,m,O,R,D⟩:=Gy I.hok e;let n:O.length<=τ:=by rw[<- Paired.length R];exact z
  let p:(a9 K k v).length<=τ:=by let:=qA K k v;omega
  refine wpAny_setItem_heap (hsz:=n) (Rm J) (Km I.hok C) D λF d t=>h _ ?_;let⟨q,P,T,f,U,W,Y,_,h5⟩:=d;refine Q3 I (by rw[e];exact True.intro) t #[q,f] #[p,m,_,(R.put k C B).keeps λc ys G=>?_,q,P,T,f,U,W,Y,h5];rw[jh$ jP G e (λz=>nomatch z)];exact G
end
section
variable {X:Cx}{pins:List (η×hY)}{σ:St}{H:Hp}{s:ι}{a:η}{kvs:List (bH×V)}{k:bH}{u:ζ}{A:cc}{E:ζ->ι->Prop}
theorem Gu{Q:ζ->ι->Prop}(I:au X pins σ H s)(e:H a=δ (.dK kvs))(R:aG (kV k) u)(l:b6 kvs k=δ v)(c:m=[]∨∃x,m=[x])
  (h:∀W S,au X pins σ (af H a$ .dK$ lE kvs k) S->aG v W->Q W S):π (χ X.prog X.w) A (call (.builtin "dict.pop") (.ref a::u::m)) Q E s:=by
 let⟨z,g,f,r,D⟩:=BL I.hok e;let⟨W,j,b⟩:=dZ.some_of (v:=v) (o:=valueAt f k) (by rw[<- l];exact r.val k);let n:(keyPart u).isSome=μ:=by
  cases k with
  |inl i=>let⟨t,q⟩:=(show ∃t,u=ii i t from R);subst q;rfl
  |inr x=>let⟨t,q⟩:=(show ∃t,u=lq x t from R);subst q;rfl
 let p:argsOk "dict.pop" #[.ref a::u::m,[]]:=by
  rcases c with q | ⟨x,q⟩
  .subst q;exact PySem.F.args_dict_pop_2 _ _
  .subst q;exact PySem.F.args_dict_pop_3 _ _ _
 refine Uf Th D.typeIs PySem.F.entry_dict_pop p (meets_dict_pop_there (aX X.prog X.w) a (Kg R) m c n)
  #[f,W,D,by rw[<- r.length];exact z,j,λy d B=>h W _ ?_ b]
 let C:∃q,y.get? a=δ q:=let #[q,_,_,G,_]:=d;#[q,G]
 exact Q3 I (by rw[e];exact True.intro) B C$ QS (Ng (XD kvs k) z) g (r.drop k) d
end
def Ga(i:dr):Prop:=∀o I,subscripted i ξ o I=operate [o,I] (getItem o I)
theorem Bj{id:String}
  (k:typeLookup (.type T) "__getitem__"=pure (δ$ .builtin id)) (l:Ga a)
  (h:π (χ p w) A (eval v e) (λo b=>π (χ p w) A (eval a e) (λi S=>S.TypeIs o T/\π (χ p w) A (getItem o i) Q E S) E b) E s):
  π (χ p w) A (eval (.Subscript v a m) e) Q E s:=by
 refine UZ$ N7 h (λo b d=>N7 d (λi S H=>?_) λ_ _ x=>x) λ_ _ x=>x;let⟨j,H⟩:=H;unfold subscriptTail;refine MU ?_;rw[getitemInPython_of_ne j.not_modules];refine MU$ OF j k ?_;let f:π (χ p w) A (subscripted a ξ o i) (λr c=>π (χ p w) A (letTemporaryGo v o r >>= λ_=>pure r) Q E c) E S:=by rw[l o i];exact wpAny_operating$ N7 H (λr c g=>MU (wpAny_letTemporaryGo$ MX g)) λ_ _ x=>x
 first
  |exact MX (MU f)
  |exact MU (MX (MU f))
  |exact MU f
theorem X8{X:Cx}(I:au X p c H s)(g:gq H a y o):s.TypeIs (.ref a) "dict":=by
 rcases g with ⟨K,k,e,_,_⟩ | ⟨K,k,b,e,_,_,_⟩
 .let⟨_,_,v,_,d⟩:=Kh I.hok e;exact d.typeIs
 .let⟨_,_,x,_,d⟩:=Qm I.hok e;exact d.typeIs
inductive xw(Q:VK)(x y:V)(b:Hp):Prop
 |mk(a v:_)(_:x= .ref a)(_:gq b a y (δ v))(_:Q v b)
def Iq(t T:TE):TE:=λa H Q=>t a H λx h=>T a h (xw Q x)
inductive Cy(Q:VK)(y x:V)(b:Hp):Prop
 |mk(a o:_)(_:x= .ref a)(_:gq b a y o)(_:Q (.bl o.isSome) b)
def LN(t T:TE):TE:=λa H Q=>t a H λy h=>T a h (Cy Q y)
inductive vZ(D:bV)(d:St)(v x y:V)(b:Hp):Prop
 |mk(a c:_)(_:x= .ref a)(_:oe b a y v c)(_:D.nx d c)
def vY(t T b:TE):TS:=λD a H=>b a H λv h=>t a h λx c=>T a c (vZ D a v x)
section
variable {X:Cx}{o i e value:dr}{pos pos' tpos:Pos}{td ty tv:TE}
theorem Az(d:X.A.units+1 < cLine)(f:PE X o td)(j:PE X i ty)(k:Ga i):PE X (.Subscript o i pos) (Iq td ty):=by intro p s b H Q I h;refine Bj PySem.F.slot_dict_getitem.lookup k$ aV (f p s b H _ I h) λu S #[x,l,m,R,q]=>aV (j p S b l _ m q) λC D z=>?_;let⟨y,n,c,t,a,v,E,g,w⟩:=z;subst E;obtain rfl:u=Θ a:=R;exact#[X8 c g,rj d c g t λW G B r=>#[v,n,B,r,w]]
theorem Em(c:X.A.units+1 < cLine)(d:PE X i ty)(f:PE X o td):PC X .In i o (LN ty td):=by intro p s b H Q I h;refine aV (d p s b H _ I h) λv S #[y,j,k,r,q]=>aV (f p S b j _ k q) λu w z=>?_;let⟨x,l,m,R,a,O,E,g,n⟩:=z;subst E;obtain rfl:u=Θ a:=R;exact Li c m g r λB t=>#[.bl O.isSome,l,t,Z,n]
theorem q9(c:X.A.units+1 < cLine)(d:PE X o td)(f:PE X i ty)(j:PE X value tv)(k:swapsWith value (δ$ .Subscript o i pos') pos.line X.env=pure ξ):
  PS X (.Assign [.Subscript o i pos'] value pos) (vY td ty tv):=by
 intro p s b H D I h;refine wpAny_Assign_Subscript (aV (j p s b H _ I h) λr S #[v,l,m,R,q]=>aV (d p S b l _ m q) λu n #[x,t,w,B,Q]=>aV (f p n b t _ w Q) λL M z=>?_) k;let⟨y,N,C,E,a,F,G,g,J⟩:=z;subst G;obtain rfl:u=Θ a:=B;exact rn c C g E R λO K=>#[b,F,K,J]
end
theorem tU{P:ψ}(h:de)(a:sysModules < h.objs.size):aN P w H (h.push { cls:=.type "dict",data:=.dict (ε []) }) h.objs.size (.dK []):=
 #[M6 _,beq_eq_false_iff_ne.mpr$ NA$ Nb a,[],.nil,Tv h]
def Fh:TE:=λ_ H Q=>∀p,H p=θ->Q (.ref p) (af H p$ .dK [])
section
variable {X:Cx}{pos:Pos}
theorem XE:PE X (.Dict [] [] pos) Fh:=λp s b H Q I h=>
 wpAny_Dict_empty #[.ref s.heap.objs.size,_,I.laid (a:=s.heap.objs.size) (o:=.dK []) (t':=s.toks) (λ_ _ q=>MW _ q) (M0 _)$ tU s.heap I.big,Z,h _$ I.hok.fresh$ M0 _]
end
def dy(k m:List (bH×V)):List (bH×V):=m.foldl (λa K=>a9 a K.1 K.2) k
theorem KV.merge:∀{m:List (bH×V)} {R:List (bH×ζ)} {k:List (bH×V)} {v:List (bH×ζ)},KV m R->KV k v->KV (dy k m) (merged v R):=by
 intro m R k v r;unfold KV at r;induction r generalizing k v with
 |nil=>intro q;exact q
 | @cons p q P Q h t i=>
  intro a;let e:KV (a9 k p.1 p.2) (stored v q.1 q.2):=by let:=a.put p.1 h.2;rw[<- h.1];exact this
  exact i e
theorem qH:∀(m k:List (bH×V)),(dy k m).length<=k.length+m.length
 | [],k=>by show k.length<=k.length+0;omega
 |p::r,k=>by let h:=qH r (a9 k p.1 p.2);let H:=qA k p.1 p.2;show(dy (a9 k p.1 p.2) r).length<=_;rw[Nz];omega
structure M2(X:Cx)(o:dr)(m:ρ)(apos:Pos)(e f:dr)(cpos:Pos):Prop where
 base:attributeBase o m X.env (eval o X.env)=eval o X.env
 few:((fJ cpos$ Δ [e,f] X.env).all (λx=>!x.1)&&(backToKw cpos$ keywordEach [] X.env).all (λx=>x.1.isSome)
  &&decide (([e,f]:List dr).length+([]:List Keyword).length+(if ([]:List Keyword).isEmpty then 0 else 1) < 30))=μ
 line:(apos.endLine==cpos.line)=μ
 trees:fJ cpos (Δ [e,f] X.env)=[(ξ,eval e X.env),(ξ,eval f X.env)]
def Md(H:Hp)(a:η):Prop:=(∃k,Rd H a$ .dK k)∨∃k,Rd H a (.dT k)
theorem Dk{X:Cx}(I:au X p g H s)(d:Md H a):
  s.TypeIs (.ref a) "dict"/\(∀b,Θ a= .ref b->∃o,s.heap.get? b=δ o/\o.dict=θ)/\(a==sysModules)=ξ:=by
 rcases d with ⟨k,e⟩ | ⟨k,e⟩
 .let⟨_,h,v,_,D⟩:=Kh I.hok e;refine#[D.typeIs,λb q=>?_,h];cases q;let⟨o,_,_,c,f,_⟩:=D;exact#[o,c,f.2.1]
 .let⟨_,h,x,_,D⟩:=Qm I.hok e;refine#[D.typeIs,λb q=>?_,h];cases q;let⟨o,_,_,c,f,_⟩:=D;exact#[o,c,f.2.1]
section
variable {X:Cx}{pins:List (η×hY)}{σ:St}{H:Hp}{s:ι}{a:η}{y d:V}{u r:ζ}{o:Option V}{A:cc}{E:ζ->ι->Prop}
theorem C1{Q:ζ->ι->Prop}(m:A.units+1 < cLine)(I:au X pins σ H s)(g:gq H a y o)(i:aG y u)(j:aG d r)(h:∀W S,au X pins σ H S->aG (o.getD d) W->Q W S):
  π (χ X.prog X.w) A (call (.builtin "dict.get") [.ref a,u,r]) Q E s:=by
 rcases g with ⟨K,k,e,c,l⟩ | ⟨K,k,b,e,c,n,l⟩
 .subst c;let⟨z,f,v,R,D⟩:=Kh I.hok e;refine Uf Rz D.typeIs Ta (SU _ _ _) (meets_dict_get_default (aX X.prog X.w) a (Kg i) f r) #[_,D.mapOf,h _ _ (I.tok _) ?_];rw[l];exact(R.val k).getD j
 .subst c;cases (show u=Θ b from i);let⟨z,f,x,R,D⟩:=Qm I.hok e;refine Uf Rz D.typeIs Ta (SU _ _ _) (meetsH_dict_get_default (tupleKind$ aX X.prog X.w) a b f r) #[Rm m,k,x,Km I.hok n,D,h _ _ (I.tok _) ?_];rw[l];exact(R.val k).getD j
end
inductive pW(d c:TE)(e:St)(Q:VK)(x:V)(b:Hp):Prop
 |mk(a:_)(_:x= .ref a)(_:Md b a)(_:d e b λy H2=>c e H2 λz H3=>∃o,gq H3 a y o/\Q (o.getD z) H3)
def Fg(t T b:TE):TE:=λa H Q=>t a H (pW T b a Q)
section
variable {X:Cx}{o e f:dr}{apos cpos:Pos}{td ty tx:TE}
theorem Kw(j:X.A.units+1 < cLine)(k:PE X o td)(l:PE X e ty)(n:PE X f tx)(m:M2 X o "get" apos e f cpos):PE X (.Call (.Attribute o "get" apos) [e,f] [] cpos) (Fg td ty tx):=by
 intro p s b H Q I h;refine wpAny_Call_method m.base m.few m.line SQ Rz PySem.F.type_dict_get$ aV (k p s b H _ I h) λu S c=>?_;let⟨x,q,i,R,a,E,d,t⟩:=c;subst E;obtain rfl:u=Θ a:=R;let⟨T,v,_⟩:=Dk i d;refine#[T,v,?_];rw[m.trees];refine RD Z (TH (OH (aV (l p S b q _ i t) λO w #[y,B,C,D,G]=>
  OH (aV (n p w b B _ C G) λP U #[z,J,K,L,V,g,M]=>O6 ?_))))
 exact C1 j K g D L λW Y N r=>#[_,J,N,r,M]
end
section
variable {X:Cx}{pins:List (η×hY)}{σ:St}{H:Hp}{s:ι}{a:η}{kvs:List (bH×V)}{A:cc}{E:ζ->ι->Prop}
theorem tQ{Q:ζ->ι->Prop}(I:au X pins σ H s)(e:Rd H a (.dK kvs))(h:∀p S,H p=θ->au X pins σ (af H p$ .dK kvs) S->Q (.ref p) S):π (χ X.prog X.w) A (call (.type "dict") [.ref a]) Q E s:=by let⟨z,f,v,r,D⟩:=Kh I.hok e;refine kt_call_dict f D (by rw[<- r.length];exact z) λi d g=>?_;refine h _ _ (I.hok.fresh$ M0 _)$ I.laid (a:=s.heap.objs.size) (o:=.dK kvs) (t':=s.toks) (λb q c=>?_) (M0 _)$ QS z (beq_eq_false_iff_ne.mpr$ NA$ Nb I.big) r d;exact(g.2 b$ Nb$ M4 c).trans (MW _ c)
end
section
variable {X:Cx}{pins:List (η×hY)}{σ:St}{H:Hp}{s:ι}
theorem QB:eI X (.type "dict") (λx H Q=>∃a k,x=[.ref a]/\H a=δ (.dK k)/\∀p,H p=θ->Q (.ref p) (af H p$ .dK k)):=by intro pins s σ H x U Q I r h;let⟨a,k,rfl,b,q⟩:=h;let⟨u,rfl,R⟩:=fg r;cases R;exact tQ I (.inl b) λp S n i=>#[.ref p,_,i,Z,q p n]
end
section
open PySem.W PySem.Calls Builtin Builtin.ObjectAttr
variable {prog:ψ}{w:bU}{A:cc}{E:ζ->ι->Prop}{s:ι}{K:γ}{x C:η}{ox:hY}{od:Option hY}{name:ρ}
structure tw(K:γ)(C:η):Prop where
 ga:findIn K (.ref C) "__getattribute__"=δ (δ$ .builtin "BaseException.__getattribute__")
 gh:findIn K (.ref C) "__getattr__"=δ θ
 sa:findIn K (.ref C) "__setattr__"=δ (δ$ .builtin "object.__setattr__")
 cl:findIn K (.ref C) "__class__"=δ (δ$ .builtin "object.__class__")
 gt:specialIn K (.builtin "object.__class__") "__get__"=δ (δ$ .builtin "getset_descriptor.__get__")
 tk:takesIn K (.builtin "object.__class__")=δ μ
 mb:mroIn K C (.type "BaseException")=δ μ
 mo:mroIn K C (.type "object")=δ μ
 hd:hasDictIn K C=μ
abbrev re:List ζ:=[.type "ValueError",.type "Exception",.type "BaseException",.type "object"]
end
section
open PySem.W PySem.Calls
variable {prog:ψ}{w:bU}{A:cc}{E:ζ->ι->Prop}{R:Result->ι->Prop}{K:γ}{h:de}{g:Array GenState}{d:Drawn}{t:Nat}{os:OsState}{C B:η}
theorem rA(q:excIn K C re "ValueError.__new__"=μ):(∃p q N r f a s sub u c D k i j m o,K.lookup C=δ (excClassObj p q C N r f a s sub u c D k i j m o "ValueError.__new__")/\tailIn K re f=μ/\nsOkIn K N=μ/\nsIn K N "__init__"=δ θ):=by
 unfold excIn at q;split at q
 .rename_i D z S F
  split at q
  .rename_i O f k i j m n o x y
   simp only[Of,beq_iff_eq,Ul]at q;obtain⟨⟨⟨⟨⟨rfl,rfl⟩,H⟩,G⟩,b⟩,e⟩:=q;let⟨p,r,M,I,Q,J,s,sub,u,c,L⟩:=z;dsimp only at x H b e;subst x H;let v:S=(ε [k,i,j,m,δ$ .builtin "ValueError.__new__",o]):=by let⟨l⟩:=S;simp only at y;rw[y]
   subst v;exact#[p,Q,I,r,f,J,s,sub,u,c,D,k,i,j,m,o,F,G,b,e]
  .cases q
 .cases q
end
theorem aN.obj{P:ψ}{a:η}(x:aN P w H h a o):∃u,h.get? a=δ u:=by
 cases o with
 |lst X=>let⟨_,_,_,_,e⟩:=x;exact#[_,e]
 |tup X=>let⟨_,_,_,o,e,_⟩:=x;exact#[_,e]
 |dK k=>let⟨_,_,_,_,o,_,_,e,_⟩:=x;exact#[_,e]
 |dT k=>let⟨_,_,_,_,o,_,_,e,_⟩:=x;exact#[_,e]
 |set S n=>let⟨o,_,_,_,e,_⟩:=x;exact#[_,e]
 |ins C d F=>let⟨_,_,_,e,_⟩:=x;exact#[_,e]
 |own y=>let⟨_,e⟩:=x;exact#[_,e]
 |xd F=>obtain⟨_,⟨_,_,_,e,_⟩,_⟩:=x;exact#[_,e]
 |rng lo b=>let⟨_,_,_,e⟩:=x;exact#[_,e]
 |frz O u=>let⟨e,_⟩:=x;exact#[_,e]
 |tbl p=>exact#[_,(show h.get? a=δ _ from x)]
 |met f y=>exact#[_,(show h.get? a=δ _ from x)]
 |ext c=>obtain⟨_,⟨_,e⟩,_⟩:=x;exact#[_,e]
theorem au.laidN{X:Cx}{h':de}{a:η}{o:HO}{t':Nat}(I:au X p g H s)(k:∀b u,s.heap.get? b=δ u->h'.get? b=δ u)(d:s.heap.get? a=θ)(N:aN X.prog X.w (af H a o) h' a o):
  H a=θ/\au X p g (af H a o) { s with heap:=h',toks:=t' }:=by
 let i:∀b u,s.heap.get? b=δ u->b≠a:=λb u q z=>by rw[z,d]at q;cases q
 let h:H a=θ:=by
  cases q:H a with
  |none=>rfl
  |some u=>let⟨U,e⟩:=(I.hok a u q).obj;rw[d]at e;cases e
 refine#[h,I.un ?_ ?_]
 .exact { keep:=λb u q _ _ _=>k b u q,slot:=λb u q _ _ _=>#[u.slots,k b u q],free:=λb u q n _=>by rw[jh$ i b u q];exact n,there:=λb u q _=>#[u,k b u q],tups:=λb x q=>by rw[jh$ ji q h];exact q,frzs:=λb u x q=>by rw[jh$ ji q h];exact q,tbls:=λb P q=>#[(ε []),by rw[jh$ ji q h,q];simp] }
 .intro b u e;by_cases f:b=a
  .subst f;rw[jb]at e;cases e;exact N
  .rw[jh f]at e;exact(I.hok b u e).stay (λc v _ q=>k c v q) (λc q=>by rw[jh$ ji q h];exact q) λc x q=>by rw[jh$ ji q h];exact q
noncomputable def By(C:η)(d:Option η)(x:η):HO:=.ext λh=>∃o,h.get? x=δ o/\o.cls= .ref C/\notCls o=μ/\o.dict=d/\∃v,o.data= .fields v/\v[1]?=δ .none
theorem C9{P:ψ}{h:de}(e:h.get? x=δ o)(a:o.cls= .ref C)(b:notCls o=μ)(c:o.dict=d)(f:∃v,o.data= .fields v/\v[1]?=δ .none):aN P w H h x (By C d x):=
 #[#[o,e,a,b,c,f],#[o,e],λg i #[O,E,q] k=>#[O,k O E,q]]
def Bl(C:η):TE:=λa H Q=>∀x,H x=θ->Q (.ref x) (af H x$ By C θ x)
section
variable {X:Cx}{CX:pY}{k:Nat}{f C:η}{fd:hG}{ps:List ρ}{sp:Sp}{E:XK}{x m g:ρ}{p pos pos':Pos}{e o value:dr}{es:List dr}{ta tv:TE}{t:TA}
theorem QC(M:excIn X.K C re "ValueError.__new__"=μ)(l:iv X.K (.ref C)=μ)(n:Gl X x)(r:X.mg x=↑C)(c:(x==("__debug__":ρ))=ξ:=by decide):
  PE X (.Call (.Name x p) [] [] pos) (Bl C):=by
 intro P s D H Q I h;refine NT$ zJ I n r ?_ c;refine RV I.kIn l ?_;let⟨G,q,N,J,L,j,S,sub,O,u,R,U,V,Y,k3,k5,v,w,b,i⟩:=rA M;let y:=I.kIn _ _ v;let⟨hp,g,d,T,os⟩:=s;refine wpAny_call_exc_subT PySem.F.excBase_ValueError (PySem.W.tail_of_in I.kIn w) y (.of_isNs$ PySem.W.isNs_of_in I.kIn b) (PySem.W.nsMap_none_of_in I.kIn b i) (λh' e m=>?_)$ M6 _;let⟨t,z,_,_⟩:=m.there;let⟨A,B⟩:=I.laidN (a:=e) (h':=h') (o:=By C θ e) (t':=T) m.keeps m.new (C9 z Z Z Z #[_,Z,Z]);exact#[.ref e,_,B,Z,h e A]
end
theorem au.turnedN{X:Cx}{p:List (η×hY)}{d:St}{H:Hp}{s:ι}{g:de}{t':Nat}{f:List η}(I:au X p d H s)(a:∀b∈f,gr X p H b)(k:∀b o,b∉f->s.heap.get? b=δ o->g.get? b=δ o):
  au X p d H { s with heap:=g,toks:=t' }:=by
 let N:∀b u,H b=δ u->b∉f:=λb u e z=>by rw[(a b z).1]at e;cases e
 refine I.step (g':=s.gens) (d':=s.drawn) (ch:=f) (λb i=>?_) (λb o _ _ h e _=>k b o h e) (λb o _ _ h e _=>#[o.slots,k b o h e]) (λ_ _ _ _ n=>n)
  (λb o h e=>#[o,k b o h e]) (λ_ _ e=>e) (λ_ _ _ e=>e) (λb P e=>#[(ε []),by rw[e];simp]) (λm j=>?_) (λb u e=>?_) I.bare
 .let⟨A,F,B,l,t,w⟩:=a b i;exact#[l,F,t,w]
 .let⟨o,E,x,y,r⟩:=j;exact#[o,E,x,k _ o (λz=>(a _ z).2.1 Z) y,r]
 .refine(I.hok b u e).stay (λc v h q=>k c v ?_ q) (λ_ q=>q) λ_ _ q=>q;rcases h with z |z
  .rw[z];exact N b u e
  .exact N c _ z
section
variable {M:Model}{A:cc}{E:ζ->ι->Prop}{s:ι}
structure du(fl:ζ)(lF:List η)(x:η)(ox:hY)(h h':de):Prop where
 ex:∃T oT ts,h.objs.size<=T/\h'.get? x=δ (hJ (·.setIfInBounds 1 (.ref T)) ox)/\h'.get? T=δ oT/\oT.data= .fields ts/\ts[3]?=δ fl
 keep:∀b o,b∉lF->b≠x->h.get? b=δ o->h'.get? b=δ o
 slot:∀b o,b≠x->h.get? b=δ o->∃sl,h'.get? b=δ { o with slots:=sl }
theorem QD{Q:Unit->ι->Prop}
  (t:A.frames=δ (d::O)) (F:s.heap.FunFrames G (d::O)) (N:d.frame=δ L)
  (I:s.heap.get? x=δ u) (v:u.data= .fields J) (w:1 < J.size)
  (h:∀K,du (rawInt L) ((d::O).filterMap (·.frame)) x u s.heap K->Q () { s with heap:=K }):
  π M A (do let a <- frameOf d;let p <- entryPlaceOf L q;let b <- EntryCells.newEntry f a .none (rawInt L) .none p;setField (.ref x) 1 b) Q E s:=by
 let y:x∉(d::O).filterMap (·.frame):=λP=>by let⟨_,o,r,z⟩:=F.mem P;rw[I]at r;injection r with r;subst r;exact z J v
 refine MU$ wpAny_frameOf_fun t F N λH c=>?_;refine MU$ wpAny_entryPlaceOf λp B=>?_;unfold EntryCells.newEntry newFields;refine MU$ NF ?_$ B.sizeOk5 _ _ _ _ _;let g:H.get? x=δ u:=(c.2.1 x y).trans I;let i:=MW (h:=H) { cls:=.type "traceback",dict:=θ,data:=.fields ([f,.ref L,.none,rawInt L,.none]++(if p.isEmpty then kz 6 β else p)).toArray } g;refine NR i v w$ h _ ?_;let C:H.objs.size≠x:=NY (M4 g);let j:=NB v (·.setIfInBounds 1 (Θ H.objs.size));let l:=ND (hJ (·.setIfInBounds 1 (Θ H.objs.size))) i (Oc j);let k:∀b o,b≠x->H.get? b=δ o->((H.push { cls:=.type "traceback",dict:=θ,data:=.fields ([f,.ref L,.none,rawInt L,.none]++(if p.isEmpty then kz 6 β else p)).toArray }).update x$ hJ (·.setIfInBounds 1 (Θ H.objs.size))).get? b=δ o:=λb o D e=>by rw[Nj _ _$ NA D];exact MW _ e
 let m:=(Nj (H.push { cls:=.type "traceback",dict:=θ,data:=.fields ([f,.ref L,.none,rawInt L,.none]++(if p.isEmpty then kz 6 β else p)).toArray })
  (hJ (·.setIfInBounds 1 (Θ H.objs.size))) (NA C)).trans (M3 H Z)
 refine#[#[H.objs.size,_,_,Sl c.1.symm,l,m,Z,VW],λb o D n e=>k b o n ((c.2.1 b D).trans e),λb o n e=>?_];let⟨S,R⟩:=c.2.2 b o e;exact#[S,k b _ n R]
theorem YK{Q:Unit->ι->Prop}
  (H:A.frames=δ (e::o)) (i:s.heap.FunFrames b (e::o)) (a:e.frame=δ L)
  (c:s.heap.get? x=δ O) (d:O.data= .fields v) (f:v[1]?=δ .none)
  (h:∀g,du (rawInt L) ((e::o).filterMap (·.frame)) x O s.heap g->Q () { s with heap:=g }):
  π M A (noteFrame (.ref x) e) Q E s:=by
 unfold noteFrame;simp only[a];refine MU$ Nw c d f ?_;rw[Na VU];exact QD H i a c d (bm.mp f).1 h
theorem Dp{lF:List η}{Q:Unit->ι->Prop}(N:du C lF x O H s.heap)(j:H.get? x=δ O)(v:O.data= .fields w)(k:1 < w.size)
  (h:∀p,du .none lF x O H p->Q () { s with heap:=p }):π M A (setFlight (.ref x) θ) Q E s:=by
 let⟨T,D,F,c,r,t,g,y⟩:=N.ex;let l:=NB v (·.setIfInBounds 1 (Θ T));let m:T≠x:=λz=>absurd (Nh (M4 j) (by rw[<- z];exact c)) (N4 _);unfold setFlight;refine MU$ Nw r l (x:=.ref T) (by simp [k]) ?_;rw[M7 (show(Θ T != β)=μ from by simp)];let i:=(bm.mp y).1;refine NR t g i$ h _ ?_;let a:=NB g (·.setIfInBounds 3 ((θ:Option η).elim β λf=>rawInt f));let n:=ND (hJ (·.setIfInBounds 3 ((θ:Option η).elim β λf=>rawInt f))) t (Oc a);let u:∀b o,H.get? b=δ o->T≠b:=λb o e z=>absurd (Nh (M4 e) (by rw[<- z];exact c)) (N4 _);refine#[#[T,_,_,c,by rw[Nj _ _ m];exact r,n,a,by simp [i]],λb o B d e=>?_,λb o d e=>?_]
 .rw[Nj _ _$ u b o e];exact N.keep b o B d e
 .let⟨S,q⟩:=N.slot b o d e;exact#[S,by rw[Nj _ _$ u b o e];exact q]
theorem X9{base:de}{Q:Unit->ι->Prop}
  (a:A.frames=δ (e::o)) (f:s.heap.FunFrames base (e::o)) (g:e.frame=δ L)
  (b:s.heap.get? x=δ O) (c:O.data= .fields v) (d:v[1]?=δ .none)
  (h:∀H,du .none ((e::o).filterMap (·.frame)) x O s.heap H->Q () { s with heap:=H }):
  π M A (leaving e$ .ref x) Q E s:=by
 unfold leaving;exact MU$ YK a f g b c d λH N=>Dp (s:={ s with heap:=H }) N b c (bm.mp d).1 h
end
section
variable {M:Model}{A:cc}{E:ζ->ι->Prop}{s:ι}
noncomputable abbrev eV(T:η)(h:de):de:=h.update T (hJ (·.setIfInBounds 3 β))
theorem QE{base:de}{Q:Unit->ι->Prop}
  (f:A.frames=δ (e::O)) (w:s.heap.FunFrames base (e::O)) (j:e.frame=δ L)
  (k:s.heap.get? x=δ l) (m:l.data= .fields v) (p:v[1]?=↑T) (g:T≠x) (i:s.heap.get? T=δ y) (c:y.data= .fields t) (r:t[3]?=δ .none)
  (h:∀u,du (rawInt L) ((e::O).filterMap (·.frame)) x l (eV T s.heap) u->Q () { s with heap:=u }):
  π M A (noteFrame (.ref x) e) Q E s:=by
 unfold noteFrame;simp only[j];refine MU$ Nw k m p ?_;rw[M7 (show(Θ T != β)=μ from by simp)];refine MU$ Nw i c r ?_;rw[Na (show ¬((β==rawInt L)=μ) from by simp [rawInt])];refine MU$ NR i c (bm.mp r).1 ?_;let a:∀b,b≠T->(eV T s.heap).get? b=s.heap.get? b:=λb H=>Nj _ _ (NA H);let n:∀b o,s.heap.get? b=δ o->(∀v,o.data≠ .fields v)->b≠T:=λb o H d q=>by rw[q,i]at H;injection H with H;subst H;exact d t c
 exact QD (s:={ s with heap:=eV T s.heap }) f (w.of_keeps λb o H d=>#[o,(a b$ n b o H d).trans H,Z]) j ((a x$ NA g).trans k) m (bm.mp p).1 h
theorem YL{base:de}{Q:Unit->ι->Prop}
  (b:A.frames=δ (e::o)) (i:s.heap.FunFrames base (e::o)) (j:e.frame=δ L)
  (d:s.heap.get? x=δ O) (f:O.data= .fields v) (g:v[1]?=↑T) (H:T≠x) (k:s.heap.get? T=δ l) (c:l.data= .fields t) (m:t[3]?=δ .none)
  (h:∀a,du .none ((e::o).filterMap (·.frame)) x O (eV T s.heap) a->Q () { s with heap:=a }):
  π M A (leaving e$ .ref x) Q E s:=by
 unfold leaving;exact MU$ QE b i j d f g H k c m λa N=>Dp (s:={ s with heap:=a }) N ((Nj _ _ H).trans d) f (bm.mp g).1 h
end
noncomputable def ig(C:η)(d:Option η)(T x:η):HO:=.ext λh=>∃o v,h.get? x=δ o/\o.cls= .ref C/\notCls o=μ/\o.dict=d/\o.data= .fields v/\v[1]?=↑T
def gR(T:η):HO:=.ext λh=>∃o t,h.get? T=δ o/\o.data= .fields t/\t[3]?=δ .none
theorem Fn{P:ψ}{h:de}(e:h.get? x=δ o)(c:o.cls= .ref C)(f:notCls o=μ)(g:o.dict=d)(i:o.data= .fields a)(b:a[1]?=↑T):aN P w H h x (ig C d T x):=
 #[#[o,a,e,c,f,g,i,b],#[o,e],λb j #[O,v,E,q] k=>#[O,v,k O E,q]]
theorem xJ{P:ψ}{h:de}(e:h.get? T=δ o)(b:o.data= .fields a)(c:a[3]?=δ .none):aN P w H h T (gR T):=
 #[#[o,a,e,b,c],#[o,e],λd f #[O,t,E,q] k=>#[O,t,k O E,q]]
def gj(P:ψ)(w:bU):pY:=λo H s E e S=>∃x C d T h,e= .ref x/\S.os=s.os/\AllBare S.gens/\Un (lF o) [] H h s.heap S.heap/\fq P w h S.heap/\
 h x=δ (ig C d T x)/\h T=δ (gR T)/\T≠x/\E (.ref C) d h
section
variable {X:Cx}{pins:List (η×hY)}{σ:St}{H:Hp}{s:ι}{x C:η}{d:Option η}
theorem du.hok{fl:ζ}(I:au X pins σ H s)(g:H x=δ (.ext M))(P:s.heap.get? x=δ o)(B:o.cls= .ref C)(D:o.dict=d)(j:o.data= .fields E)(k:1 < E.size)(l:∀b∈G,H b=θ)
  (N:du .none G x o s.heap J):∃T,H T=θ/\T≠x/\s.heap.objs.size<=T/\fq X.prog X.w (af (af H T$ gR T) x$ ig C d T x) J:=by
 let⟨T,Q,R,h,m,F,n,p⟩:=N.ex;let i:H T=θ:=I.hok.fresh h;let r:T≠x:=NA (ji g i);let a:=NB j (·.setIfInBounds 1 (Θ T));refine#[T,i,r,h,λb u e=>?_];by_cases t:b=x
 .subst t;rw[jb]at e;cases e;refine Fn m ((PH _ _).trans B) ?_ ?_ a (by simp [k])
  .unfold notCls;rw[a]
  .let⟨S,U,O,K⟩:=o;simp only at j;subst j;exact D
 .rw[jh t]at e;by_cases f:b=T
  .subst f;rw[jb]at e;cases e;exact xJ F n p
  .rw[jh f]at e;refine(I.hok b u e).stay (λc v A q=>?_) (λc q=>?_) λc V q=>?_
   .let y:c≠x:=by
     rcases A with z |z
     .rw[z];exact t
     .exact jP z g (by intro q;cases q)
    refine N.keep c v (λL=>?_) y q;let:=l c L;rcases A with z |z
    .rw[z,e]at this;cases this
    .rw[z]at this;cases this
   .rw[jh$ jP q g (by intro z;cases z),jh$ ji q i];exact q
   .rw[jh$ jP q g (by intro z;cases z),jh$ ji q i];exact q
theorem du.un{h':de}(I:au X pins σ H s)(hex:X.ex=[])(j:H x=δ (.ext k))(l:H T=θ)(c:s.heap.objs.size<=T)(f:∀b∈p,b∈X.fs∨X.s₀.heap.objs.size<=b)
  (N:du .none p x y s.heap h'):Un X.fs [] X.H₀ (af (af H T$ gR T) x$ ig C d T x) X.s₀.heap h':=by
 let g:∀b,H b=θ->b≠x:=λb e z=>by rw[z,j]at e;cases e
 let r:∀b o,X.s₀.heap.get? b=δ o->b≠T:=λb o e=>Nb (Nh (M4 e)$ Ng I.sz c);let a:∀b:η,b∉X.ex:=λb z=>by rw[hex]at z;cases z
 let t:∀b,H b=θ->b≠T->af (af H T$ gR T) x (ig C d T x) b=θ:=λb e z=>by rw[jh$ g b e,jh z];exact e
 let U:∀b u,H b=δ u->(∀k,u≠ .ext k)->af (af H T$ gR T) x (ig C d T x) b=δ u:=λb u e z=>by rw[jh (λq=>by rw[q,j]at e;cases e;exact z _ Z),jh$ ji e l];exact e
 refine#[λb o e n h _=>?_,λb o e n h _=>?_,λb o e n _=>?_,λb o e _=>?_,λb v e=>U b _ (I.base.tups b v e) (by intro _ q;cases q),λb o u e=>U b _ (I.base.frzs b o u e) (by intro _ q;cases q),λb P e=>?_]
 .refine N.keep b o (λz=>?_) (g b$ I.base.free b o e n$ a b)$ I.base.keep b o e n h$ a b;rcases f b z with q |q
  .exact h q
  .exact absurd (Nh (M4 e) q)$ N4 _
 .let⟨w,q⟩:=I.base.slot b o e n h (a b);let⟨S,Q⟩:=N.slot b _ (g b$ I.base.free b o e n$ a b) q;exact#[S,Q]
 .exact t b (I.base.free b o e n$ a b)$ r b o e
 .let⟨O,q⟩:=I.base.there b o e (a b);by_cases h:b=x
  .let⟨A,_,_,_,i,_⟩:=N.ex;exact#[_,by rw[h];exact i]
  .let⟨w,Q⟩:=N.slot b O h q;exact#[_,Q]
 .let⟨m,q⟩:=I.base.tbls b P e;exact#[m,U b _ q (by intro _ q;cases q)]
end
section
variable {P:ψ}{w:bU}{K:γ}{mg:ρ->Option ζ}{base:de}{N:List ρ}{qual:ρ}{scope:ir}{f:η}{cd:ζ}{A:cc}{outer:List Env}{s₀:ι}{H₀:Hp}{E:XK}
variable {pins:List (η×hY)}{σ:St}{H:Hp}{s:ι}{x C:η}{d:Option η}
theorem xW(I:au (gu (gj P w) P w K mg base N qual scope f cd A outer s₀ H₀ E) pins σ H s)(c:H x=δ (By C d x))
  (h:∀T,H T=θ->E (.ref C) d (af (af H T$ gR T) x$ ig C d T x)):(gu (gj P w) P w K mg base N qual scope f cd A outer s₀ H₀ E).xe (.ref x) s:=by
 obtain⟨⟨O,l,q,t,r,v,m,n⟩,_⟩:=I.hok x _ c;let g:=(bm.mp n).1;refine X9 (base:=base) I.ok.frames I.stack Z l m n λy o=>?_;let⟨T,p,a,i,j⟩:=o.hok (C:=C) (d:=d) (fl:=.none) I c l q r m g λb k=>I.stkFree b k;let u:=o.un (C:=C) (d:=d) I Z c p i λb k=>by
  rcases Φ.mp (I.stkSub b k) with e |e
  .exact .inr (by rw[e];exact I.ok.above)
  .exact .inl e
 exact#[x,C,d,T,_,Z,I.os,I.bare,u,j,jb,by rw[jh a,jb],a,h T p]
theorem au.cleared{X:Cx}(I:au X pins σ H s)(c:H T=δ (gR T))(i:s.heap.get? T=δ O)(j:O.data= .fields t)(k:t[3]?=δ .none):au X pins σ H { s with heap:=eV T s.heap }:=by
 let h:=NB j (·.setIfInBounds 3 β);let g:=ND (hJ (·.setIfInBounds 3 β)) i (Oc h);let:=I.write (x:=T) (e:=T) (o:=gR T) (h':=eV T s.heap) (t':=s.toks) (by rw[c];exact True.intro) (.inl Z) (λb u a q=>(Nj _ _$ NA a).trans q) #[_,g] (xJ g h (by simp [(bm.mp k).1]));let l:af H T (gR T)=H:=by
  funext b;by_cases a:b=T
  .rw[a,jb,c]
  .rw[jh a]
 rw[l]at this;exact this
theorem Bs(I:au (gu (gj P w) P w K mg base N qual scope f cd A outer s₀ H₀ E) pins σ H s)(g:H x=δ (ig C d T x))(n:H T=δ (gR T))(c:T≠x)
  (h:∀t,H t=θ->E (.ref C) d (af (af H t$ gR t) x$ ig C d t x)):(gu (gj P w) P w K mg base N qual scope f cd A outer s₀ H₀ E).xe (.ref x) s:=by
 obtain⟨⟨O,V,o,D,G,F,p,q⟩,_⟩:=I.hok x _ g;obtain⟨⟨J,L,r,u,v⟩,_⟩:=I.hok T _ n;let i:=(bm.mp q).1;let y:=I.cleared n r u v;refine YL (base:=base) I.ok.frames I.stack Z o p q c r u v λM z=>?_;let j:(eV T s.heap).get? x=δ O:=(Nj _ _ c).trans o;let⟨t,B,a,k,l⟩:=du.hok (C:=C) (d:=d) (fl:=.none) y g j D F p i (λb m=>I.stkFree b m) z;let U:=du.un (C:=C) (d:=d) y Z g B k (λb m=>by
  rcases Φ.mp (I.stkSub b m) with e |e
  .exact .inr (by rw[e];exact I.ok.above)
  .exact .inl e) z
 exact#[x,C,d,t,_,Z,I.os,I.bare,U,l,jb,by rw[jh a,jb],a,h t B]
theorem Aw{j:XK}(m:∀x C d T t a,a x=δ (ig C d T x)->a T=δ (gR T)->a t=θ->j (.ref C) d a->E (.ref C) d (af (af a t$ gR t) x$ ig C d t x)):
  dw (gj P w) (gu (gj P w) P w K mg base N qual scope f cd A outer s₀ H₀ E) j:=by
 intro pins σ H s e S I h;let⟨x,C,d,T,a,rfl,os,B,u,c,k,l,i,n⟩:=h;let⟨p,g,D,q,o⟩:=S;obtain rfl:o=s.os:=os;let r:=I.call (h':=p) (g':=g) (d':=D) (t':=q) (ch:=[]) u c B (λb z=>absurd z VW);exact Bs r k l i λt v=>m x C d T t a k l v n
end
section
open PySem.W
variable {prog:ψ}{w:bU}{A:cc}{E:ζ->ι->Prop}{K:γ}{x C:η}{ox:hY}{vs:Array ζ}{env:Env}
theorem YM{ev:Sem ζ}(e:A.handled=θ)
  (h:π (χ prog w) A ev (λv S=>∃x C ox vs,v= .ref x/\K.In S.heap/\tw K C/\typeIn K (.ref C)=δ (.type "type")/\S.heap.get? x=δ ox/\ox.cls= .ref C/\ox.data= .fields vs/\vs[1]?=δ .none/\E (.ref x) S) E s):
  π (χ prog w) A (raiseStmt env (δ ev) θ) Q E s:=by
 unfold raiseStmt;refine MU$ N7 h (λv S a=>?_) λ_ _ z=>z;let⟨x,C,ox,vs,rfl,X,f,i,b,j,c,m,n⟩:=a;let⟨H,g,d,T,os⟩:=S;let L:Looks (χ prog w) H (typeOf$ .ref x) (.ref C):=j▸(VS b).andThen .now;let l:Looks (χ prog w) H (isType$ .ref x) ξ:=by intro u y B D k q;unfold isType loadHead;refine MU$ Tx (k _ _ b) ?_;rw[c];exact MX q
 let _L:=UB (M:=χ prog w) X f.mb;let o:=looks_typeIn (M:=χ prog w) X i;let L4:Looks (χ prog w) H (isInstance (.ref x)$ .type "BaseException") μ:=L.andThen _L;let p:Looks (χ prog w) H (isExcClass$ .ref x) ξ:=by unfold isExcClass;exact l.andThen .now
 let r:Looks (χ prog w) H (raisedInstance$ .ref x) (.ref x):=by unfold raisedInstance;exact L.andThen$ o.andThen (by rw[M7 VU];exact .now)
 let t:Looks (χ prog w) H (excFromValue (.ref x) "exceptions must derive from BaseException") (.ref x):=by unfold excFromValue;exact p.andThen (by rw[Na VU];exact L4.andThen (by rw[M7 Z];exact .now))
 refine MU$ MX ?_;refine MU$ Np$ t.at ?_;dsimp only;refine MU$ l.at ?_;rw[Na VU];refine MU$ r.at ?_;unfold setFlight;refine MU$ MU$ Nw b c m ?_;rw[Na VU];exact MX$ wpAny_raiseNew_none e n
end
def Bz(X:Cx)(W:η->η->Option η->Hp->Prop):Prop:=∀(p:List (η×hY)) (a:St) (H:Hp) (s:ι) (x C:η) (d:Option η),au X p a H s->H x=δ (By C d x)->W x C d H->X.xe (.ref x) s
theorem QF{P:ψ}{K:γ}:
  Bz (gu (gj P w) P w K m b N q s f g A o a c E) (λx C d H=>∀T,H T=θ->E (.ref C) d (af (af H T$ gR T) x$ ig C d T x)):=
 λ_ _ _ _ _ _ _ I e h=>xW I e h
inductive pj(K:γ)(b:η->η->Option η->Hp->Prop)(v:V)(a:Hp):Prop
 |mk(x C d:_)(_:v= .ref x)(_:a x=δ (By C d x))(_:tw K C)(_:typeIn K (.ref C)=δ (.type "type"))(_:b x C d a)
def EN(K:γ)(t:TE)(W:η->η->Option η->Hp->Prop):TS:=λ_u0 a H=>t a H (pj K W)
theorem XF{X:Cx}{e:dr}{t:TE}{P:Pos}{W:η->η->Option η->Hp->Prop}(f:X.calm=μ)(F:Bz X W)(g:PE X e t):PS X (.Raise (δ e) θ P) (EN X.K t W):=by intro p s b H D I h;rw[arm_exec_Raise];refine MU$ Pr ?_;refine YM (K:=X.K) (ev:=do let v <- eval e X.env;standAt P;pure v) (I.ok.hd f)$ MU$ aV (g p s b H _ I h) λu S a=>MU (Pr$ MX ?_);let⟨v,j,i,r,x,C,d,ev,c,k,l,q⟩:=a;subst ev;obtain rfl:u=Θ x:=r;obtain⟨⟨o,m,n,z,A,V,w,y⟩,_⟩:=i.hok x _ c;exact#[x,C,o,V,Z,i.kIn,k,l,m,n,w,y,F p b j S x C d i c q]
section
variable {X:Cx}{pins:List (η×hY)}{σ:St}{H:Hp}{s:ι}{x C:η}{d:Option η}
theorem au.noted{t':Nat}(I:au X pins σ H s)(a:H x=δ (.ext l))(p:s.heap.get? x=δ O)(r:O.cls= .ref C)(t:O.dict=d)(v:O.data= .fields w)(c:1 < w.size)
  (N:du .none (lF X.stack) x O s.heap y):∃T,H T=θ/\T≠x/\au X pins σ (af (af H T$ gR T) x$ ig C d T x) { s with heap:=y,toks:=t' }:=by
 let⟨T,m,f,g,i⟩:=du.hok (C:=C) (d:=d) (fl:=.none) I a p r t v c (λb h=>I.stkFree b h) N;let j:∀b,H b=θ->b≠x:=λb e z=>by rw[z,a]at e;cases e
 let U:∀b u,H b=δ u->(∀l,u≠ .ext l)->af (af H T$ gR T) x (ig C d T x) b=δ u:=λb u e z=>by rw[jh (λq=>by rw[q,a]at e;cases e;exact z _ Z),jh$ ji e m];exact e
 refine#[T,m,f,I.call (g':=s.gens) (d':=s.drawn) (ch:=[]) ?_ i I.bare (λb z=>absurd z VW)];refine#[λb o e n h _=>N.keep b o h (j b n) e,λb o e n _ _=>N.slot b o (j b n) e,λb o e n _=>?_,λb o e _=>?_,λb A e=>U b _ e (by intro _ q;cases q),λb o u e=>U b _ e (by intro _ q;cases q),λb P e=>#[(ε []),by rw[U b _ e (by intro _ q;cases q)];simp]]
 .rw[jh$ j b n,jh$ Nb$ Nh (M4 e) g];exact n
 .by_cases h:b=x
  .let⟨B,_,_,_,k,_⟩:=N.ex;exact#[_,by rw[h];exact k]
  .let⟨S,q⟩:=N.slot b o h e;exact#[_,q]
end
noncomputable abbrev Cx.mark(X:Cx)(e:ζ)(xe:ζ->ι->Prop):Cx:={ X with A:=X.A.mark (δ e),calm:=ξ,xe:=xe }
theorem au.mark{X:Cx}(I:au X p a H s)(e:ζ)(x:ζ->ι->Prop):au (X.mark e x) p a H s:=
 #[#[I.ok.mod,I.ok.kind,I.ok.glob,I.ok.blt,I.ok.above,I.ok.inj,I.ok.has,I.ok.cab,(λz=>nomatch (show ξ=μ from z)),I.ok.frames,I.ok.stk,I.ok.exf,I.ok.bs,I.ok.bsz,I.ok.noex,I.ok.exfs,I.ok.funs,I.ok.frf],I.os,I.bare,I.base,I.loc,I.cell,I.free,I.freeC,I.pin,I.hok,I.len]
theorem au.unmark{X:Cx}(o:X.Ok)(I:au (X.mark e x) p a H s):au X p a H s:=
 #[o,I.os,I.bare,I.base,I.loc,I.cell,I.free,I.freeC,I.pin,I.hok,I.len]
section
open PySem.W
theorem K9{K:γ}(X:K.In h)(a:h.get? x=δ o)(b:o.cls= .ref C)(H:clsIn K B≠θ)(tB:typeIn K (.ref B)=δ (.type "type"))(m:mroIn K B (.type "BaseException")=δ μ)(c:mroIn K C (.ref B)=δ μ):
  Looks M h (excMatches (.ref x)$ .ref B) μ:=by
 let L:Looks M h (typeOf$ .ref x) (.ref C):=b▸(VS a).andThen .now;let l:=looks_typeIn (M:=M) X tB;let _L:Looks M h (isInstance (.ref B)$ .type "tuple") ξ:=l.andThen (UP tc_notTuple);let d:Looks M h (isType$ .ref B) μ:=by
  unfold clsIn at H;split at H
  .rename_i e
   intro A Q E s k q;unfold isType loadHead;exact MU$ Tx (k _ _$ X _ _ e)$ MX q
  .exact absurd Z H
 let L4:Looks M h (isExcClass$ .ref B) μ:=by unfold isExcClass;exact d.andThen (by rw[M7 Z];exact UB X m)
 let f:=UB (M:=M) X c;intro A Q E s k q;unfold excMatches;refine MU$ _L A _ E s k ?_;rw[Na VU];refine MU$ MX ?_;dsimp only;refine MU ?_;rw[O2];refine MU$ MU$ L4 A _ E s k ?_;simp only[PY,Nf,Oj];refine MX ?_;dsimp only;rw[Ra];refine MX ?_;refine MU$ L A _ E s k ?_;refine MU ?_;rw[O2];refine MU$ MU$ f A _ E s k ?_;simp only[P7];refine MX$ MX ?_;exact MX q
end
abbrev XR:=η->η->Option η->η->Hp->Prop
def XW(X:Cx)(p:List (η×hY))(a:St)(R:XR)(e:ζ)(s:ι):Prop:=
 ∃x C d T H,e= .ref x/\au X p a H s/\H x=δ (ig C d T x)/\H T=δ (gR T)/\T≠x/\R x C d T H
abbrev I9:=St->Hp->VK->XR->Prop
abbrev K':=bV->XR->St->Hp->Prop
def Mg(X:Cx)(e:dr)(t:I9):Prop:=
 ∀(p:List (η×hY)) (s:ι) (a:St) (H:Hp) (Q:VK) (R:XR),au X p a H s->t a H Q R->π (χ X.prog X.w) X.A (eval e X.env) (EP X p a Q) (XW X p a R) s
def Mj(X:Cx)(st:cv)(t:K'):Prop:=
 ∀(p:List (η×hY)) (s:ι) (a:St) (H:Hp) (D:bV) (R:XR),au X p a H s->t D R a H->π (χ X.prog X.w) X.A (exec st X.env) (SP X p D) (XW X p a R) s
def Mx(R:XR):XK:=λc d H=>∀x C T,c= .ref C->H x=δ (ig C d T x)->H T=δ (gR T)->T≠x->R x C d T H
def Ff(s:Sp)(d:List V)(t:TA):I9:=λa H Q R=>t a H λv h=>s (v++d) h Q (Mx R)
section
variable {X:Cx}{k:Nat}{f:η}{fd:hG}{ps:List ρ}{sp:Sp}{dvs:List V}{ds:List ζ}{x:ρ}{p pos:Pos}{e:dr}{es:List dr}{t:TA}{te:I9}
theorem vJ(F:ah X.prog X.w X.K X.mg X.base (gj X.prog X.w) k f fd ps sp)(y:bJ k X.A)(D:Gl X x)(E:X.mg x=↑f)(G:iv X.K (.ref f)=μ)(J:aC X.K fd ps ds)(L:aD dvs ds)
  (M:PA X.nox (e::es) t) (g:(x==("__debug__":ρ))=ξ:=by decide) (N:Δ (e::es) X.env=(ξ,eval e X.env)::Δ es X.env:=by rfl) (j:(fJ pos$ Δ es X.env).any (·.1)=ξ:=by rfl):
  Mg X (.Call (.Name x p) (e::es) [] pos) (Ff sp dvs t):=by
 intro P s O H Q R I h;refine NT$ zJ I D E ?_ g;refine Sv (h₀:=X.base) I.ok.mod.kin G (N7 (M pos P s O H _ (I.wish _) h) (λU S #[v,W,i,r,q]=>#[i.kIn,?_]) λ_ _ z=>z.elim) N j;let i:=i.unwish;let m:aD (v++dvs) (U++ds):=r.append L;let Y:(U++ds).length=ps.length:=by rw[<- m.length];exact F.len _ _ _ _ q
 refine TB$ Pj (F.run X.A X.stack S W #[U,[]] (U++ds) (v++dvs) Q (Mx R) y i.env0 (J S U i.kIn Y) m q) λr s' a=>?_;cases r with
 |error e=>let⟨x,C,d,T,H',rfl,os,B,un,l,n,o,c,hw⟩:=a;exact#[x,C,d,T,H',Z,i.call' os un l B (λb z=>absurd z VW),n,o,c,hw x C T Z n o c]
 |ok fl=>
  cases fl with
  |ret u=>exact i.after a
  |next=>exact False.elim a
  |brk=>exact False.elim a
  |cont=>exact False.elim a
theorem AD{i:Nat}{y:ρ}{P:Pos}(d:X.N.Nodup)(g:X.N[i]?=δ y)(j:BC X.env.scope y)(l:Mg X e te)(m:swapsWith e (δ$ .Name y P) pos.line X.env=pure ξ:=by rfl)(n:X.fn y=μ∨X.env.scope.names.lookup y=δ .local:=by first |exact .inl Z |exact .inr Z |assumption):
  Mj X (.Assign [.Name y P] e pos) (λD R b H=>te b H (λv c=>D.nx (b.set i$ δ v) c) R):=by
 intro a s b H D R I h;refine U3 (aV (l a s b H _ R I h) λv S z=>?_) m;let⟨y,c,o,r,q⟩:=z;exact Ji o d g j r (λw u=>#[_,c,u,q]) n
end
theorem aQ.ok1{P:ψ}{K:γ}{st:cv}{f:η}{k:Nat}{a:Sp}(F:aQ K x q st f g)(S:ai N p (ae st))
  (h:∀(c:ζ) (A:cc) (o:List Env) (s:ι) (H:Hp) (v:List V) (Q:VK) (E:XK),bJ k (A.deeper$ envOfC q (ae st) s.heap.objs.size f c)->a v H Q E->
   ∃t,mY (gu (gj P w) P w K m b N q (ae st) f c A o s H E) (bo st) t/\t { nx:=λ_ i=>Q .non i,rt:=Q } (gO N v) H)(len:∀v H Q E,a v H Q E->v.length=p.length:=by rintro _ _ _ _⟨⟩;subst_vars;rfl):ah P w K m b (gj P w) (k+1) f g p a:=by
 let⟨l,n,kV,D,r,u,c,C,O,rfl,lk,d⟩:=F.ex;exact BS lk d S len λA o s H v Q E j e=>h c A o s H v Q E j e
end _L
namespace _L
open PySem PySem.Spec PyProof.Rows PySem.SeqAt
noncomputable def uh(x y:List V):Bool:=(dB$ min x.length y.length).all (λj=>nZ (x.getD j .non) (y.getD j .non))&&x.length==y.length
section
variable {X:Cx}
theorem sO(r:aD x i)(R:aD y I)(f:x.all dh=μ)(F:y.all dh=μ)(j:Nat)(c:j < i.toArray.size)(d:j < I.toArray.size):EqAt A s i.toArray[j] I.toArray[j] (nZ (x.getD j .non)$ y.getD j .non):=by
 let L:=r.length;let p:=R.length;let H:j < x.length:=by simp at c;omega
 let h:j < y.length:=by simp at d;omega
 let a:x[j]?=δ x[j]:=MV H;let b:y[j]?=δ y[j]:=MV h;let⟨u,q,g⟩:=r.get a;let⟨U,Q,k⟩:=R.get b;let l:=List.all_eq_true.mp f _ (PQ H);let m:=List.all_eq_true.mp F _ (PQ h);let E:i.toArray[j]=u:=by let⟨_,e⟩:=ν.mp q;simpa using e
 let n:I.toArray[j]=U:=by let⟨_,e⟩:=ν.mp Q;simpa using e
 let G:x.getD j .non=x[j]:=by rw[NZ,a];rfl
 let o:y.getD j .non=y[j]:=by rw[NZ,b];rfl
 rw[E,n,G,o];exact uf g k l m
theorem Eg(f:X.A.units < cLine):fh X (compareOp .Eq) (λx y H Q=>∃a b c Y,x= .ref a/\y= .ref b/\aB X.K H a c/\aB X.K H b Y/\c.all dh=μ/\Y.all dh=μ/\Q (.bl$ uh c Y) H):=by
 intro p s z H x y v u Q I g k h;let⟨a,b,c,Y,rfl,rfl,l,m,F,n,q⟩:=h;cases g;cases k;let⟨i,r,P,_⟩:=I.tuple l;let⟨d,R,o,_⟩:=I.tuple m;refine eq_tupleAt (e:=λj=>nZ (c.getD j .non) (Y.getD j .non)) (show s.heap.IsTuple a i.toArray from P) (show s.heap.IsTuple b d.toArray from o) f (λj t w=>sO r R F n j t w) ?_;let e:((dB$ min i.toArray.size d.toArray.size).all (λj=>nZ (c.getD j .non) (Y.getD j .non))&&i.toArray.size==d.toArray.size)=uh c Y:=by unfold uh;rw[M1,M1,<- r.length,<- R.length]
 rw[e];exact#[.bl _,H,I,Z,q]
end
end _L
namespace _L
open PySem PySem.Spec PyProof.Rows
section
variable {prog:ψ}{w:bU}{A:cc}{E:ζ->ι->Prop}{s:ι}
theorem YN{Q:Nat->ι->Prop}(H:n≠0)(h:∀i d,i < n->Q i { s with drawn:=d }):π (χ prog w) A (choose a n) Q E s:=by intro Γ p _;show Sem.wp _ Γ (.choose a n .pure) _ _ p s;rw[Sem.wp_choose];exact#[H,h _ _$ VR _$ Nat.pos_of_ne_zero H]
theorem Ya{α:Type}:∀(n:Nat) (xs:List α) (s:ι) {Q:List α->ι->Prop},xs.length=n->(∀ys d,ys.Perm xs->Q ys { s with drawn:=d })->
  π (χ prog w) A (drawOrder n xs) Q E s:=by
 intro n;induction n with
 |zero=>
  intro xs s Q hl h;cases xs with
  |nil=>unfold drawOrder;exact MX$ h [] s.drawn .rfl
  |cons _ _=>cases hl
 |succ n ih=>
  intro xs s Q hl h;cases xs with
  |nil=>cases hl
  |cons x r=>unfold drawOrder;refine MU$ YN VW λi d hi=>?_;let hg:(x::r)[i]?=δ ((x::r)[i]'hi):=MV hi;rw[hg];dsimp only;refine MU$ ih _ _ (by rw[SW hi,hl];rfl) λys d' hp=>MX (h _ d' ?_);refine(List.Perm.cons _ hp).trans ?_;rw[Sm];refine List.perm_middle.symm.trans ?_;rw[Ov,O4]
end
noncomputable def mO:ζ->ρ
 | .str x _=>x
 |_=>#[(ε [])]
theorem Qa(t:SetTable)(n:Nat):(t.orStandIn n).led=t.led:=by
 unfold SetTable.orStandIn;split
 .rfl
 .rfl
theorem YO(t:SetTable)(e:Array (Int×ζ))(h:Int)(x:ζ):(layNew t e h x).2.1.led=t.led:=by
 unfold layNew;split
 .exact Qa _ _
 .rfl
theorem Xi(t:SetTable)(E:Array (Int×ζ))(n:Nat):(relayAll t E n).2.1.led=t.led:=by
 unfold relayAll;split
 .rename_i T o e
  unfold SetTable.relaid SetTable.laid at e;cases h:SetTable.layClean (SetTable.sizeAbove n - 1) (E.map (·.1)) with
  |none=>rw[h]at e;cases e
  |some O=>rw[h]at e;cases e;dsimp only;split<;>rfl
 .rfl
theorem KO(t:SetTable)(E:Array (Int×ζ))(n:Nat)(H:t.plain=ξ):(relayAll t E n).2.1.plain=ξ:=by
 unfold relayAll;split
 .rename_i T o e
  unfold SetTable.relaid SetTable.laid at e;cases h:SetTable.layClean (SetTable.sizeAbove n - 1) (E.map (·.1)) with
  |none=>rw[h]at e;cases e
  |some O=>
   rw[h]at e;cases e;dsimp only;split
   .exact H
   .rfl
 .rfl
def c8(p:ψ)(w:bU)(h:de)(a:η)(L:List ρ):Prop:=
 ∃o E b t,h.get? a=δ o/\o.ExactSet/\o.data= .set E b t/\ElemsOf (cJ p w) E.toList/\(E.toList.map λe=>mO e.2).Perm L/\L.Nodup
  /\E.size < scanBound/\t.fits E.size=μ/\t.led=!(w.params.followText "set-order")/\(t.plain=ξ∨E.size=0)
theorem c8.at{H:de}{a:η}(x:c8 p w h a L)(e:∀o,h.get? a=δ o->H.get? a=δ o):c8 p w H a L:=
 let #[o,E,b,t,c,r]:=x;#[o,E,b,t,e o c,r]
section
variable {prog:ψ}{w:bU}{A:cc}{E:ζ->ι->Prop}{s:ι}
theorem JS{a:Array (Int×ζ)}(b:ElemsOf (cJ prog w) a.toList)(x:ρ):
  (a.toList.findIdx? (λe=>(cJ prog w).is x e.2)=θ↔¬x∈a.toList.map λe=>mO e.2):=by
 rw[List.findIdx?_eq_none_iff];constructor
 .intro h m;let⟨e,H,f⟩:=dN.mp m;obtain⟨⟨k,g,_⟩,_⟩:=b e H;let⟨t,c⟩:=PZ g;let q:=h e H;rw[c]at f q;let d:k=x:=f;subst d;let Q:(cJ prog w).is k (.str k t)=μ:=strKind_is prog w k t;rw[Q]at q;cases q
 .intro h e H;cases q:(cJ prog w).is x e.2 with
  |false=>rfl
  |true=>let⟨t,c⟩:=PZ q;exact absurd (dN.mpr #[e,H,by rw[c];rfl]) h
theorem JT{b:Array (Int×ζ)}{T:SetTable}(d:s.heap.get? a=δ o)(f:o.ExactSet)(h:o.data= .set p c t)
  (g:ElemsOf (cJ prog w) b.toList) (i:(b.toList.map λe=>mO e.2).Perm L) (j:L.Nodup) (k:b.size < scanBound) (l:T.fits b.size=μ)
  (m:T.led=!(w.params.followText "set-order")) (n:T.plain=ξ):
  (s.heap.update a$ mF b T).get? a=δ { o with data:=.set b (c+1) T }/\c8 prog w (s.heap.update a$ mF b T) a L:=by
 let H:(s.heap.update a$ mF b T).get? a=δ { o with data:=.set b (c+1) T }:=by let q:=ND (mF b T) d (by rw[putSet_of b T h];rfl);rwa [putSet_of b T h]at q
 exact#[H,_,b,c+1,T,H,f,Z,g,i,j,k,l,m,.inl n]
theorem Yb{Q : Bool -> ι -> Prop}(hS : c8 prog w s.heap a L)(room : L.length + 1 < scanBound)
    (h : ∀ b R l, fy a s.heap R -> c8 prog w R a (if x ∈ L then L else L ++ [x]) -> s.toks <= l -> Q b { s with heap := R, toks := l }) :
    π (χ prog w) A (setAdd a$ .str x f) Q E s := by
  obtain ⟨o, g, ep, t, n, U, u, H, v, B, hb, V, X, Y⟩ := hS;let d : (cJ prog w).is x (.str x f) = μ := strKind_is prog w x f;let C : g.size = L.length := by rw [<- v.length_eq, MY, Nn]
  unfold setAdd;refine Np$ MU ((cJ prog w).pyHash (k := x) d ?_);unfold setAddHashed setAddHashedIn;refine Np$ MU$ OE (s := { s with toks := s.toks + 1 }) n u V ?_;dsimp only;rw [byScan_of Z hb H];simp only [↓reduceIte];unfold setAddByScan;refine MU$ MU$ OV$ MU$ wpAny_setScan_of (knd := cJ prog w) d n u V H ?_;cases hr : List.findIdx? (λe => (cJ prog w).is x e.2) g.toList with
  | some j =>
    dsimp only;let D : x ∈ L := by refine Decidable.byContradiction λhn => ?_;let q := (JS (prog := prog) (w := w) H x).mpr λm => hn (v.mem_iff.mp m);rw [q] at hr; cases hr
    let q := h ξ s.heap (s.toks + 1) (Tc a s.heap) (by rw [M7 D]; exact #[o, g, ep, t, n, U, u, H, v, B, hb, V, X, Y]) (NW _);exact MX$ MX q
  | none =>
    dsimp only;let D : ¬ x ∈ L :=λm => (JS (prog := prog) (w := w) H x).mp hr (v.mem_iff.mpr m);let W : ∀ (b : Bool) {S : ι} {Q' : Unit -> ι -> Prop}, Q' () S -> π (χ prog w) A (match b with | true => rule "set.scan.the-table-gave-way" | false => pure ()) Q' E S := by
      intro b S Q' hq;cases b
      · exact MX hq
      · exact OV hq
    let p := layNew_perm t g ((cJ prog w).hash x) (.str x f);let M := layNew_fits t g ((cJ prog w).hash x) (.str x f);let O := YO t g ((cJ prog w).hash x) (.str x f);generalize layNew t g ((cJ prog w).hash x) (.str x f) = N at p M O ⊢;obtain ⟨c, t1, w0, g4⟩ := N;dsimp only at p M O ⊢;rw [T7] at p;let F : ElemsOf (cJ prog w) c.toList := (H.push d Z).perm p;let P : (c.toList.map λe => mO e.2).Perm (L ++ [x]) := by refine (p.map _).trans ?_;rw [Nl];exact v.append_right _
    let G : (L ++ [x]).Nodup := List.nodup_append.mpr #[B, by simp,λy hy z hz e => by rw [P9] at hz; subst hz; subst e; exact D hy];let iZ : c.size = g.size + 1 := by rw [<- Nn, p.length_eq, MZ, Nn]; rfl
    let b1 : c.size < scanBound := by rw [iZ, C]; exact room
    refine MU$ W _ ?_;let i : ∀ T : SetTable, T.fits c.size = μ -> T.led = t.led -> T.plain = ξ ->
        π (χ prog w) A (do
          storeSet a c T
          if (!w0 && T.tooFull) = μ then do
              (match (relayAll T c$ SetTable.grown c.size).2.2 with | true => rule "set.scan.the-table-gave-way" | false => pure ())
              storeSet a (relayAll T c$ SetTable.grown c.size).1 (relayAll T c$ SetTable.grown c.size).2.1
              pure (δ μ)
            else pure (δ μ)) (λr s' => r = δ μ /\ Q μ s') E { s with toks := s.toks + 1 } := by
      intro T g1 g2 g3;refine MU$ U0 (s := { s with toks := s.toks + 1 }) n u ?_$ RJ b1;obtain ⟨o1, S1⟩ := JT (s := s) (prog := prog) (w := w) n U u F P G b1 g1 (g2.trans X) g3;let I := OA s.heap a (mF c T);split
      · have J := relayAll_perm T c (SetTable.grown c.size)
        let f2 := relayAll_fits T c (SetTable.grown c.size);let l2 := Xi T c (SetTable.grown c.size);let q2 := KO T c (SetTable.grown c.size) g3;generalize relayAll T c (SetTable.grown c.size) = Z at J f2 l2 q2 ⊢;obtain ⟨K, t3, g0⟩ := Z;dsimp only at J f2 l2 q2 ⊢;let cp : K.size = c.size := by rw [<- Nn, J.length_eq, Nn]
        let b2 : K.size < scanBound := by rw [cp]; exact b1
        refine MU$ W _$ MU$ U0 (s := { s with heap := s.heap.update a (mF c T), toks := s.toks + 1 }) o1 Z ?_$ RJ b2;obtain ⟨_, S2⟩ := JT (s := { s with heap := s.heap.update a (mF c T) }) (prog := prog) (w := w) o1 U Z (F.perm J) ((J.map _).trans P) G b2 f2 (l2.trans$ g2.trans X) q2;exact MX #[Z, h μ _ _ (I.trans$ OA _ a _) (by rw [Na D]; exact S2) (NW _)]
      · exact MX #[Z, h μ _ _ I (by rw [Na D]; exact S1) (NW _)]
    split
    · rename_i tp
      refine MU ?_;rw [hashByValue_scannable 8 (x := .str x f) Z];refine MX ?_;let e0 : plainKind (.str x f) = ξ := rfl;rw [e0];simp only [Nf, ↓reduceIte];refine N7 (i { t1 with plain := ξ } (SetTable.fits_plain_off M) O Z) (λr s' q => ?_) λ_ _ z => z;obtain ⟨rfl, q⟩ := q;exact MX q
    · rename_i tp
      refine MU$ MX ?_;simp only [↓reduceIte];refine N7 (i t1 M O (by simpa using tp)) (λr s' q => ?_) λ_ _ z => z;obtain ⟨rfl, q⟩ := q;exact MX q
end
noncomputable def bG(w:bU):hY:={ cls:=.type "set",dict:=θ,data:=.set (ε []) 0 (.fresh 0 0 (!(w.params.followText "set-order"))) }
section
variable {prog:ψ}{w:bU}{A:cc}{E:ζ->ι->Prop}{s:ι}
theorem Yc{h:de}(e:h.get? a=δ (bG w)):c8 prog w h a []:=
 #[_,(ε []),0,_,e,#[Z,Z,Z],Z,λ_ z=>by simp at z,VW,RX,(by decide:(0:Nat) < scanBound),Z,Z,.inr Z]
theorem Qb(a:ζ){G:ζ->ι->Prop}(h:G (.ref s.heap.objs.size) { s with heap:=s.heap.push (bG w) }):
  kw (χ prog w) A (.call (.builtin "set.__new__") #[[.type "set",a],[]]) (wants G E) s:=by
 refine Tq ?_;show π _ A.in1 (do checkBuiltinCall "set.__new__" _;again (.builtin "set.__new__" _)) _ _ s;refine MU$ RG (PySem.F.newCall_set_1 a)$ MX #[OX Ti _,Op PySem.F.entry_set_new ?_];rw[N5 Ti];unfold ef.«set.__new__» Builtin.Frozenset.newClass;let o:=sub_set_self;let⟨H,g,d,t,os⟩:=s;dsimp only;wp_walk;refine Ph$ MX ?_;dsimp only;simp only[newObj];exact MU$ wpAny_alloc$ MX$ MX h
end
theorem StrsAre.at':∀{V:List ζ} {s:List ρ},StrsAre V s->∀(i:Nat) (v:ζ),V[i]?=δ v->∃x t,s[i]?=δ x/\v= .str x t
 |_,_,.nil,i,v,h=>by simp at h
 |_,_,.cons y t r,0,v,h=>by simp at h;exact#[y,t,Z,h.symm]
 |_,_,.cons y t r,i+1,v,h=>by simp only[List.getElem?_cons_succ]at h;let⟨x,T,e,E⟩:=StrsAre.at' r i v h;exact#[x,T,by simpa using e,E]
theorem StrsAre.len:∀{v:List ζ} {s:List ρ},StrsAre v s->s.length=v.length
 |_,_,.nil=>rfl
 |_,_,.cons _ _ r=>by simp [StrsAre.len r]
theorem kf:Slot "set_iterator" "__next__" "set_iterator.__next__":=by
 refine .of (owner:="set_iterator") (n:="__next__") ?_ VX VX VX ?_ ?_
 .rw[Oo,NM];kernel_rfl
 .first |exact .inl VX |exact .inr VX
 .rw[OD];kernel_rfl
theorem qm:Slot "set_iterator" "__iter__" "set_iterator.__iter__":=by
 refine .of (owner:="set_iterator") (n:="__iter__") ?_ VX VX VX ?_ ?_
 .rw[Oo,NM];kernel_rfl
 .first |exact .inl VX |exact .inr VX
 .rw[OD];kernel_rfl
theorem JL:entryFor table "set_iterator.__next__"=δ ef.«set_iterator.__next__»:=RT (by kernel_rfl)
theorem JM:entryFor table "set_iterator.__iter__"=δ ef.«dict_keyiterator.__iter__»:=by refine Sc (id':="dict_keyiterator.__iter__") ?_ Z VX ?_<;>kernel_rfl
theorem JY:entryFor table "set.__iter__"=δ ef.«frozenset.__iter__»:=by refine Sc (id':="frozenset.__iter__") ?_ Z VX ?_<;>kernel_rfl
theorem JZ(a:ζ):argsOk "set_iterator.__next__" #[[a],[]]:=by unfold argsOk;kernel_rfl
theorem J1(a:ζ):argsOk "set_iterator.__iter__" #[[a],[]]:=by unfold argsOk;kernel_rfl
def cf(h:de)(I:η)(f:ζ)(i:Nat)(S:η)(n e:Nat):Prop:=
 ∃o,h.get? I=δ o/\o.cls= .type "set_iterator"/\o.data= .fields (ε [f,.int i 0,.ref S,.int n 0,.int e 0])
theorem cf.at{H:de}{i:Nat}{S:η}(x:cf h I f i S n E)(e:∀o,h.get? I=δ o->H.get? I=δ o):cf H I f i S n E:=
 let #[o,a,r]:=x;#[o,e o a,r]
theorem cf.is{s:ι}{S:η}(x:cf s.heap I f i S n e):s.TypeIs (.ref I) "set_iterator":=let #[o,h,H,_]:=x;#[o,h,H]
section
variable {prog:ψ}{w:bU}{A:cc}{E:ζ->ι->Prop}{s:ι}
theorem J4{c:Type}{Q:c->ι->Prop}(d:A.handled=θ)
  (h:∀H e,(∀b o,s.heap.get? b=δ o->H.get? b=δ o)->Shared.TypeIs { s with heap:=H } e "StopIteration"->E e { s with heap:=H }):
  π (χ prog w) A (do raiseNew (<- newExc (.type "StopIteration") []):Sem c) Q E s:=by
 refine MU ?_;simp only[newExc,newTuple];refine MU$ NF ?_ (by size_fits);refine MU (m:=firstArgMember _ _)$ RG (a:=β) ?_ ?_
 .first |rfl | (simp only[firstArgMember];rfl)
 refine NF ?_ (by size_fits);simp only[raiseNew];refine MU$ wpAny_handled ?_;rw[d];refine MU$ MX$ wpAny_throw$ h _ _ (λb o e=>MW _ (MW _ e)) ?_;exact#[_,M3 _ Z,Z]
theorem J5{S:η}(H:cf s.heap I f i S n c)
  (h:π (χ prog w) A.in1 (ef.«set_iterator.__next__» #[[.ref I],[]]) (λF a=>∃v,F= .done (.ret v)/\Q (δ v) a) (λe a=>a.TypeIs e "StopIteration"/\Q θ a) s):
  π (χ prog w) A (pyNext$ .ref I) Q E s:=by
 unfold pyNext;refine MU$ Pu$ NE (name:=Str.ofString "__next__") H.is kf$ NC kf H.is JL ?_$ JZ _;refine N7 h (λF a q=>?_) λe a q=>?_
 .let⟨v,e,q⟩:=q;exact#[v,e,MX q]
 .exact MU$ O0 (T:="StopIteration") (b:=μ) q.1 Sb$ MX q.2
theorem QG{I:η}{f:ζ}{i:Nat}{S:η}{n a:Nat}{o:hY}{v:Array ζ}(H:s.heap.get? I=δ o)(b:o.cls= .type "set_iterator")(h:o.data= .fields v)(k:Nat)(x:ζ)
  (e:v.setIfInBounds k x=(ε [f,.int i 0,.ref S,.int n 0,.int a 0])):cf (s.heap.update I$ hJ (·.setIfInBounds k x)) I f i S n a:=
 #[_,ND _ H$ Oc$ NB h _,(PH ..).trans b,by rw[NB h,e]]
theorem YQ{I S P:η}{i:Nat}{O j:hY}{e:Array (Int×ζ)}{a:Nat}{t:SetTable}{k:Array ζ}{c p:Nat}{hx:Int}{x:ζ}{Q:Option ζ->ι->Prop}
  (h:cf s.heap I (.ref P) i S e.size a) (l:s.heap.get? S=δ O) (H:O.data= .set e a t) (m:t.fits e.size=μ) (n:s.heap.get? P=δ j) (b:j.data= .seq k c)
  (q:k[i]?=δ (.int p 0)) (r:e[p]?=δ (hx,x)) (u:∀d,cf d I (.ref P) (i+1) S e.size a->fy I s.heap d->Q (δ x) { s with heap:=d }):
  π (χ prog w) A (pyNext$ .ref I) Q E s:=by
 refine J5 h ?_;let⟨o,f,v,g⟩:=h;show π _ _ (fieldsOf (.ref I) >>= _) _ _ s;refine MU$ R9 f g ?_;dsimp only;refine MU$ Pp l H m ?_;simp only[Oq,Nf,↓reduceIte];refine MU$ N6 n b ?_;simp only[NQ,q];unfold setNextDrawn;refine MU$ MU$ OE l H m ?_;simp only[Oq,Nf,↓reduceIte,r];refine MX ?_;refine MU$ NR f g VW$ MX #[x,Z,u _ ?_$ OA ..];exact QG f v g _ _ (by simp [rawInt])
theorem KP(q:A.handled=θ){I S P:η}{i:Nat}{O l:hY}{d:Array (Int×ζ)}{m:Nat}{t:SetTable}{p:Array ζ}{c:Nat}{Q:Option ζ->ι->Prop}
  (h:cf s.heap I (.ref P) i S d.size m) (r:s.heap.get? S=δ O) (f:O.data= .set d m t) (u:t.fits d.size=μ) (v:s.heap.get? P=δ l) (g:l.data= .seq p c)
  (x:p[i]?=θ) (y:∀H,(∀b o,b≠I->s.heap.get? b=δ o->H.get? b=δ o)->Q θ { s with heap:=H }):
  π (χ prog w) A (pyNext$ .ref I) Q E s:=by
 refine J5 h ?_;let⟨o,j,B,a⟩:=h;show π _ _ (fieldsOf (.ref I) >>= _) _ _ s;refine MU$ R9 j a ?_;dsimp only;refine MU$ Pp r f u ?_;simp only[Oq,Nf,↓reduceIte];refine MU$ N6 v g ?_;simp only[NQ,x];refine MU$ NR j a VW ?_;refine MU$ NR (ND _ j$ Oc$ NB a _) (NB a _) VW ?_;refine J4 (s:={ s with heap:=_ }) (by simpa using q) λH e k T=>#[T,y H λb o n z=>k b o ?_];exact(Nj _ _$ NA n).trans ((Nj _ _$ NA n).trans z)
end
section
variable {prog:ψ}{w:bU}{A:cc}{E:ζ->ι->Prop}{s:ι}
theorem QH{I S:η}{i j nx:Nat}{O:hY}{e:Array (Int×ζ)}{a:Nat}{t:SetTable}{x:ζ}{Q:Option ζ->ι->Prop}
  (h:cf s.heap I (.int j 0) i S e.size a) (f:s.heap.get? S=δ O) (b:O.data= .set e a t) (k:t.fits e.size=μ)
  (l:∀(q:Option (ζ×Nat)->ι->Prop) m,q (δ (x,nx)) s->π (χ prog w) A.in1 (setNext S j i a) q m s)
  (n:∀c,cf c I (.int nx 0) (i+1) S e.size a->fy I s.heap c->Q (δ x) { s with heap:=c }):
  π (χ prog w) A (pyNext$ .ref I) Q E s:=by
 refine J5 h ?_;let⟨o,d,p,H⟩:=h;show π _ _ (fieldsOf (.ref I) >>= _) _ _ s;refine MU$ R9 d H ?_;dsimp only;refine MU$ Pp f b k ?_;simp only[Oq,Nf,↓reduceIte];simp only[NQ];refine MU$ l _ _ ?_;dsimp only;refine MU$ NR d H VW ?_;let g:=ND (hJ (·.setIfInBounds 0 (rawInt nx))) d (Oc$ NB H _);let D:=NB H (·.setIfInBounds 0 (rawInt nx));refine MU$ NR g D VW$ MX #[x,Z,n _ ?_ ((OA ..).trans$ OA ..)];exact QG (s:={ s with heap:=_ }) g ((PH ..).trans p) D _ _ (by simp [rawInt])
theorem qI(l:A.handled=θ){I S:η}{i j:Nat}{O:hY}{a:Array (Int×ζ)}{c:Nat}{t:SetTable}{Q:Option ζ->ι->Prop}
  (h:cf s.heap I (.int j 0) i S a.size c) (m:s.heap.get? S=δ O) (d:O.data= .set a c t) (n:t.fits a.size=μ)
  (p:∀(q:Option (ζ×Nat)->ι->Prop) r,q θ s->π (χ prog w) A.in1 (setNext S j i c) q r s)
  (u:∀H,(∀b o,b≠I->s.heap.get? b=δ o->H.get? b=δ o)->Q θ { s with heap:=H }):
  π (χ prog w) A (pyNext$ .ref I) Q E s:=by
 refine J5 h ?_;let⟨o,f,y,g⟩:=h;show π _ _ (fieldsOf (.ref I) >>= _) _ _ s;refine MU$ R9 f g ?_;dsimp only;refine MU$ Pp m d n ?_;simp only[Oq,Nf,↓reduceIte];simp only[NQ];refine MU$ p _ _ ?_;dsimp only;refine MU$ NR f g VW ?_;refine J4 (s:={ s with heap:=_ }) (by simpa using l) λH e k T=>#[T,u H λb o v x=>k b o ?_];exact(Nj _ _$ NA v).trans x
theorem Ju(a:w.params.followText "set-order"=μ){S:η}(b:s.heap.get? S=δ o)(H:o.data= .set c d t)
  (f:t.fits c.size=μ) {Q:Option (ζ×Nat)->ι->Prop} (h:Q (((pickOrder (w.params.setOrder S d) c)[i]?).map λe=>(e.2,j)) s):
  π (χ prog w) A (setNext S j i d) Q E s:=by
 unfold setNext;refine MU$ OE b H f ?_;dsimp only;unfold setsByText;refine MU$ MU$ Ph$ MX ?_;dsimp only;rw[show(χ prog w).w.params.followText "set-order"=_ from a];simp only[↓reduceIte,Oq,Nf];unfold setWalk;refine MU$ MU$ OE b H f ?_;dsimp only;unfold setsByText;refine MU$ MU$ Ph$ MX ?_;dsimp only;rw[show(χ prog w).w.params.followText "set-order"=_ from a];simp only[↓reduceIte];exact MU$ Ph$ MX$ MX h
theorem JU(a:w.params.followText "set-order"=ξ){S:η}(b:s.heap.get? S=δ o)(H:o.data= .set e c t)
  (d:t.fits e.size=μ) (f:t.led=μ) (l:e.size<=1) {Q:Option (ζ×Nat)->ι->Prop}
  (h:Q (match e[SetTable.below t.place j]?,t.place[SetTable.below t.place j]? with |some (_,x),δ k=>δ (x,k+1) |_,_=>θ) s):
  π (χ prog w) A (setNext S j i c) Q E s:=by
 unfold setNext;refine MU$ OE b H d ?_;dsimp only;unfold setsByText;refine MU$ MU$ Ph$ MX ?_;dsimp only;rw[show(χ prog w).w.params.followText "set-order"=_ from a];simp only[Nf,↓reduceIte];split
 .rename_i z
  let g:(!t.plain&&decide (e.size > 1))=μ:=z;simp only[Of,decide_eq_true_eq]at g;omega
 .refine MU ?_;show π _ _ (if (!t.led&&!e.isEmpty)=μ then _ else _) _ _ _;rw[f];simp only[PY,UW,Nf,↓reduceIte];exact MX$ MX h
end
theorem Yd{a:Type}(f:Nat->Nat):∀(n k:Nat) (l:List a) (o:Array a),l.length=n->(pickOrder.go f n k l o).toList.Perm (o.toList++l):=by
 intro n;induction n with
 |zero=>intro k l o h;rw[List.length_eq_zero_iff.mp h];unfold pickOrder.go;simp
 |succ n i=>intro k l o h;unfold pickOrder.go;let H:f k % l.length < l.length:=VR _ VV;rw[MV H];dsimp only;refine(i _ _ _ (by rw[SW H,h];rfl)).trans ?_;rw[T7,OB,List.singleton_append];refine List.Perm.append_left _ ?_;rw[Sm];refine List.perm_middle.symm.trans ?_;rw[Ov,O4]
theorem kG{a:Type}(f:Nat->Nat)(x:Array a):(pickOrder f x).toList.Perm x.toList:=by let h:=Yd f x.size 0 x.toList (ε []) (Nn ..);simpa [pickOrder] using h
theorem Jl{a:Type}(x:Array a)(d:a):(dB x.size).map (λp=>(x[p]?).getD d)=x.toList:=by
 refine Rs VW λi b h=>?_;let H:i < x.size:=by simpa using h
 simp [H]
def oh(ord:List (Int×ζ))(i:Nat)(v:ζ):Prop:=∃e,ord[i]?=δ e/\v=e.2
section
variable {prog:ψ}{w:bU}{A:cc}{E:ζ->ι->Prop}{s:ι}
theorem qT{S:η}(H:cf s.heap I f i S n e){Q:ζ->ι->Prop}(h:Q (.ref I) s):π (χ prog w) A (pyIter$ .ref I) Q E s:=by refine SH H.is qm$ NC qm H.is JM ?_$ J1 _;show π _ _ (ret$ .ref I) _ _ s;exact MX #[_,Z,"set_iterator",_,H.is,kf.lookup,h]
theorem YR(D:A.handled=θ)(I S P:η)(l:S≠I)(m:P≠I){O oP:hY}{y:List Nat}{c:Nat}(f:O.data= .set d G t)
  (u:t.fits d.size=μ) (g:oP.data= .seq (y.map λ(i:Nat)=>rawInt i).toArray c) (n:y.Perm (dB d.size)):
  WalksS prog w A I [I,S,P] [I] (λa b=>b=a) d.size (oh$ y.map λp=>(d[p]?).getD (0,.none))
   (λi s=>cf s.heap I (.ref P) i S d.size G/\s.heap.get? S=δ O/\s.heap.get? P=δ oP) where
 sub:=λb H=>by simp at H;simp [H]
 grefl:=λ_=>Z
 gtrans:=λ_ _ _ F J=>J.trans F
 frame:=λi s v T st _ k=>#[st.1.at λo e=>k I VW o e,k S VW _ st.2.1,k P VW _ st.2.2]
 item:=λi s Q E K st j=>by
  let B:y.length=d.size:=by rw[n.length_eq,Rj]
  let h:i < y.length:=by omega
  let C:y[i] < d.size:=ro.mp (n.mem_iff.mp$ PQ h);refine YQ (p:=y[i]) (hx:=(d[y[i]]).1) (x:=(d[y[i]]).2) st.1 st.2.1 f u st.2.2 g (by simp [h,rawInt]) (by simp [C]) λv q r=>?_;refine j _ _ #[d[y[i]],by simp [h,C],Z] #[q,?_,?_] #[λb o H e=>?_,Z,Z,Z,M0 _]
  .rw[r.2 S l];exact st.2.1
  .rw[r.2 P m];exact st.2.2
  .rw[r.2 b (λz=>H (by simp [z]))];exact e
 done:=λs Q E st j=>by
  let B:y.length=d.size:=by rw[n.length_eq,Rj]
  refine KP D st.1 st.2.1 f u st.2.2 g (by simp [B]) λv k=>j _ #[λb o H e=>k b o (λz=>H (by simp [z])) e,Z,Z,Z,M0 _]
 self:=λ_ _ _ _ st j=>qT st.1 j
theorem sP(r:A.handled=θ)(m:w.params.followText "set-order"=μ)(I S:η)(l:S≠I){O:hY}(h:O.data= .set c d t)
  (j:t.fits c.size=μ):
  WalksS prog w A I [I,S] [I] (λa b=>b=a) c.size (oh (pickOrder (w.params.setOrder S d) c).toList)
   (λi s=>cf s.heap I (.int (0:Nat) 0) i S c.size d/\s.heap.get? S=δ O) where
 sub:=λb H=>by simp at H;simp [H]
 grefl:=λ_=>Z
 gtrans:=λ_ _ _ u v=>v.trans u
 frame:=λi s n T st _ k=>#[st.1.at λo e=>k I VW o e,k S VW _ st.2]
 item:=λi s Q E D st f=>by
  let y:(pickOrder (w.params.setOrder S d) c).size=c.size:=by rw[<- Nn,(kG _ _).length_eq,Nn]
  let g:i < (pickOrder (w.params.setOrder S d) c).size:=by omega
  refine QH (x:=(pickOrder (w.params.setOrder S d) c)[i].2) (nx:=0) st.1 st.2 h j (λB C q=>Ju m st.2 h j (by rw[OM g];exact q)) λn q p=>?_;refine f _ _ #[(pickOrder (w.params.setOrder S d) c)[i],by rw[Ow];exact OM g,Z] #[q,?_] #[λb o H e=>?_,Z,Z,Z,M0 _]
  .rw[p.2 S l];exact st.2
  .rw[p.2 b (λz=>H (by simp [z]))];exact e
 done:=λs Q E st f=>by
  let y:(pickOrder (w.params.setOrder S d) c).size=c.size:=by rw[<- Nn,(kG _ _).length_eq,Nn]
  refine qI r st.1 st.2 h j (λB C q=>Ju m st.2 h j (by rw[RE VV];exact q)) λn k=>f _ #[λb o H e=>k b o (λz=>H (by simp [z])) e,Z,Z,Z,M0 _]
 self:=λ_ _ _ _ st f=>qT st.1 f
theorem YS(p:Nat):SetTable.below (ε [p]) 0=0:=by simp [SetTable.below,SetTable.below.go]
theorem YT(p:Nat):SetTable.below (ε [p]) (p+1)=1:=by simp [SetTable.below,SetTable.below.go]
theorem xQ(G:A.handled=θ)(u:w.params.followText "set-order"=ξ)(I S:η)(n:S≠I){O:hY}(h:O.data= .set c L t)
  (g:t.fits c.size=μ) (v:t.led=μ) (y:c.size<=1):
  WalksS prog w A I [I,S] [I] (λa b=>b=a) c.size (oh c.toList)
   (λi s=>(∃j:Nat,cf s.heap I (.int j 0) i S c.size L/\(i=0->j=0)/\(i=1->∃p,t.place=(ε [p])/\j=p+1))/\s.heap.get? S=δ O) where
 sub:=λb d=>by simp at d;simp [d]
 grefl:=λ_=>Z
 gtrans:=λ_ _ _ K M=>M.trans K
 frame:=λi s B W st _ k=>#[let #[j,a,r]:=st.1;#[j,a.at λo e=>k I VW o e,r],k S VW _ st.2]
 item:=λi s Q E X st l=>by
  obtain⟨⟨j,H,J,C⟩,f⟩:=st;let N:i=0:=by omega
  subst N;cases J Z;let D:c.size=1:=by omega
  let P:t.place.size=1:=by simp only[SetTable.fits,Of,beq_iff_eq]at g;omega
  let⟨p,m⟩:=Array.size_eq_one_iff.mp P;refine QH (x:=(c[0]'VV).2) (nx:=p+1) H f h g (λR T q=>JU u f h g v y (by rw[m,YS,OM VV];exact q)) λB q F=>?_;refine l _ _ #[c[0]'VV,by rw[Ow];exact OM VV,Z] #[#[_,q,λz=>by omega,λ_=>#[p,m,Z]],?_] #[λb o d e=>?_,Z,Z,Z,M0 _]
  .rw[F.2 S n];exact f
  .rw[F.2 b (λz=>d (by simp [z]))];exact e
 done:=λs Q E st l=>by
  obtain⟨⟨j,H,J,C⟩,f⟩:=st;refine qI G H f h g (λR T q=>JU u f h g v y ?_) λB k=>l _ #[λb o d e=>k b o (λz=>d (by simp [z])) e,Z,Z,Z,M0 _];by_cases z:c.size=0
  .rw[RE (show c.size<=_ by omega)];exact q
  .let D:c.size=1:=by omega
   let⟨p,U,V⟩:=C D;subst V;rw[U,YT,RE (show c.size<=1 by omega)];exact q
 self:=λ_ _ _ _ st l=>let #[#[_,a,_],_]:=st;qT a l
end
theorem qk{prog:ψ}{w:bU}(h:ElemsOf (cJ prog w) E)(i:Nat)(v:ζ)(b:oh E i v):∃x t,(E.map λe=>mO e.2)[i]?=δ x/\v= .str x t:=by let⟨e,H,rfl⟩:=b;obtain⟨⟨k,c,_⟩,_⟩:=h e (Nc H);let⟨t,a⟩:=PZ c;exact#[k,t,by rw[Ni,H];show δ (mO e.2)=_;rw[a];rfl,a]
def CJ(p:ψ)(w:bU)(s c:ι)(S I:η)(L:List ρ):Prop:=
 ∃(f:List η) (d:List ρ) (P:Nat->ζ->Prop) (St:Nat->ι->Prop),(∀b o,s.heap.get? b=δ o->c.heap.get? b=δ o)/\c.gens=s.gens/\c.os=s.os/\s.toks<=c.toks/\
  s.heap.objs.size<=I/\I < c.heap.objs.size/\c.TypeIs (.ref I) "set_iterator"/\(∀b∈f,b=S∨s.heap.objs.size<=b)/\(∀A:cc,A.handled=θ->WalksS p w A I f [I] (λa b=>b=a) d.length P St)/\St 0 c/\
  (∀i v,P i v->∃x t,d[i]?=δ x/\v= .str x t)/\d.Perm L
section
variable {prog:ψ}{w:bU}{A:cc}{E:ζ->ι->Prop}{s:ι}
theorem YU{S:η}(V:c8 prog w s.heap S L){Q:ζ->ι->Prop}(h:∀f I,CJ prog w s f S I L->Q (.ref I) f):π (χ prog w) A (pyIter$ .ref S) Q E s:=by
 let⟨o,a,x,t,H,W,m,n,M,X,r,u,Y,N⟩:=V;let P:s.TypeIs (.ref S) "set":=#[o,H,W.1];let v:S < s.heap.objs.size:=M4 H;refine SH P Tg$ NC Tg P JY ?_$ PySem.F.args_set_iter_1 _;unfold ef.«frozenset.__iter__»;show π _ _ (Builtin.Frozenset.sizeOf S >>= _) _ _ s;unfold Builtin.Frozenset.sizeOf;refine MU$ MU$ Pp H m u$ MX ?_;unfold setDrawn;refine MU$ MU$ OE H m u ?_;dsimp only;unfold setsByText;refine MU$ MU$ Ph$ MX$ MX ?_;split
 .rename_i z
  let B:(!(w.params.followText "set-order")&&(!t.plain&&decide (a.size > 1)))=μ:=z;simp only[Of,decide_eq_true_eq]at B;refine MU$ Ya a.size (dB a.size) s VW λy d G=>?_;let C:y.length=a.size:=by rw[G.length_eq,Rj]
  let O:((y.map λ(i:Nat)=>rawInt i).length)<=τ:=by rw[MY,C];exact RJ r
  refine MU$ PU (s:={ s with drawn:=d }) ?_ O;refine MU ?_;unfold setEpoch;refine MU$ OE (MW _ H) m u$ MX ?_;refine MU$ NF$ MX #[_,Z,"set_iterator",_,#[_,M3 _ Z,Z],kf.lookup,h _ _ ?_];generalize J:s.heap.push { cls:=.type "tuple",data:=.seq (y.map λ(i:Nat)=>rawInt i).toArray }=g;let R:g.objs.size=s.heap.objs.size+1:=by rw[<- J,NP]
  let gP:g.get? s.heap.objs.size=δ { cls:=.type "tuple",data:=.seq (y.map λ(i:Nat)=>rawInt i).toArray }:=by rw[<- J];exact M3 _ Z
  let gS:g.get? S=δ o:=by rw[<- J];exact MW _ H
  refine#[[g.objs.size,S,s.heap.objs.size],(y.map λp=>(a[p]?).getD (0,.none)).map λe=>mO e.2,oh$ y.map λp=>(a[p]?).getD (0,.none),
   (λi f=>cf f.heap g.objs.size (.ref s.heap.objs.size) i S a.size x/\f.heap.get? S=δ o/\f.heap.get? s.heap.objs.size=δ { cls:=.type "tuple",data:=.seq (y.map λ(i:Nat)=>rawInt i).toArray }),λb o e=>?_,Z,Z,M0 _,?_,?_,#[_,M3 _ Z,Z],λb r=>?_,
   λT D=>?_,#[#[_,M3 _ Z,Z,Z],MW _ gS,MW _ gP],?_,?_]
  .exact MW _ (by rw[<- J];exact MW _ e)
  .show s.heap.objs.size<=g.objs.size;omega
  .show g.objs.size < (g.push _).objs.size;rw[NP];exact Oy _
  .simp only[Oz,Ny,P5]at r;rcases r with e |e |e
   .subst e;exact .inr VV
   .exact .inl e
   .rw[e];exact .inr (M0 _)
  .let q:=YR (prog:=prog) (w:=w) D g.objs.size S s.heap.objs.size (Nb (by rw[R];exact OS v)) (Nb (by rw[R];exact Oy _)) m u (oP:={ cls:=.type "tuple",data:=.seq (y.map λ(i:Nat)=>rawInt i).toArray }) (c:=0) Z G;simpa [C] using q
  .refine qk (prog:=prog) (w:=w)$ n.perm ?_;let q:=G.map λp=>(a[p]?).getD ((0:Int),β);rwa [Jl]at q
  .let q:=G.map λp=>(a[p]?).getD ((0:Int),β);rw[Jl]at q;exact(q.map _).trans M
 .rename_i z
  let B:¬(!(w.params.followText "set-order")&&(!t.plain&&decide (a.size > 1)))=μ:=z;refine MU$ MX ?_;refine MU ?_;unfold setEpoch;refine MU$ OE H m u$ MX ?_;refine MU$ NF$ MX #[_,Z,"set_iterator",_,#[_,M3 _ Z,Z],kf.lookup,h _ _ ?_];let k:∀b∈[s.heap.objs.size,S],b=S∨s.heap.objs.size<=b:=λb r=>by
   simp only[Oz,Ny,P5]at r;rcases r with e |e
   .subst e;exact .inr (M0 _)
   .exact .inl e
  let l:∀U:hY,s.heap.objs.size < (s.heap.push U).objs.size:=λU=>by rw[NP];exact Oy _
  cases K:w.params.followText "set-order" with
  |true=>
   let pl:(pickOrder (w.params.setOrder S x) a).toList.length=a.size:=by rw[(kG _ _).length_eq,Nn]
   refine#[[s.heap.objs.size,S],(pickOrder (w.params.setOrder S x) a).toList.map λe=>mO e.2,oh (pickOrder (w.params.setOrder S x) a).toList,
    (λi f=>cf f.heap s.heap.objs.size (.int (0:Nat) 0) i S a.size x/\f.heap.get? S=δ o),λb o e=>MW _ e,Z,Z,M0 _,M0 _,l _,#[_,M3 _ Z,Z],k,
    λT D=>?_,#[#[_,M3 _ Z,Z,Z],MW _ H],?_,?_]
   .let q:=sP (prog:=prog) (w:=w) D K s.heap.objs.size S (Nb v) m u;rw[MY,pl];exact q
   .exact qk (prog:=prog) (w:=w)$ n.perm$ kG _ _
   .exact((kG _ _).map _).trans M
  |false=>
   let hs:a.size<=1:=by
    rw[K]at B;rcases N with e |e
    .rw[e]at B;simp at B;exact B
    .omega
   refine#[[s.heap.objs.size,S],a.toList.map λe=>mO e.2,oh a.toList,
    (λi f=>(∃j:Nat,cf f.heap s.heap.objs.size (.int j 0) i S a.size x/\(i=0->j=0)/\(i=1->∃p,t.place=(ε [p])/\j=p+1))/\f.heap.get? S=δ o),λb o e=>MW _ e,Z,Z,M0 _,M0 _,l _,#[_,M3 _ Z,Z],k,
    λT D=>?_,#[#[0,#[_,M3 _ Z,Z,Z],λ_=>Z,λz=>by cases z],MW _ H],?_,?_]
   .let q:=xQ (prog:=prog) (w:=w) D K s.heap.objs.size S (Nb v) m u (by rw[Y,K];rfl) hs;rw[MY,Nn];exact q
   .exact qk (prog:=prog) (w:=w) n
   .exact M
theorem qJ:∀(V:List ζ) (S:List ρ),V.length=S.length->(∀(i:Nat) (v:ζ),V[i]?=δ v->∃x t,S[i]?=δ x/\v=lq x t)->StrsAre V S
 | [],[],_,_=>.nil
 | [],_::_,h,_=>by cases h
 |_::_,[],h,_=>by cases h
 |v::V,y::S,h,k=>by let⟨x,t,e,rfl⟩:=k 0 v Z;cases e;exact .cons y t$ qJ V S (by simpa using h) λi u H=>k (i+1) u (by simpa using H)
theorem Qc{S:η}(hh:A.handled=θ)(y:c8 prog w s.heap S L){Q:List ζ->ι->Prop}
  (h:∀a V g,s.heap.objs.size<=a.heap.objs.size->(∀b o,s.heap.get? b=δ o->a.heap.get? b=δ o)->a.gens=s.gens->a.os=s.os->s.toks<=a.toks->StrsAre V g->g.Perm L->Q V a):π (χ prog w) A (collect$ .ref S) Q E s:=by
 let n:L.length < scanBound:=by let⟨o,es,ep,t,j,M,hd,h0,u,h1,k,hf,hl,h2⟩:=y;rw[<- u.length_eq,MY,Nn];exact k
 unfold collect;refine MU$ Tw$ Op Sr ?_;rw[N5 Sq];show π _ A.in1 (newList [] >>= λl=>again (.builtin "list.__iadd__" #[[l,.ref S],[]])) _ _ s;refine MU$ NF$ MX #[OX Pf _,Op SR ?_];rw[N5 Pf];show π _ A.in1 (ib (.ref s.heap.objs.size) (.ref S)$ .ref s.heap.objs.size) _ _ _;unfold ib;let p:S < s.heap.objs.size:=by let⟨o,_,_,_,j,_⟩:=y;exact M4 j
 generalize x:s.heap.push { cls:=.type "list",data:=.seq ([]:List ζ).toArray }=H;let gl:H.get? s.heap.objs.size=δ { cls:=.type "list",data:=.seq ([]:List ζ).toArray }:=by rw[<- x];exact M3 _ Z
 let R:c8 prog w H S L:=y.at λo e=>by rw[<- x];exact MW _ e
 let gk:∀b o,s.heap.get? b=δ o->H.get? b=δ o:=λb o e=>by rw[<- x];exact MW _ e
 let T:Shared.TypeIs { s with heap:=H } (.ref S) "set":=by let⟨o,_,_,_,j,M,_⟩:=R;exact#[o,j,M.1]
 refine MU$ OK T ?_;let n1:fr (.ref s.heap.objs.size) (.ref S)=ξ:=by simp only[fr,beq_eq_false_iff_ne];exact NY p
 let n2:(fx "set"==fx "list")=ξ:=by decide
 let n3:(fx "set"==fx "tuple")=ξ:=by decide
 simp only[n1,n2,n3,Tn,Nf,Oj];refine MU$ YU (s:={ s with heap:=H }) R λr I B=>?_;let⟨fp,g,P,St,K,kg,ko,kt,C,h3,h4,D,W,st,hv,u⟩:=B;let G:H.objs.size=s.heap.objs.size+1:=by rw[<- x,NP]
 let f:r.TypeIs (.ref S) "set":=by let⟨o,j,hc⟩:=T;exact#[o,K _ _ j,hc]
 refine MU$ Np ?_;unfold kB;refine MU$ OF f PySem.F.slot_set_len.lookup ?_
 wp_delta
 refine MU$ O0 (b:=μ) f sub_set_self ?_;show π _ A.in1 (typeOf (Θ S) >>= _) _ _ _;refine MU$ OK f$ MX ?_;rw[M7 VU];refine MU$ OV ?_;let U:=K _ _ gl;refine MU ?_;show π _ A.in1 (updateSeq s.heap.objs.size (·.push .none) >>= λ_=>updateSeq s.heap.objs.size (·.pop)) _ _ _;refine MU$ R3 U Z ?_;let X:=ND (ab (·.push β)) U Z;refine R3 X Z ?_;let g3:=ND (ab (·.pop)) X Z;let N:¬s.heap.objs.size∈fp:=λm=>by
  rcases D _ m with e |e
  .exact absurd p (by rw[<- e];exact N4 _)
  .let e':H.objs.size<=s.heap.objs.size:=e;omega
 let O:∀b o,b≠s.heap.objs.size->r.heap.get? b=δ o->((r.heap.update s.heap.objs.size$ ab (·.push β)).update s.heap.objs.size$ ab (·.pop)).get? b=δ o:=
  λb o k e=>(Nj _ _$ NA k).trans ((Nj _ _$ NA k).trans e)
 let Y:=W A.in1 (by simpa using hh);let hn:g.length<=τ:=by rw[u.length_eq];exact RJ n
 refine MX #[OX Sw _,UC Y hn _ N _ g.length 0 _ _ _ Z (M6 _) (Y.frame 0 r _ r.toks st (M0 _) λb k o e=>O b o (λz=>N (z▸k)) e) g3 (UR P) λa J c m gS d=>?_];show π _ A (load s.heap.objs.size >>= _) _ _ a;refine MU$ UX gS$ MX$ h a J.toList g (OT$ M4 gS) (λb o e=>?_) ?_ ?_ ?_ ?_ u
 .let ne:b≠s.heap.objs.size:=Nb (M4 e);refine m.heap b o ?_$ O b o ne$ K b o$ gk b o e;simp only[Oz,Ny,P5,not_or];refine#[ne,λz=>?_];let q:s.heap.objs.size+1<=I:=G▸C;let q2:=M4 e;rw[z]at q2;exact absurd (Nh (OS q2) q)$ N4 _
 .exact m.gens.trans kg
 .exact m.os.trans ko
 .exact Ng kt m.toks
 .refine qJ _ _ (by rw[Nn,d.1]) λi v e=>hv i v (d.2 i v (by rwa [Ow]at e))
end
section
variable {prog:ψ}{w:bU}{A:cc}{E:ζ->ι->Prop}{s:ι}
theorem Xj{S:η}(z:A.handled=θ)(B:c8 prog w s.heap S L)(j:L.length < 64){Q:ζ->ι->Prop}
  (h:∀f a c v i,s.heap.objs.size<=a->(∀b o,s.heap.get? b=δ o->f.heap.get? b=δ o)->f.gens=s.gens->f.os=s.os->f.heap.get? a=δ (seqObj "list" v c)->StrsAre v.toList i->i.Perm L->sortedS i=μ->Q (.ref a) f):
  π (χ prog w) A (call (.builtin "sorted") [.ref S]) Q E s:=by
 refine O9 Td SI SJ (SK _) ?_;unfold ef.«sorted»;refine MU (m:=checkCount "sorted" 1 1 _)$ MX ?_;refine MU$ Qc (by simpa using z) B λd v i K k C D P H r=>?_;let F:v.length < 64:=by rw[<- _L.StrsAre.len H,r.length_eq];exact j
 refine MU$ Pt ?_ (by let q:τ=1000000000∨64<=τ:=.inr VU;omega);let g:=M3 d.heap (o:=seqObj "list" v.toArray 0) Z;refine MU$ Np$ NC Sa #[_,g,Z] R4 (list_sort_treeK strKind_oneLt g H.keysOf (λV t R e=>keyKind_strs (by rw[<- e];exact H)) F λl G I=>#[_,Z,?_]) (Se _);let⟨n,u,J,M⟩:=sorted_out_str H G I;generalize (arrOf l).map (·.2)=out at u ⊢;let⟨c,N⟩:=sortedHeap_at (out:=out) g;let O:∀b o,s.heap.get? b=δ o->(sortedHeap (d.heap.push$ seqObj "list" v.toArray 0) d.heap.objs.size v out).get? b=δ o:=by
  intro b o e;let x:=k b o e;let y:b < d.heap.objs.size:=M4 x;let p:b < (d.heap.push$ seqObj "list" v.toArray 0).objs.size:=by rw[TC];exact OS y
  rw[sortedHeap_old (Nb y) p];exact MW _ x
 exact MX #[_,Z,h { d with heap:=sortedHeap (d.heap.push$ seqObj "list" v.toArray 0) d.heap.objs.size v out } d.heap.objs.size c out n K O C D N u (J.trans r) M]
end
theorem Jv(h:StrsAre v s):aD (s.map ry) v:=by
 induction h with
 |nil=>exact .nil
 |cons y t _ i=>exact .cons #[t,Z] i
noncomputable def IL(P:ψ)(w:bU)(a:η)(L:List ρ):HO:=.ext λh=>c8 P w h a L
section
variable {X:Cx}
theorem ql(i:X.calm=μ):eI X (.builtin "sorted") (λx H Q=>∃(p:η) (L:List ρ),x=[.ref p]/\H p=δ (IL X.prog X.w p L)/\L.length < 64/\
  ∀l S,H l=θ->S.Perm L->L.Nodup->sortedS S=μ->Q (.ref l) (af H l$ .lst$ S.map ry)):=by
 intro P s B H x U Q I r h;let⟨p,L,rfl,j,d,q⟩:=h;let⟨u,rfl,R⟩:=fg r;cases R;let⟨f,_,_⟩:=I.hok p _ j;let b:L.Nodup:=by let⟨_,_,_,_,_,_,_,_,_,b,_⟩:=f;exact b
 refine Xj (I.ok.hd i) f d λm a c v S e k K o t y g A=>?_;let len:(S.map ry).length<=τ:=by rw[MY,g.length_eq];exact Ng (OT d) VU
 let n:aN X.prog X.w (af H a$ .lst$ S.map ry) m.heap a (.lst$ S.map ry):=#[len,v.toList,c,Jv y,t];refine#[.ref a,_,I.call' (ch:=[]) o (Un.laid k e$ I.hok.fresh e) (I.hok.laid k e n) (by rw[K];exact I.bare) (λ_ z=>nomatch z),Z,q _ _ (I.hok.fresh e) g b A]
theorem Xk:eI X (.builtin "sorted") (λx H Q=>∃(p:η) (a:List ρ),x=[.ref p]/\aI X.K H p (a.map ry)/\a.length < 64/\
  ∀l S,H l=θ->S.Perm a->sortedS S=μ->Q (.ref l) (af H l$ .lst$ S.map ry)):=by
 intro P s v H x U Q I r h;let⟨p,a,rfl,f,b,q⟩:=h;let⟨u,rfl,R⟩:=fg r;cases R;let⟨i,g,j,y⟩:=I.list f;let d:=qh g;let k:i.length=a.length:=(_L.StrsAre.len d).symm;refine sorted_strs j.isList d (by rw[k];exact b) λo S m A n=>?_;let⟨c,t⟩:=sortedAll_at s.heap i o;let len:(S.map ry).length<=τ:=by rw[MY,A.length_eq];exact Ng (OT b) VU
 refine#[.ref$ s.heap.objs.size+1,_,I.laid (t':=s.toks) (λ_ _ e=>sortedAll_old e) (NW _) (show aN X.prog X.w _ _ _ (.lst$ S.map ry) from #[len,o.toList,c,Jv m,t]),Z,q _ _ (I.hok.fresh$ NW _) A n]
end
theorem Zr:mroOf (.type "reversed")=pure [.type "reversed",.type "object"]:=by rw[mroOf_type];kernel_rfl
theorem KQ:typeLookup (.type "reversed") "__new__"=pure (δ$ .builtin "reversed.__new__"):=by rw[Oo,NM];kernel_rfl
theorem Qd:Slot "reversed" "__init__" "object.__init__":=by
 refine .of (owner:="object") (n:="__init__") ?_ VX VX VX ?_ ?_
 .rw[Oo,NM];kernel_rfl
 .first |exact .inl VX |exact .inr VX
 .rw[OD];kernel_rfl
theorem YV:TypeCalled "reversed" "reversed.__new__" "object.__init__":=by refine#[VX,VX,#[_,_,Zr],madeBy_type Zr KQ VX,VX,?_,Qd];rw[OD];kernel_rfl
theorem Xl(a:ζ):checkTypeCall "reversed" #[[a],[]]=pure ():=by kernel_rfl
theorem Ye(a:ζ):checkBuiltinCall "reversed.__new__" #[[.type "reversed",a],[]]=pure ():=by kernel_rfl
theorem Qe:entryFor table "reversed.__new__"=δ ef.«reversed.__new__»:=RT (by kernel_rfl)
theorem Bk:isSubtype (.type "reversed") (.type "reversed")=pure μ:=by rw[OD];kernel_rfl
theorem Xm:typeLookup (.type "tuple") "__reversed__"=pure θ:=by rw[Oo,NM];kernel_rfl
theorem KR:isSubtype (.type "tuple") (.type "dict")=pure ξ:=by rw[OD];kernel_rfl
noncomputable def revObj(t:η)(n:Int):hY:={ cls:=.type "reversed",data:=.fields (ε [.ref t,.int (n - 1) 0]) }
section
variable {prog:ψ}{w:bU}{A:cc}{E:ζ->ι->Prop}{s:ι}
theorem tK{Q:ζ->ι->Prop}(H:IsTup s.heap t i)(c:(i.size:Int) < 2 ^ 63)
  (h:Q (.ref s.heap.objs.size) { s with heap:=s.heap.push (revObj t i.size),toks:=s.toks+1+1 }):π (χ prog w) A (call (.type "reversed") [.ref t]) Q E s:=by
 refine Ug (S:=λ_ R a=>a=s/\R (.ok$ .ret$ .ref s.heap.objs.size) { s with heap:=s.heap.push (revObj t i.size),toks:=s.toks+1+1 }) YV VU (Xl _) (Ye _) (λo=>P0 o _) Qe
  (.of_wp λp W f R a d=>?_) #[Z,#[_,M3 _ Z,Z],h]
 let⟨rfl,e⟩:=d;unfold ef.«reversed.__new__» Builtin.SmallTypes.newClass;refine MU ?_;dsimp only;refine MU$ MX ?_;simp only[PY,Nf,Oj];refine MU$ RG Bk ?_;simp only[PY,Nf,Oj];refine MX ?_;refine MU (m:=Builtin.SmallTypes.refuseKeywords _ _ _)$ MX ?_;refine MU (m:=checkCount "reversed" 1 1 _)$ MX ?_;dsimp only;refine MU$ OF H.typeIs Xm ?_;dsimp only;refine MU ?_;show π _ _ (isInstance (.ref t) (.type "dict") >>= _) _ _ _;refine MU$ O0 (b:=ξ) H.typeIs KR ?_;simp only[Nf,Oj];refine MU$ OF H.typeIs PyProof.Rows.slot_tuple_getitem.lookup ?_;dsimp only;rw[M7 VX];refine MX ?_;simp only[PY,Nf,Oj];refine MU$ len_tuple H c ?_;refine MU (m:=asInt? _)$ MX ?_;dsimp only;show π _ _ (newObj (.type "reversed") (.fields [Θ t,rawInt ((i.size:Int) - 1)].toArray) >>= _) _ _ _;exact MU$ NF$ MX #[_,Z,e]
end
theorem zO:Slot "reversed" "__next__" "reversed.__next__":=by
 refine .of (owner:="reversed") (n:="__next__") ?_ VX VX VX ?_ ?_
 .rw[Oo,NM];kernel_rfl
 .first |exact .inl VX |exact .inr VX
 .rw[OD];kernel_rfl
theorem qK:Slot "reversed" "__iter__" "reversed.__iter__":=by
 refine .of (owner:="reversed") (n:="__iter__") ?_ VX VX VX ?_ ?_
 .rw[Oo,NM];kernel_rfl
 .first |exact .inl VX |exact .inr VX
 .rw[OD];kernel_rfl
theorem KS:entryFor table "reversed.__next__"=δ ef.«reversed.__next__»:=RT (by kernel_rfl)
theorem KU:entryFor table "reversed.__iter__"=δ ef.«dict_keyiterator.__iter__»:=by refine Sc (id':="dict_keyiterator.__iter__") ?_ Z VX ?_<;>kernel_rfl
theorem Qg(a:ζ):argsOk "reversed.__next__" #[[a],[]]:=by unfold argsOk;kernel_rfl
theorem Qh(a:ζ):argsOk "reversed.__iter__" #[[a],[]]:=by unfold argsOk;kernel_rfl
def dQ(h:de)(I t:η)(k:Int):Prop:=∃o,h.get? I=δ o/\o.cls= .type "reversed"/\o.data= .fields (ε [.ref t,.int k 0])
theorem dQ.at{H:de}(x:dQ h I t k)(e:∀o,h.get? I=δ o->H.get? I=δ o):dQ H I t k:=let #[o,a,r]:=x;#[o,e o a,r]
theorem dQ.is{s:ι}(x:dQ s.heap I t k):s.TypeIs (.ref I) "reversed":=let #[o,h,H,_]:=x;#[o,h,H]
section
variable {prog:ψ}{w:bU}{A:cc}{E:ζ->ι->Prop}{s:ι}
theorem XG(H:dQ s.heap I t k)
  (h:π (χ prog w) A.in1 (ef.«reversed.__next__» #[[.ref I],[]]) (λf S=>∃v,f= .done (.ret v)/\Q (δ v) S) (λe S=>S.TypeIs e "StopIteration"/\Q θ S) s):
  π (χ prog w) A (pyNext$ .ref I) Q E s:=by
 unfold pyNext;refine MU$ Pu$ NE (name:=Str.ofString "__next__") H.is zO$ NC zO H.is KS ?_$ Qg _;refine N7 h (λf S q=>?_) λe S q=>?_
 .let⟨v,e,q⟩:=q;exact#[v,e,MX q]
 .exact MU$ O0 (T:="StopIteration") (b:=μ) q.1 Sb$ MX q.2
theorem Hj{I t:η}{k:Nat}{items:Array ζ}{x:ζ}{Q:Option ζ->ι->Prop}(H:dQ s.heap I t k)(c:IsTup s.heap t items)(d:items[k]?=δ x)(e:(items.size:Int) < 2 ^ 63)
  (f:∀b,dQ b I t ((k:Int) - 1)->fy I s.heap b->Q (δ x) { s with heap:=b,toks:=s.toks+1 }):π (χ prog w) A (pyNext$ .ref I) Q E s:=by
 refine XG H ?_;let⟨o,a,g,h⟩:=H;let i:k < items.size:=(bm.mp d).1;show π _ _ (field (.ref I) 0 >>= _) _ _ s;refine MU$ Nw a h (x:=.ref t) Z$ MU$ Nw a h (x:=.int k 0) Z ?_;dsimp only;rw[Na VV];refine MU$ OF c.typeIs PyProof.Rows.slot_tuple_getitem.lookup ?_;simp only[TM,Nf,Oj];refine MU$ wpAny_mkInt$ MU$ Pu ?_;refine getItem_tuple (s:={ s with toks:=s.toks+1 }) c VV VV (j:=k) ?_ d ?_
 .unfold seqIndex?;simp;omega
 refine MU$ Nw (s:={ s with toks:=s.toks+1 }) a h (x:=.int k 0) Z ?_;dsimp only;refine MU$ NR a h VW$ MX #[x,Z,f _ ?_$ OA ..];exact#[_,ND _ a$ Oc$ NB h _,(PH ..).trans g,by rw[NB h];simp [rawInt]]
theorem rL(f:A.handled=θ){Q:Option ζ->ι->Prop}(h:dQ s.heap I t (-1))
  (g:∀a,(∀b o,b≠I->s.heap.get? b=δ o->a.get? b=δ o)->Q θ { s with heap:=a }):π (χ prog w) A (pyNext$ .ref I) Q E s:=by
 refine XG h ?_;let⟨o,c,j,H⟩:=h;show π _ _ (field (.ref I) 0 >>= _) _ _ s;refine MU$ Nw c H (x:=.ref t) Z$ MU$ Nw c H (x:=.int (-1) 0) Z ?_;dsimp only;rw[M7 VU];refine MU$ OV$ MU ?_;show π _ _ (setField (.ref I) 1 (rawInt (-1)) >>= λ_=>setField (.ref I) 0 .none) _ _ _;refine MU$ NR c H VW ?_;refine NR (ND _ c$ Oc$ NB H _) (NB H _) VW ?_;refine MU ?_;refine J4 (s:={ s with heap:=_ }) (by simpa using f) λa e k T=>#[T,g a λb o d i=>k b o ?_];exact(Nj _ _$ NA d).trans ((Nj _ _$ NA d).trans i)
theorem B0(H:dQ s.heap I t k){Q:ζ->ι->Prop}(h:Q (.ref I) s):π (χ prog w) A (pyIter$ .ref I) Q E s:=by refine SH H.is qK$ NC qK H.is KU ?_$ Qh _;show π _ _ (ret$ .ref I) _ _ s;exact MX #[_,Z,"reversed",_,H.is,zO.lookup,h]
end
theorem JV:entryFor table "dict.update.loop"=δ ef.«dict.update.loop»:=RT (by kernel_rfl)
theorem zM:plainId "dict.update.loop"=μ:=by decide+kernel
section
variable {X:Cx}{o lo hi:dr}{to tl th:TE}{pos p2:Pos}
inductive GU(v:V)(h:St)(Q:St->Hp->Prop)(e a c:V)(d:Hp):Prop
 |mk(l b f g i j:_)(_:e= .ref l)(_:v= .ref b)(_:a= .int i)(_:c= .int j)(_:d l=δ (.lst f))(_:d b=δ (.lst g))(_:l≠b)(_:0<=i)(_:i<=j)(_:j<=(f.length:Int))(_:f.length+g.length<=τ)(_:Q h (af d l (.lst (f.take i.toNat++g++f.drop j.toNat))))
def MD(to tl th:TE):TG:=λv b H Q=>to b H λO h=>tl b h λa c=>th b c (GU v b Q O a)
theorem vK(n:PE X o to)(t:PE X lo tl)(w:PE X hi th)
  (A:∀v,assign (.Subscript o (.Slice (δ lo) (δ hi) θ p2) pos) X.env v=(do
   let O <- lu [v] (eval o X.env)
   let c <- lu [v,O] (eval (.Slice (δ lo) (δ hi) θ p2) X.env)
   standAt pos
   lu [v,O,c] (setItem O c v)
   release [c,v,O] []):=by intro _;rfl):PG X (.Subscript o (.Slice (δ lo) (δ hi) θ p2) pos) (MD to tl th):=by
 intro p s a H v u Q I r h;rw[A];refine MU$ Np$ aV (n p s a H _ I h) λO B d=>?_;let⟨x,C,D,R,E⟩:=d;refine MU$ Np ?_;refine wpAny_Slice$ aV (t p B a C _ D E) λV F #[y,G,J,K,L]=>aV (w p F a G _ J L) λm S f=>?_;let⟨z,M,N,P,l,b,xs,ys,i,j,T,U,W,Y,h1,h2,g,h0,k,hj,hz,q⟩:=f;subst T U W Y;cases (show O=Θ l from R);cases (show u=Θ b from r);refine MX ?_;let I4:au X p a M { S with heap:=S.heap.push { cls:=.type "slice",data:=.fields (ε [V,m,.none]) } }:=N.kept (t':=S.toks) λb o e=>MW _ e;refine MU$ Pr$ MU$ Np ?_;exact Z4 I4 h1 h2 g (SE S.heap V m .none) K P h0 k hj hz λs5 I5=>wpAny_release #[a,_,I5,q]
end
end _L
namespace _L
open PySem PySem.Spec PyProof.Rows Builtin Builtin.Str
section
variable {prog:ψ}{w:bU}{A:cc}{E:ζ->ι->Prop}{s:ι}
theorem Jy{lo:Option Int}{Q:ζ->ι->Prop}(H:IsTup s.heap t i)(d:s.heap.IsSliceOf e v j .none)(p:IsPart v lo)(P:IsPart j f)
  (g:HT.sIx i.size 0 lo=0/\HT.sIx i.size i.size f=i.size) (h:Q (.ref t) s):π (χ prog w) A (getItem (.ref t)$ .ref e) Q E s:=by
 let⟨os,a,b,k⟩:=id d;let c:s.TypeIs (.ref e) "slice":=#[os,a,b];unfold getItem;try with_reducible refine Np ?_
 first |refine MU (MX ?_) |skip
 refine MU$ SG H.typeIs VU ?_;refine MU (NE (name:=Str.ofString "__getitem__") H.typeIs OL
  (NC OL H.typeIs VE ?_$ VJ _ _))
 show π _ _ (pz (.ref t) >>= _) _ _ s;refine MU$ VC H ?_;refine MU$ OK c ?_;rw[M7 VU];refine MU$ HT.sliceApplied_gen d p P ?_;show π _ _ (if (((HT.sIx i.size 0 lo:Nat):Int)==0&&(1:Int)==1&&(HT.sIx i.size i.size f - HT.sIx i.size 0 lo)==i.size)=μ then _ else _) _ _ s;rw[g.1,g.2,M7 VW];unfold Builtin.Tuple.tupleIsExact;refine MU$ MU$ OK H.typeIs$ MX ?_;rw[M7 VU];first
  |exact OV (MX #[_,Z,MX h])
  |exact MU (OV (MX #[_,Z,MX h]))
  |exact MU (MX (MX #[_,Z,MX h]))
end
section
variable {X:Cx}
inductive Ce(x y:V)(H:Hp)(Q:VK):Prop
 |mk(a b c d:_)(_:x= .ref a)(_:y= .ref b)(_:H a=δ (.tup c))(_:H b=δ (.tup d))(_:c.length+d.length<=τ)(_:∀r H',H' r=δ (.tup (c++d))->aa H H'->Q (.ref r) H')
theorem ki:fh X (binaryOp .Add) Ce:=by
 intro P s G H x y v u Q I r R h;let⟨a,b,m,Y,rfl,rfl,d,f,J,q⟩:=h;let t:=aB.of (K:=X.K) d;let w:=aB.of (K:=X.K) f;by_cases z:m=[]
 .subst z;cases r;cases R;let⟨l,L,M,_⟩:=I.tuple t;let⟨i,r2,N,_⟩:=I.tuple w;let O:l=[]:=L.nil_iff.mpr Z;subst O;obtain⟨⟨T,U,A,V⟩,B,C,n,E⟩:=id M;obtain⟨⟨F,D,data2,S⟩,g,j,W,k⟩:=id N;simp only at C E j k;subst C E j k;exact Ud #[_,B,Z] #[_,g,Z] SY TU Ro Rh (Rb _ _)
   (tuple_addW0 a b ([]:List ζ).toArray i.toArray n W U D V S Z) #[B,g,.ref b,H,I,Z,q b H f$ aa.refl H]
 .refine Au P s G H _ _ v u Q I r R #[a,b,m,Y,Z,Z,t,w,z,J,λe=>?_,λ_ p np=>?_]
  .subst e;exact q a H (by rw[Nx];exact d)$ aa.refl H
  .exact q p _ jb λc o e=>by rw[jh$ ji e np];exact e
inductive HN(x:V)(c b:Option Int)(H:Hp)(Q:VK):Prop
 |mk(a d:_)(_:x= .ref a)(_:H a=δ (.tup d))(_:∀r H',H' r=δ (.tup (aW d c b))->aa H H'->Q (.ref r) H')
theorem kc:IK X HN:=by
 intro P s u H x v V w lo j S Q I R k l m h;let⟨a,b,rfl,d,q⟩:=h;let n:=aB.of (K:=X.K) d;by_cases g:HT.sIx b.length 0 lo=0/\HT.sIx b.length b.length j=b.length
 .cases R;let⟨i,r,t,y⟩:=I.tuple n;let f:i.toArray.size=b.length:=by rw[M1];exact r.length.symm
  refine#["tuple",_,PyProof.Rows.slot_tuple_getitem.lookup,t.typeIs,?_];refine Jy t k l m (by rw[f];exact g) #[.ref a,H,I,Z,q a H ?_$ aa.refl H];rw[d];unfold aW;rw[g.1,g.2,OU,RM,NJ]
 .exact EZ P s u H _ v V w lo j S Q I R k l m #[a,b,Z,n,g,λp N=>q p _ jb λc o e=>by rw[jh$ ji e N];exact e]
end
end _L
namespace _L
open PySem PySem.Spec PyProof.Rows
theorem BG{G:Bool->Hp->Prop}(y:G μ H)(n:b=ξ->G b H):G b H:=by
 cases b
 .exact n Z
 .exact y
theorem aU{A:Prop}(h:∀G:Prop,(A->G)->G):A:=h A λz=>z
section
variable {t u:TS}{D:bV}{σ:St}{H:Hp}
theorem gb(h:∀E:bV,(∀a b,u D a b->E.nx a b)->t E σ H):cy t u D σ H:=h { D with nx:=u D } λ_ _ h=>h
theorem aj(h:∀F:St->Hp->Prop,(∀a b,u D a b->F a b)->t { D with nx:=F } σ H):cy t u D σ H:=h _ λ_ _ h=>h
theorem oW{c:TT}(h:∀F:Bool->Hp->Prop,(∀b a,(if b=μ then t D σ a else u D σ a)->F b a)->c σ H F):gZ c t u D σ H:=h _ λ_ _ x=>x
theorem lH{c:TT}(h:∀F:Bool->Hp->Prop,(∀a,t D σ a->F μ a)->(∀a,u D σ a->F ξ a)->c σ H F):gZ c t u D σ H:=by
 refine h _ (λa x=>?_) λa x=>?_
 .show if μ=μ then _ else _;rw[M7 Z];exact x
 .show if ξ=μ then _ else _;rw[Na VU];exact x
theorem gA(R:St->Hp->Prop)(c:∀E:bV,E.rt=D.rt->(∀a b,R a b->E.nx a b)->t E σ H)(d:∀a b,R a b->D.nx a b):Iv t D σ H:=#[R,c { D with nx:=R } Z λ_ _ h=>h,d]
theorem oO{c:TT}{T:TS}(W:Nat->St->Hp->Prop)(d:Nat)(e:W d σ H)
  (f:∀m σ H,∀E:bV,E.rt=D.rt->(∀M a b,M < m->W M a b->E.nx a b)->∀F:Bool->Hp->Prop,(∀b,T E σ b->F μ b)->(∀b,D.nx σ b->F ξ b)->∀G:Prop,(c σ H F->G)->W m σ H->G):xI c T D σ H:=by
 refine#[W,#[d,e],λm σ H w=>?_];refine f m σ H { D with nx:=λa b=>∃M,M < m/\W M a b,ct:=λa b=>∃M,M < m/\W M a b,bk:=D.nx } Z (λM a b l g=>#[M,l,g]) _ (λb x=>?_) (λb x=>?_) _ (λz=>z) w
 .show if μ=μ then _ else _;rw[M7 Z];exact#[_,λ_ _ h=>h,x]
 .show if ξ=μ then _ else _;rw[Na VU];exact x
def pZ(J:It)(g:TG)(T:TS)(D:bV)(σ:St)(H:Hp):Prop:=∃W:Nat->Nat->St->Hp->Prop,(∃m,W 0 m σ H)/\∀i m σ H,W i m σ H->
 (J.stop i H/\D.nx σ H)∨(J.go i H/\∃N:St->Hp->Prop,(∀a h,N a h->∃M,M < m/\W (i+1) M a h)/\∀x h,J.yld i H x h->g x σ h λb c=>T { D with nx:=N,ct:=N,bk:=D.nx } b c)
theorem dj{w:TI}(h:∀F:It->Hp->Prop,(∀J a,pZ J g T D σ a->F J a)->w σ H F):Fi w g T D σ H:=h _ λ_ _ z=>z
theorem MM{g:TG}{Q:St->Hp->Prop}(h:∀F:St->Hp->Prop,(∀a b,Q a b->F a b)->g x σ H F):g x σ H Q:=h _ λ_ _ z=>z
theorem ke{lo:Int}{n:Nat}{g:TG}{T:TS}{D:bV}{σ:St}{H:Hp}(Pv:Nat->St->Hp->Prop)(d:Pv 0 σ H)
  (e:∀E:bV,E.rt=D.rt->∀i σ H,i < n->(∀a c,Pv (i+1) a c->E.nx a c)->∀G:Prop,((g (.int$ lo+i) σ H λb f=>T E b f)->G)->Pv i σ H->G) (j:∀σ H,Pv n σ H->D.nx σ H):pZ (sX lo n) g T D σ H:=
 Qt Pv d (λi σ H k p=>e { D with nx:=Pv (i+1),ct:=Pv (i+1),bk:=D.nx } Z i σ H k (λ_ _ h=>h) _ (λz=>z) p) j
theorem zx{K:γ}{a:η}{xs:List V}{g:TG}{T:TS}{D:bV}{σ:St}{H:Hp}(Pv:Nat->St->Hp->Prop)(e:Pv 0 σ H)(f:∀i σ H,i<=xs.length->Pv i σ H->aI K H a xs)
  (j:∀E:bV,E.rt=D.rt->∀i x σ H,xs[i]?=δ x->(∀b d,Pv (i+1) b d->E.nx b d)->∀G:Prop,((g x σ H λc k=>T E c k)->G)->Pv i σ H->G) (l:∀σ H,Pv xs.length σ H->D.nx σ H):pZ (xX K a) g T D σ H:=
 uu Pv e f (λi x σ H m p=>j { D with nx:=Pv (i+1),ct:=Pv (i+1),bk:=D.nx } Z i x σ H m (λ_ _ h=>h) _ (λz=>z) p) l
theorem Kx{K:γ}{xs:List V}{g:TG}{T:TS}{D:bV}{σ:St}{H:Hp}(Pv:Nat->St->Hp->Prop)(e:Pv 0 σ H)(f:∀i σ H,i<=xs.length->Pv i σ H->aB K H a xs)
  (j:∀E:bV,E.rt=D.rt->∀i x σ H,xs[i]?=δ x->(∀b d,Pv (i+1) b d->E.nx b d)->∀G:Prop,((g x σ H λc k=>T E c k)->G)->Pv i σ H->G) (l:∀σ H,Pv xs.length σ H->D.nx σ H):pZ (yg K a) g T D σ H:=
 yG Pv e f (λi x σ H m p=>j { D with nx:=Pv (i+1),ct:=Pv (i+1),bk:=D.nx } Z i x σ H m (λ_ _ h=>h) _ (λz=>z) p) l
end
end _L
namespace _L
open PySem PySem.Spec PyProof.Rows PySem.SeqAt
section
variable {prog:ψ}{w:bU}{A:cc}{E:ζ->ι->Prop}{s:ι}
theorem YW{P:Fin->ι->Prop}(H:s.heap.get? a=δ (seqObj "list" [v].toArray n))
  (h:P (.done$ .ret .none) { s with heap:=sortedHeap s.heap a [v] (ε [v]) }):π (χ prog w) A (ef.«list.sort» #[[.ref a],[]]) P E s:=by
 rw[To];refine MU$ Uc H Z ?_;refine MU$ P6 H Z ?_;obtain⟨e,b⟩:∃e,(s.heap.update a$ ab λ_=>(ε [])).get? a=δ (seqObj "list" (ε []) e):=#[_,Tp H (λ_=>(ε []))];refine MU$ RI b Z ?_;refine MU$ PU ?_;refine MU$ Pt ?_;refine Np ?_;let g:(((s.heap.update a$ ab λ_=>(ε [])).push$ seqObj "tuple" [v].toArray 0).push$ seqObj "list" (ε []) 0).get? a=δ (seqObj "list" (ε []) e):=MW _ (MW _ b);show π (χ prog w) A _ P E { s with heap:=((s.heap.update a$ ab λ_=>(ε [])).push$ seqObj "tuple" [v].toArray 0).push (seqObj "list" (ε []) 0) };dsimp only;let S:[v].toArray.size < 2:=by show 1 < 2;decide
 rw[M7 S,M7 S];refine MU$ MX ?_;rw[Uh];refine MU$ MX ?_;dsimp only;refine MU$ RI g Z ?_;let c:(arrOf$ SortSt.mk' general' ([v].toArray.zip [v].toArray) (ε []) 7 θ).map (·.2)=(ε [v]):=by show([v].toArray.zip [v].toArray).map (·.2)=(ε [v]);simp
 rw[c];refine MU$ P6 g Z ?_ (hsz2:=by show 1<=τ+1;omega);simp only[Oq,Nf,Oj];exact MX h
theorem Be{Q:ζ->ι->Prop}(H:s.heap.IsList l [v].toArray)
  (h:Q (.ref$ s.heap.objs.size+1) { s with heap:=sortedAll s.heap [v] (ε [v]) }):π (χ prog w) A (call (.builtin "sorted") [.ref l]) Q E s:=by
 refine O9 Td SI SJ (SK _) ?_;unfold ef.«sorted»;refine MU (m:=checkCount "sorted" 1 1 _)$ MX ?_;refine MU$ Ue H ?_;refine MU$ Pt ?_;let z:((s.heap.push$ seqObj "list" (ε []) 0).update s.heap.objs.size$ ab (·++[v].toArray)).objs.size=s.heap.objs.size+1:=by rw[Ss,TC]
 let g:(((s.heap.push$ seqObj "list" (ε []) 0).update s.heap.objs.size$ ab (·++[v].toArray)).push$ seqObj "list" [v].toArray 0).get? (s.heap.objs.size+1)=δ (seqObj "list" [v].toArray 0):=by rw[<- z];exact M3 _ Z
 show π _ _ _ _ _ { s with heap:=((s.heap.push$ seqObj "list" (ε []) 0).update s.heap.objs.size$ ab (·++[v].toArray)).push (seqObj "list" [v].toArray 0) };rw[z];refine MU$ Np$ NC Sa #[_,g,Z] R4 (YW g #[_,Z,?_]) (Se _);exact MX #[_,Z,h]
end
inductive Tr where
 |lf (v:V) |tp (l:Tr) |nil |cons (h t:Tr)
noncomputable def Tr.dep:Tr->Nat
 | .lf _=>0
 | .tp l=>l.dep+1
 | .nil=>0
 | .cons h t=>max h.dep t.dep
noncomputable def Tr.isL:Tr->Bool
 | .nil=>μ
 | .cons _ _=>μ
 |_=>ξ
noncomputable def MF:V->Bool
 | .byt _=>ξ
 | .flt _=>ξ
 |_=>μ
end _L
namespace _L
open PySem PySem.Spec PyProof.Rows
noncomputable def IY(K:γ)(a:η)(n:Nat):It:=
 #[λi H=>∃X x,aB K H a X/\X.length=n/\X.reverse[i]?=δ x,λi H x h=>h=H/\∀X,aB K H a X->X.reverse[i]?=δ x,λi H=>∃X,aB K H a X/\X.length=n/\i=n]
theorem xK{P:ψ}{K:γ}(a f:η)(n:Nat):om P w K tg (IY K a n) [f] f (λi h=>dQ h f a ((n:Int) - 1 - i)) where
 mem:=by simp
 obj:=λi h st b j=>by
  let e:b=f:=by simpa using j
  subst e;let⟨o,e,c,d⟩:=st;exact#[o,e,λv z=>by rw[d]at z;cases z]
 keep:=λi h q st k=>st.at λo e=>k f VW o e
 item:=by
  intro X y A B O i g s Q H E I t st C;subst y A B;let⟨l,x,D,T,m⟩:=C;let⟨r,R,p,hz⟩:=I.tuple D;let hl:=R.length;let U:=eX;let V:i < l.length:=by
   rcases RN i l.length with z |z
   .exact z
   .rw[Ob (by simpa using z)]at m;cases m
  let F:l[l.length - 1 - i]?=δ x:=by rw[PM V]at m;exact m
  let⟨u,W,Y⟩:=R.get F;let⟨G,J,f2,L,M,N⟩:=t f VW;let e:((n:Int) - 1 - i)=((l.length - 1 - i:Nat):Int):=by omega
  rw[e]at st;refine Hj (items:=r.toArray) st (show IsTup s.heap a r.toArray from p) (x:=u) (by simpa using W) (by simp only[M1];omega) λq S sb=>?_;let I1:au X g Q H { s with heap:=q,toks:=s.toks+1 }:=I.turned (t':=s.toks+1) (λb o j e=>(sb.2 b j).trans e) G J L M N;let⟨o,e',c,d⟩:=id S;refine#[u,Z,Ze (s:={ s with heap:=q,toks:=s.toks+1 }) e' c d VU #[x,H,I1,Y,#[Z,λys hy=>by rw[I.tuple_inj hy D];exact m],?_,λb j=>(t b j).1]];let e2:((n:Int) - 1 - ((i+1:Nat):Int))=((l.length - 1 - i:Nat):Int) - 1:=by omega
  show dQ q f a ((n:Int) - 1 - ((i+1:Nat):Int));rw[e2];exact S
 done:=by
  intro X y A B O i g s Q H E I t st C;subst y A B;let⟨l,D,T,m⟩:=C;let⟨G,J,f2,L,M,N⟩:=t f VW;let e:((n:Int) - 1 - (i:Int))= -1:=by omega
  rw[e]at st;exact rL (I.ok.hd O) st λq eb=>#[Z,I.turned (t':=s.toks) (λb o j e=>eb b o j e) G J L M N]
 self:=λ_ _ _ _ _ st h=>B0 st h
section
variable {X:Cx}{tg:dr}
inductive BY(K:γ)(R:It->Hp->Prop)(x:V)(b:Hp):Prop
 |mk(a c:_)(_:x= .ref a)(_:aB K b a c)(_:R (IY K a c.length) b)
def Lp(K:γ)(t:TE):TI:=λa H R=>t a H (BY K R)
theorem vM{e:dr}{t:TE}{c:ρ}{p P:Pos}(j:Gl X c)(k:X.mg c=θ)(l:bootBuiltins c=δ (.type "reversed"))(y:PE X e t)(m:c≠"__name__":=by decide)(n:(c==("__debug__":ρ))=ξ:=by decide)
  (r:Δ [e] X.env=(ξ,eval e X.env)::Δ [] X.env:=by rfl) (A:(fJ P$ Δ [] X.env).any (·.1)=ξ:=by rfl):PI X tg (.Call (.Name c p) [e] [] P) (Lp X.K t):=by
 intro d s B H R I h;refine NT$ zy I j k l ?_ m n;refine NG ?_ r A;rw[r];show π _ _ (spliced ((ξ,eval e X.env)::fJ P (Δ [] X.env))) _ _ s;refine OH$ aV (y d s B H _ I h) λu S z=>?_;let⟨x,C,g,D,a,v,E,F,q⟩:=z;subst E;cases (show u=Θ a from D);let⟨i,G,J,N⟩:=g.tuple F;let f:=G.length;let L:=eX;refine O6$ tK (show IsTup S.heap a i.toArray from J) (by simp only[M1];omega) ?_;let w:dQ (S.heap.push$ revObj a i.toArray.size) S.heap.objs.size a ((v.length:Int) - 1 - ((0:Nat):Int)):=#[_,M3 _ Z,Z,by rw[M1,<- f];simp [revObj]];refine B0 (s:={ S with heap:=S.heap.push (revObj a i.toArray.size),toks:=S.toks+1+1 }) w ?_;refine#[S.heap.objs.size,[S.heap.objs.size],_,_,C,Z,g.kept (t':=S.toks+1+1) λb o e=>MW _ e,xK a _ v.length,w,λb M=>?_,q];let e:b=S.heap.objs.size:=by simpa using M
 subst e;exact g.fpOk (M0 _)$ g.hok.fresh$ M0 _
end
theorem XH{K:γ}{xs:List V}{g:TG}{t:TS}{D:bV}(Pv:Nat->St->Hp->Prop)(k:Pv 0 b H)(l:∀i b H,i<=xs.length->Pv i b H->aB K H a xs)
  (n:∀E:bV,E.rt=D.rt->∀i x b H,xs.reverse[i]?=δ x->(∀c f,Pv (i+1) c f->E.nx c f)->∀G:Prop,((g x b H λj o=>t E j o)->G)->Pv i b H->G) (r:∀b H,Pv xs.length b H->D.nx b H):pZ (IY K a xs.length) g t D b H:=by
 refine#[λi m b H=>m=xs.length - i/\i<=xs.length/\Pv i b H,#[xs.length,VW,M6 _,k],?_];rintro i m b H ⟨rfl,s,p⟩;let q:=l i b H s p;by_cases d:i < xs.length
 .refine .inr #[#[xs,_,q,Z,MV (by simpa using d)],Pv$ i+1,λc f P=>#[xs.length - (i+1),VV,Z,d,P],λx f y=>?_];let⟨e,y⟩:=y;subst e;exact n { D with nx:=Pv (i+1),ct:=Pv (i+1),bk:=D.nx } Z i x b _ (y xs q) (λ_ _ h=>h) _ (λz=>z) p
 .let e:i=xs.length:=by omega
  subst e;exact .inl #[#[xs,q,Z,Z],r b H p]
theorem wZ:Slot "list_reverseiterator" "__length_hint__" "list_reverseiterator.__length_hint__":=by refine Slot.of (owner:="list_reverseiterator") (n:="__length_hint__") (by rw[Oo,NM];kernel_rfl) VX VX VX ?_ (by rw[OD];kernel_rfl);first |exact .inl VX |exact .inr VX
theorem rN:typeLookup (.type "list_reverseiterator") "__len__"=pure θ:=by rw[Oo,NM];kernel_rfl
theorem Fd:isSubtype (.type "list_reverseiterator") (.type "list_reverseiterator")=pure μ:=by rw[OD];kernel_rfl
section
variable {prog:ψ}{w:bU}{A:cc}{E:ζ->ι->Prop}{s:ι}
theorem Dg(H:s.heap.IsRevIter I t k){Q:Bool->ι->Prop}(h:Q ξ s):π (χ prog w) A (kB$ .ref I) Q E s:=by
 unfold kB;refine MU$ OF H.typeIs rN ?_;show π _ A (specialOf (Θ I) (Str.ofString "__length_hint__") >>= _) _ _ _;refine MU$ OF H.typeIs wZ.lookup ?_;let e:splitId "list_reverseiterator.__length_hint__"=δ ("list_reverseiterator","__length_hint__"):=by decide+kernel
 dsimp only;rw[e];dsimp only;refine MU$ O0 (b:=μ) H.typeIs Fd ?_;simp only[PY,Nf,Oj];rw[M7 VX,Na VX];exact MX h
theorem rf{a:Array ζ}{Q:List ζ->ι->Prop}(z:A.handled=θ)(f:s.heap.IsRevIter I t ((a.size:Int) - 1))(r:s.heap.IsList t a)(B:t≠I)(C:a.size<=τ)
  (D:∀S,(∀b o,b≠I->s.heap.get? b=δ o->S.heap.get? b=δ o)->s.heap.objs.size<=S.heap.objs.size->S.gens=s.gens->S.os=s.os->Q a.toList.reverse S):π (χ prog w) A (collect$ .ref I) Q E s:=by
 let j:I < s.heap.objs.size:=by let⟨o,k,_⟩:=f;exact M4 k
 let n:t < s.heap.objs.size:=by let⟨o,k,_⟩:=r;exact M4 k
 let u:I≠s.heap.objs.size:=Nb j;let F:t≠s.heap.objs.size:=Nb n;unfold collect;refine MU (Tw (Op Sr (by
  rw[N5 Sq _];show π _ A.in1 (newList [] >>= λl=>again (.builtin "list.__iadd__" #[[l,.ref I],[]])) _ _ s;refine MU$ NF$ MX #[OX Pf _,Op SR ?_];rw[N5 Pf _];generalize v:s.heap.push { cls:=.type "list",data:=.seq ([]:List ζ).toArray }=H;let J:H.get? s.heap.objs.size=δ { cls:=.type "list",data:=.seq (ε []) }:=by rw[<- v];exact M3 _ Z
  let G:∀b o,s.heap.get? b=δ o->H.get? b=δ o:=λb o e=>by rw[<- v];exact MW _ e
  let h:H.IsRevIter I t ((a.size:Int) - 1):=f.at λo e=>G I o e;let p:H.IsList t a:=r.at λo e=>G t o e;show π _ A.in1 (ib (.ref s.heap.objs.size) (.ref I)$ .ref s.heap.objs.size) _ _ { s with heap:=H };unfold ib;refine MU$ OK (s:={ s with heap:=H }) h.typeIs ?_;let K:fr (.ref s.heap.objs.size) (.ref I)=ξ:=by simp only[fr,beq_eq_false_iff_ne];exact NA u
  let L:(fx "list_reverseiterator"==fx "list")=ξ:=by decide
  let M:(fx "list_reverseiterator"==fx "tuple")=ξ:=by decide
  simp only[K,L,M,Tn,Nf,Oj];refine MU$ wpAny_pyIter_revIter (s:={ s with heap:=H }) h$ MU$ Np$ Dg (s:={ s with heap:=H }) h ?_;let N:¬s.heap.objs.size∈[I,t]:=by simp only[Oz,Ny,P5,not_or];exact#[NA u,NA F]
  rw[Na VX];refine MX #[OX Sw _,?_];let W:=(Walks.listRev (prog:=prog) (w:=w) (A:=A.in1) (by simpa using z) I t B a).toS;refine UC W C _ N _ a.size 0 _ (ε []) _ Z (M6 _) #[M6 _,by simpa using h,p] J (UR _) λS d U m x c=>?_;let O:d=a.toList.reverse.toArray:=by
   apply Array.ext';refine List.ext_getElem? λi=>?_;by_cases y:i < a.size
   .let g:i < d.size:=by rw[c.1];exact y
    let q:=c.2 i d[i] (by simp [g]);rw[Ow,OM g,<- q];show a[a.size - 1 - i]?=a.toList.reverse[i]?;rw[PM (by simpa using y)];simp
   .rw[Ob (by rw[Nn,c.1];omega),Ob (by simp;omega)]
  subst O;show π _ A (load s.heap.objs.size >>= _) _ _ S;refine MU$ UX x$ MX ?_;let P:a.toList.reverse.toArray.toList=a.toList.reverse:=by simp
  rw[P];refine D S (λb o R e=>?_) ?_ m.gens m.os
  .let T:b≠s.heap.objs.size:=Nb (M4 e);exact m.heap b o (by simp only[Oz,Ny,P5,not_or];exact#[T,R])$ G b o e
  .exact OT$ M4 x)))
end
section
variable {prog:ψ}{w:bU}{A:cc}{E:ζ->ι->Prop}{s:ι}
theorem Xn{i:Array ζ}{Q:ζ->ι->Prop}(f:A.handled=θ)(H:s.heap.IsRevIter I t ((i.size:Int) - 1))(g:s.heap.IsList t i)(j:t≠I)(d:i.size<=τ)
  (h:∀S:ι,(∀b o,b≠I->s.heap.get? b=δ o->S.heap.get? b=δ o)->s.heap.objs.size<=S.heap.objs.size->S.gens=s.gens->S.os=s.os->
   Q (.ref S.heap.objs.size) { S with heap:=S.heap.push { cls:=.type "tuple",data:=.seq i.toList.reverse.toArray } }):
  kw (χ prog w) A (.call (.builtin "tuple.__new__") #[[.type "tuple",.ref I],[]]) (wants Q E) s:=by
 refine Tq (show π _ A.in1 (do checkBuiltinCall "tuple.__new__" #[[.type "tuple",.ref I],[]];again (.builtin "tuple.__new__" #[[.type "tuple",.ref I],[]])) _ _ s from ?_);refine MU (RG (PySem.F.newCall_tuple_1 _) (MX #[OX SO _,Op PySem.F.entry_tuple_new (by
  rw[N5 SO _];let e:=sub_tuple_self;let a:=init_tuple_lookup;let l:=madeHere_tuple;let c:=H.typeIs;wp_walk using OK c,rf (by simpa using f) H g j d;intro S k z m n;show π _ _ (eT i.toList.reverse.toArray >>= λv=>ret v) _ _ _;unfold eT;exact MU$ NF (MX$ h S k z m n) (by show i.toList.reverse.toArray.size<=τ;simpa using d))]))
theorem Xo{items:Array ζ}{Q:ζ->ι->Prop}(d:A.handled=θ)(c:s.heap.IsRevIter I t ((items.size:Int) - 1))(e:s.heap.IsList t items)(f:t≠I)(g:items.size<=τ)
  (h:∀a:ι,(∀b o,b≠I->s.heap.get? b=δ o->a.heap.get? b=δ o)->s.heap.objs.size<=a.heap.objs.size->a.gens=s.gens->a.os=s.os->
   Q (.ref a.heap.objs.size) { a with heap:=a.heap.push { cls:=.type "tuple",data:=.seq items.toList.reverse.toArray } }):π (χ prog w) A (call (.type "tuple") [.ref I]) Q E s:=by
 refine VM (Q₁:=λO S=>S.TypeIs O "tuple"/\Q O S) mU (PySem.F.typeCall_tuple_1 _) PySem.F.entry_object_init (Xn (by simpa using d) c e f g λa k z i j=>#[#[_,M3 _ Z,Z],h a k z i j]) λO S H=>?_;exact#[H.1,P0 O _,object_init_meets mU.init.lookup mU.made VU prog w A.in1 _ S #[H.1,Z,H.2]]
end
section
variable {X:Cx}{e:dr}{te:TE}{xl xr:ρ}{p p2 pos pos2:Pos}
inductive nV(K:γ)(Q:VK)(x:V)(b:Hp):Prop
 |mk(a c:_)(_:x= .ref a)(_:aI K b a c)(_:∀l,b l=θ->Q (.ref l) (af b l (.tup c.reverse)))
def Bn(K:γ)(te:TE):TE:=λa H Q=>te a H (nV K Q)
theorem si(M:X.calm=μ)(g:Gl X xl)(j:X.mg xl=θ)(l:bootBuiltins xl=δ (.type "tuple"))(m:Gl X xr)(n:X.mg xr=θ)(r:bootBuiltins xr=δ (.type "reversed"))(O:PE X e te)
  (t:xl≠"__name__":=by decide) (v:(xl==("__debug__":ρ))=ξ:=by decide) (y:xr≠"__name__":=by decide) (A:(xr==("__debug__":ρ))=ξ:=by decide)
  (E:Δ [.Call (.Name xr p2) [e] [] pos2] X.env=(ξ,eval (.Call (.Name xr p2) [e] [] pos2) X.env)::Δ [] X.env:=by rfl) (T:(fJ pos$ Δ [] X.env).any (·.1)=ξ:=by rfl)
  (F:Δ [e] X.env=(ξ,eval e X.env)::Δ [] X.env:=by rfl) (U:(fJ pos2$ Δ [] X.env).any (·.1)=ξ:=by rfl):
  PE X (.Call (.Name xl p) [.Call (.Name xr p2) [e] [] pos2] [] pos) (Bn X.K te):=by
 intro P s V H Q I h;refine NT$ zy I g j l ?_ t v;refine NG ?_ E T;rw[E];show π _ _ (spliced ((ξ,eval (.Call (.Name xr p2) [e] [] pos2) X.env)::fJ pos (Δ [] X.env))) _ _ s;refine OH ?_;refine NT$ zy I m n r ?_ y A;refine NG ?_ F U;rw[F];show π _ _ (spliced ((ξ,eval e X.env)::fJ pos2 (Δ [] X.env))) _ _ s;refine OH$ aV (O P s V H _ I h) λu d B=>?_;let⟨x,W,f,Y,a,G,ex,hq,q⟩:=B;subst ex;cases (show u=Θ a from Y);let⟨i,R,C,hz⟩:=f.list hq;let J:=R.length;refine O6$ call_reversed_list C.isList$ O6 ?_;let D:a < d.heap.objs.size:=by let⟨o,ho,_⟩:=C.isList;exact M4 ho
 refine Xo (s:={ d with heap:=d.heap.push (PySem.revObj a ((i.toArray.size:Int) - 1)) }) (items:=i.toArray) (I.ok.hd M) #[_,M3 _ Z,Z,Z] (C.isList.at λo e=>MW _ e) (Nb D)
  (by simp only[M1];omega) λS k hl kg ko=>?_
 let c:d.heap.objs.size<=S.heap.objs.size:=Ng (by show _<=(d.heap.push _).objs.size;rw[NP];exact NW _) hl;let L:∀b o,d.heap.get? b=δ o->(S.heap.push { cls:=.type "tuple",data:=.seq i.toArray.toList.reverse.toArray }).get? b=δ o:=λb o e=>MW _ (k b o (Nb$ M4 e)$ MW _ e);let hg:(S.heap.push { cls:=.type "tuple",data:=.seq i.toArray.toList.reverse.toArray }).get? S.heap.objs.size=δ { cls:=.type "tuple",data:=.seq i.toArray.toList.reverse.toArray }:=M3 _ Z;let N:aN X.prog X.w (af W S.heap.objs.size$ .tup G.reverse) (S.heap.push { cls:=.type "tuple",data:=.seq i.toArray.toList.reverse.toArray }) S.heap.objs.size (.tup G.reverse):=by
  refine#[by rw[TY];exact hz,i.reverse,aD.reverse R,?_];let ee:i.toArray.toList.reverse.toArray=i.reverse.toArray:=by simp
  rw[<- ee];exact#[_,hg,Z,_,Z]
 exact#[.ref S.heap.objs.size,_,f.call' (ch:=[]) ko (Un.laid L c$ f.hok.fresh c) (f.hok.laid L c N) (by show AllBare S.gens;rw[kg];exact f.bare) (λ_ z=>nomatch z),Z,q _$ f.hok.fresh c]
end
section
variable {prog:ψ}{w:bU}{A:cc}{E:ζ->ι->Prop}{s:ι}
theorem KJ{x:ζ}{Q:ζ->ι->Prop}(a:s.heap.IsTupleIter J T i)(e:s.heap.IsTuple T I)(f:I[i]?=δ x)
  (q:∀b,b.IsTupleIter J T (i+1)->fy J s.heap b->Q x { s with heap:=b }):π (χ prog w) A (Ψ$ .ref J) Q E s:=by
 let⟨o,H,g,h⟩:=id a;let⟨O,c,_,n,d⟩:=e;unfold Ψ;refine MU$ NE (name:=Str.ofString "__next__") a.typeIs Oa$ NC Oa a.typeIs Pk (show π _ _ (field (.ref J) 0 >>= _) _ _ s from ?_)$ Pe _;refine MU$ Nw H h (x:=.ref T) Z (show π _ _ (if (Θ T==β)=μ then _ else _) _ _ s from ?_);rw[Na (show ¬((Θ T==β)=μ) from M8)];refine(show π _ _ (field (.ref J) 1 >>= _) _ _ s from MU$ Nw H h (x:=.int i 0) Z (show π _ _ (seqItems? (.ref T) >>= _) _ _ s from MU$ N6 c d ?_));simp only[NQ,f];refine MU$ NR H h VW$ MX #[x,Z,MX$ q _ #[_,ND _ H$ Oc$ NB h _,(PH ..).trans g,by rw[NB h];simp [rawInt]] (OA ..)]
theorem rM(g:A.handled=θ)(H:s.heap.IsTupleIter J T i)(j:s.heap.IsTuple T I)(l:I[i]?=θ)
  (q:∀h e,nI J s.heap h->Shared.TypeIs { s with heap:=h } e "StopIteration"->E e { s with heap:=h }):π (χ prog w) A (Ψ$ .ref J) Q E s:=by
 let⟨o,a,p,c⟩:=id H;let⟨O,d,_,N,f⟩:=j;unfold Ψ;refine MU$ NE (name:=Str.ofString "__next__") H.typeIs Oa$ NC Oa H.typeIs Pk (show π _ _ (field (.ref J) 0 >>= _) _ _ s from ?_)$ Pe _;refine MU$ Nw a c (x:=.ref T) Z (show π _ _ (if (Θ T==β)=μ then _ else _) _ _ s from ?_);rw[Na (show ¬((Θ T==β)=μ) from M8)];refine(show π _ _ (field (.ref J) 1 >>= _) _ _ s from MU$ Nw a c (x:=.int i 0) Z (show π _ _ (seqItems? (.ref T) >>= _) _ _ s from MU$ N6 d f ?_));simp only[NQ,l];refine MU$ OV$ MU$ NR a c VW ?_;refine J4 (by simpa using g) λh e k t=>q h e (λb o m n=>k b o ?_) t;exact(Nj _ _$ NA m).trans n
end
def hX(b:Bool)(h:de)(i l:η)(k:Nat):Prop:=match b with
 |true=>h.IsListIter i l k
 |false=>h.IsTupleIter i l k
def i7(b:Bool)(h:de)(l:η)(x:Array ζ):Prop:=match b with
 |true=>h.IsList l x
 |false=>h.IsTuple l x
noncomputable def gw:Bool->String
 |true=>"list_iterator"
 |false=>"tuple_iterator"
theorem hX.kp{b:Bool}{H:de}(x:hX b h i l k)(e:∀o,h.get? i=δ o->H.get? i=δ o):hX b H i l k:=by
 cases b
 .exact UU x e
 .let⟨o,a,r⟩:=x;exact#[o,e o a,r]
theorem i7.kp{b:Bool}{H:de}(x:i7 b h l a)(e:∀o,h.get? l=δ o->H.get? l=δ o):i7 b H l a:=by
 cases b
 .let⟨o,c,r⟩:=x;exact#[o,e o c,r]
 .exact VT x e
theorem hX.ob(x:hX b h i l k):∃o,h.get? i=δ o/\o.cls= .type (gw b)/\∀v,o.data≠ .cell v:=by
 cases b
 .let⟨o,H,c,d⟩:=x;exact#[o,H,c,λv z=>by rw[d]at z;cases z]
 .let⟨o,H,c,d⟩:=x;exact#[o,H,c,λv z=>by rw[d]at z;cases z]
section
variable {prog:ψ}{w:bU}{A:cc}{E:ζ->ι->Prop}{s:ι}
theorem qi{Q:ζ->ι->Prop}(H:hX b s.heap J T i)(a:i7 b s.heap T I)(c:I[i]?=δ x)
  (q:∀h,hX b h J T (i+1)->fy J s.heap h->Q x { s with heap:=h }):π (χ prog w) A (Ψ$ .ref J) Q E s:=by
 cases b
 .exact KJ H a c q
 .exact wpAny_nextOf_list_item H a c q
theorem QI(H:A.handled=θ)(a:hX b s.heap J T i)(c:i7 b s.heap T I)(d:I[i]?=θ)
  (q:∀h e,nI J s.heap h->Shared.TypeIs { s with heap:=h } e "StopIteration"->E e { s with heap:=h }):π (χ prog w) A (Ψ$ .ref J) Q E s:=by
 cases b
 .exact rM H a c d q
 .exact wpAny_nextOf_list_end H a c d λh e k #[o,f,g]=>q h (.ref e) k #[o,f,g]
theorem Ca{Q:ζ->ι->Prop}(h:i7 b s.heap T i)
  (q:Q (.ref s.heap.objs.size) { s with heap:=s.heap.push { cls:=.type (gw b),data:=.fields (ε [.ref T,.int 0 0]) } }):π (χ prog w) A (pyIter$ .ref T) Q E s:=by
 cases b
 .exact Pz h q
 .exact RF h q
structure yl(z u v c d a b:η):Prop where
 uz:u≠z
 vz:v≠z
 cz:c≠z
 dz:d≠z
 uv:u≠v
 uc:u≠c
 ud:u≠d
 vc:v≠c
 vd:v≠d
 cd:c≠d
 az:a≠z
 av:a≠v
 ac:a≠c
 ad:a≠d
 bz:b≠z
 bv:b≠v
 bc:b≠c
 bd:b≠d
theorem Bu{Q:Option ζ->ι->Prop}(D:yl z u v c d a b)
  (H:IsZip s.heap z u v .none) (hu:IsPair s.heap u (.ref c) (.ref d)) (hv:IsPair s.heap v p q) (h1:hX B s.heap c a k) (h2:hX C s.heap d b k) (g1:i7 B s.heap a xs) (g2:i7 C s.heap b ys) (hx:xs[k]?=δ x) (hy:ys[k]?=δ y)
  (hQ:∀h,IsZip h z u v (rawInt s.heap.objs.size)->IsPair h v x y->hX B h c a (k+1)->hX C h d b (k+1)->IsPair h s.heap.objs.size x y->h.objs.size=s.heap.objs.size+1->
   (∀e o,e≠z->e≠v->e≠c->e≠d->s.heap.get? e=δ o->h.get? e=δ o)->Q (δ$ .ref s.heap.objs.size) { s with heap:=h }):π (χ prog w) A (pyNext$ .ref z) Q E s:=by
 let W:s.TypeIs (.ref z) "zip":=#[_,H,Z];unfold pyNext;refine MU$ Pu$ NE (name:=Str.ofString "__next__") W Og$ NC Og W Pq (show π _ _ (field (.ref z) 2 >>= _) _ _ _ from ?_)$ Pg _;refine MU$ Nw H Z (x:=.bool ξ) Z (show π _ _ (field (.ref z) 3 >>= _) _ _ _ from MU$ Nw H Z (x:=.ref u) Z$ MU$ N6 hu Z ?_);refine(show π _ _ (bF (.ref z) >>= _) _ _ _ from MU ?_);unfold bF;refine MU$ Nw H Z (x:=.none) Z$ MX ?_;simp only[P7];refine MU$ OV$ MU$ Nw H Z (x:=.ref v) Z$ MU$ O7 H VW λX F S=>?_;replace F:IsZip X z u v .ellipsis:=F;refine MU ?_;simp only[Ur,UD,O2,Ra];refine MU$ MU$ TQ (show π _ _ (Ψ (.ref c) >>= _) _ _ _ from ?_);refine MU$ qi (s:={ s with heap:=X }) (h1.kp λo e=>S.extBut _ _ D.cz e) (g1.kp λo e=>S.extBut _ _ D.az e) hx λG i2 l=>MX ?_;let Y:IsPair G v p q:=l.extBut _ _ D.vc (S.extBut _ _ D.vz hv);refine MU$ N6 (s:={ s with heap:=G }) Y Z$ MU$ Ux (s:={ s with heap:=G }) Y λI J r=>?_;replace J:IsPair I v x q:=J;refine MU$ Uz$ MX$ MU$ MU$ TQ (show π _ _ (Ψ (.ref d) >>= _) _ _ _ from ?_);let K:∀e o,e≠z->e≠c->e≠v->s.heap.get? e=δ o->I.get? e=δ o:=λe o N f g w=>r.extBut _ _ g (l.extBut _ _ f$ S.extBut _ _ N w);refine MU$ qi (s:={ s with heap:=I }) (h2.kp λo e=>K _ _ D.dz D.cd.symm D.vd.symm e) (g2.kp λo e=>K _ _ D.bz D.bc D.bv e) hy λL i4 i=>MX ?_;let v4:IsPair L v x q:=i.extBut _ _ D.vd J;refine MU$ N6 (s:={ s with heap:=L }) v4 Z$ MU$ Ux (s:={ s with heap:=L }) v4 λm V j=>?_;replace V:IsPair m v x y:=V;refine MU$ Uz$ MX$ MX$ MU$ N6 (s:={ s with heap:=m }) V Z$ MU$ PU ?_;let e5:m.objs.size=s.heap.objs.size:=by rw[j.1,i.1,r.1,l.1,S.1]
 let k5:∀e o,e≠z->e≠v->e≠c->e≠d->s.heap.get? e=δ o->m.get? e=δ o:=λe o N f g O w=>j.extBut _ _ f (i.extBut _ _ O$ K e o N g f w);let z5:IsZip m z u v .ellipsis:=j.extBut _ _ D.vz.symm (i.extBut _ _ D.dz.symm$ r.extBut _ _ D.vz.symm$ l.extBut _ _ D.cz.symm F);let j1:hX B m c a (k+1):=i2.kp λo e=>j.extBut _ _ D.vc.symm (i.extBut _ _ D.cd$ r.extBut _ _ D.vc.symm e);let j2:hX C m d b (k+1):=i4.kp λo e=>j.extBut _ _ D.vd.symm e;let lz:z < m.objs.size:=M4 z5;refine(show π _ _ (mB (.ref z) (.ref m.objs.size) >>= _) _ _ _ from MU ?_);unfold mB;let z6:IsZip (m.push { cls:=.type "tuple",data:=.seq (ε [x,y]) }) z u v .ellipsis:=MW _ z5;refine MU$ O7 z6 VW λm7 P R=>?_;replace P:IsZip m7 z u v (rawInt m.objs.size):=P;refine O7 P VW λM t T=>?_;replace t:IsZip M z u v (rawInt m.objs.size):=t;let U:∀e o,e≠z->m.get? e=δ o->M.get? e=δ o:=λe o n w=>T.extBut _ _ n (R.extBut _ _ n$ MW _ w);let t8:IsPair M m.objs.size x y:=T.extBut _ _ (NY lz) (R.extBut _ _ (NY lz)$ M3 _ Z);let e8:M.objs.size=m.objs.size+1:=by rw[T.1,R.1,NP]
 rw[e5]at t t8 e8;refine MX #[_,Z,MX ?_];show Q (δ$ .ref m.objs.size) _;rw[e5];exact hQ M t (U _ _ D.vz V) (j1.kp λo e=>U _ o D.cz e) (j2.kp λo e=>U _ o D.dz e) t8 e8 λe o N f g O w=>U e o N (k5 e o N f g O w)
theorem Fs{b2:Bool}{ys:Array ζ}{p q:ζ}{Q:Option ζ->ι->Prop}(C:A.handled=θ)(D:yl z u v c d a b)
  (h:IsZip s.heap z u v .none) (F:IsPair s.heap u (.ref c) (.ref d)) (G:hX I s.heap c a k) (J:i7 I s.heap a L) (K:L[k]?=θ)
  (O:∀H,(∀e o,e≠z->e≠v->e≠c->e≠d->s.heap.get? e=δ o->H.get? e=δ o)->Q θ { s with heap:=H }):π (χ prog w) A (pyNext$ .ref z) Q E s:=by
 let g:s.TypeIs (.ref z) "zip":=#[_,h,Z];unfold pyNext;refine MU$ Pu$ NE (name:=Str.ofString "__next__") g Og$ NC Og g Pq (show π _ _ (field (.ref z) 2 >>= _) _ _ _ from ?_)$ Pg _;refine MU$ Nw h Z (x:=.bool ξ) Z (show π _ _ (field (.ref z) 3 >>= _) _ _ _ from MU$ Nw h Z (x:=.ref u) Z$ MU$ N6 F Z ?_);refine(show π _ _ (bF (.ref z) >>= _) _ _ _ from MU ?_);unfold bF;refine MU$ Nw h Z (x:=.none) Z$ MX ?_;simp only[P7];refine MU$ OV$ MU$ Nw h Z (x:=.ref v) Z$ MU$ O7 h VW λm f S=>?_;replace f:IsZip m z u v .ellipsis:=f;refine MU ?_;simp only[Ur,UD,O2,Ra];refine MU$ MU$ TQ (show π _ _ (Ψ (.ref c) >>= _) _ _ _ from ?_);refine MU$ QI (s:={ s with heap:=m }) (by simpa using C) (G.kp λo e=>S.extBut _ _ D.cz e) (J.kp λo e=>S.extBut _ _ D.az e) K λM e i j=>?_;let l:IsZip M z u v .ellipsis:=i _ _ D.cz.symm f;refine O7 (s:={ s with heap:=M }) l VW λn U r=>?_;let t:Shared.TypeIs { s with heap:=n } e "StopIteration":=by
  cases e with
  |ref x=>
   let⟨o,y,B⟩:=j;let P:x≠z:=λw=>by subst w;let:=y.symm.trans l;cases this;injection B with w;exact absurd w VU
   exact#[o,r.extBut _ _ P y,B]
  |_=>exact j
 exact MU$ O0 (T:="StopIteration") (b:=μ) t Sb$ MX$ O n λe o N V R W w=>r.extBut _ _ N (i _ _ R$ S.extBut _ _ N w)
theorem Ft{b1 b2:Bool}{xs ys:Array ζ}{Q:ζ->ι->Prop}(J:i7 b1 s.heap a xs)(L:i7 b2 s.heap b ys)
  (h:∀H,IsZip H (s.heap.objs.size+4) (s.heap.objs.size+2) (s.heap.objs.size+3) .none->IsPair H (s.heap.objs.size+2) (.ref s.heap.objs.size) (.ref$ s.heap.objs.size+1)->
   IsPair H (s.heap.objs.size+3) .none .none->hX b1 H s.heap.objs.size a 0->hX b2 H (s.heap.objs.size+1) b 0->(∀e o,s.heap.get? e=δ o->H.get? e=δ o)->Q (.ref$ s.heap.objs.size+4) { s with heap:=H }):
  π (χ prog w) A (call (.type "zip") [.ref a,.ref b]) Q E s:=by
 refine Ug (S:=λ_ R c=>c=s/\R (.ok$ .ret$ .ref$ s.heap.objs.size+4) { s with heap:=((((s.heap.push { cls:=.type (gw b1),data:=.fields (ε [.ref a,.int 0 0]) }).push { cls:=.type (gw b2),data:=.fields (ε [.ref b,.int 0 0]) }).push { cls:=.type "tuple",data:=.seq (ε [.ref s.heap.objs.size,.ref$ s.heap.objs.size+1]) }).push { cls:=.type "tuple",data:=.seq (ε [.none,.none]) }).push { cls:=.type "zip",data:=.fields (ε [.none,.bool ξ,.bool ξ,.ref$ s.heap.objs.size+2,.ref$ s.heap.objs.size+3]) } })
  PySem.F.called_zip VU (PySem.F.typeCall_zip_2 _ _) (PySem.F.newCall_zip_2 _ _) (λO=>PySem.F.args_object_init_3 O _ _) PySem.F.entry_zip_new (.of_wp λp w' A' R c P=>?_) #[Z,?_]
 .let⟨rfl,q⟩:=P;let⟨r,g,D,t,os⟩:=c;let u:=sub_zip;let T:i7 b1 (Shared.heap #[r,g,D,t,os]) a xs:=J;let _L:i7 b2 (Shared.heap #[r.push { cls:=.type (gw b1),data:=.fields (ε [.ref a,.int 0 0]) },g,D,t,os]) b ys:=L.kp λo e=>MW _ e;wp_walk using Ca T,Ca _L;refine#[_,Z,?_];simp only[NP]at q ⊢;exact q
 .let z (h:de) (o:hY):(h.push o).objs.size=h.objs.size+1:=NP ..;generalize d:s.heap.push { cls:=.type (gw b1),data:=.fields (ε [.ref a,.int 0 0]) }=M;generalize f:M.push { cls:=.type (gw b2),data:=.fields (ε [.ref b,.int 0 0]) }=i;generalize j:i.push { cls:=.type "tuple",data:=.seq (ε [.ref s.heap.objs.size,.ref$ s.heap.objs.size+1]) }=k;generalize l:k.push { cls:=.type "tuple",data:=.seq (ε [.none,.none]) }=n;generalize v:n.push { cls:=.type "zip",data:=.fields (ε [.none,.bool ξ,.bool ξ,.ref$ s.heap.objs.size+2,.ref$ s.heap.objs.size+3]) }=m;let N:M.objs.size=s.heap.objs.size+1:=by rw[<- d,z]
  let x:i.objs.size=s.heap.objs.size+2:=by rw[<- f,z,N]
  let y:k.objs.size=s.heap.objs.size+3:=by rw[<- j,z,x]
  let U:n.objs.size=s.heap.objs.size+4:=by rw[<- l,z,y]
  let K:∀e o,n.get? e=δ o->m.get? e=δ o:=λe o w=>by rw[<- v];exact MW _ w
  let B:∀e o,k.get? e=δ o->m.get? e=δ o:=λe o w=>K e o (by rw[<- l];exact MW _ w);let C:∀e o,i.get? e=δ o->m.get? e=δ o:=λe o w=>B e o (by rw[<- j];exact MW _ w);let G:∀e o,M.get? e=δ o->m.get? e=δ o:=λe o w=>C e o (by rw[<- f];exact MW _ w);let V:∀e o,s.heap.get? e=δ o->m.get? e=δ o:=λe o w=>G e o (by rw[<- d];exact MW _ w);let I:IsZip m (s.heap.objs.size+4) (s.heap.objs.size+2) (s.heap.objs.size+3) .none:=by rw[<- U,<- v];exact M3 _ Z
  let W:IsPair m (s.heap.objs.size+3) .none .none:=K _ _ (by rw[<- y,<- l];exact M3 _ Z);let X:IsPair m (s.heap.objs.size+2) (.ref s.heap.objs.size) (.ref$ s.heap.objs.size+1):=B _ _ (by rw[<- x,<- j];exact M3 _ Z);let Y:m.get? (s.heap.objs.size+1)=δ { cls:=.type (gw b2),data:=.fields (ε [.ref b,.int 0 0]) }:=C _ _ (by rw[<- N,<- f];exact M3 _ Z);let q1:m.get? s.heap.objs.size=δ { cls:=.type (gw b1),data:=.fields (ε [.ref a,.int 0 0]) }:=G _ _ (by rw[<- d];exact M3 _ Z);refine#[#[_,I,Z],h m I X W ?_ ?_ V]
  .cases b1<;>exact#[_,q1,Z,Z]
  .cases b2<;>exact#[_,Y,Z,Z]
end
theorem Bv(n a b:Nat)(h:a < n)(H:b < n):yl (n+4) (n+2) (n+3) n (n+1) a b:=by refine#[?_,?_,?_,?_,?_,?_,?_,?_,?_,?_,?_,?_,?_,?_,?_,?_,?_,?_]<;>(show(_:Nat)≠_;omega)
section
variable {prog:ψ}{w:bU}{A:cc}{E:ζ->ι->Prop}
theorem BN(h:l≠J):∀(n i:Nat) (s:ι) (Q:List ζ->ι->Prop),s.heap.IsListIter J l i->s.heap.IsList l I->i+n<=I.size->
  (∀a,a.IsListIter J l (i+n)->fy J s.heap a->Q ((I.toList.drop i).take n) { s with heap:=a })->π (χ prog w) A (draw (.ref J) n) Q E s
 |0,i,s,Q,b,_,_,q=>show π _ _ (pure []) Q E s from MX (by simpa using q s.heap b (Tc ..))
 |n+1,i,s,Q,b,c,d,q=>by
  let H:i < I.size:=by omega
  refine(show π _ _ (pyNext (.ref J) >>= _) Q E s from MU$ T8 b c (x:=I[i]) (by simp [H]) λm j S=>?_);refine MU$ Np$ BN h n (i+1) _ _ j (c.extBut S.extBut h) VV λf g k=>MX ?_;let e:=q f (by rw[show i+(n+1)=i+1+n by omega];exact g) (S.trans k);rwa [show I.toList.drop i=I[i]::I.toList.drop (i+1) by simp [List.drop_eq_getElem_cons,H],List.take_succ_cons]at e
theorem Bp{s:ι}{Q:List ζ->ι->Prop}(f:A.handled=θ)(h:s.heap.IsList l i)(a:i.size=n)
  (q:∀c,nI s.heap.objs.size s.heap c->Q i.toList { s with heap:=c }):π (χ prog w) A (unpackItems (.ref l) n θ) Q E s:=by
 let H:l≠s.heap.objs.size:=by let⟨o,g,_⟩:=h;exact Nb$ M4 g
 unfold unpackItems;refine MU ?_;unfold notIterableAtAll;refine MU$ OF h.typeIs slot_list_iter.lookup ?_;refine MX ?_;simp only[Nf,Oj];refine MU$ Np$ RF h ?_;let I:(s.heap.push { cls:=.type "list_iterator",data:=.fields (ε [.ref l,.int 0 0]) }).IsListIter s.heap.objs.size l 0:=#[_,M3 _ Z,Z,Z];refine MU$ Np$ BN H n 0 _ _ I (h.push _) VV λj J S=>?_;let k:(i.toList.drop 0).take n=i.toList:=by rw[OU,Ou (by simp [a])]
 rw[k,Na (by simp [a])];let L:j.IsList l i:=(h.push _).extBut S.extBut H;refine MU$ Np$ Uo f J L (by simp [a]) λm p=>?_;simp only[Option.isSome_none,Nf,Oj];exact MX$ q m λb o d e=>p b o d (S.extBut b o d$ MW _ e)
end
section
variable {X:Cx}{pos:Pos}
inductive Ln(K:γ)(n:Nat)(t:yk)(v:V)(c:St)(H:Hp)(Q:St->Hp->Prop):Prop
 |mk(a b:_)(_:v= .ref a)(_:aI K H a b)(_:b.length=n)(_:t b c H Q)
theorem AA{E:List dr}{k n:Nat}{t:yk}(g:X.calm=μ)(h:FH X E t)
  (i:(assignEach E X.env).length=n:=by rfl) (c:(assignEach E X.env).findIdx? (·.1)=θ:=by rfl):PG X (.Tuple E k pos) (Ln X.K n t):=by
 intro P s f H v u Q I r d;let⟨a,x,j,l,m,d⟩:=d;subst j;cases r;let⟨q,R,p,A⟩:=I.list l;rw[assign_Tuple];refine MU$ Pr ?_;unfold unpack;rw[i,c];refine MU$ Np$ Bp (I.ok.hd g) p.isList (by simp [<- m,R.length]) λw y=>?_;let z:au X P f H { s with heap:=w }:=I.kept (t':=s.toks) λb o e=>y b o (Nb$ M4 e) e;exact h P _ f H x _ Q z (by simpa using R) d
end
theorem yD(l b:η)(I i:Array ζ)(n N:Nat)(D:Option η)(S:Array (Option ζ))(e:¬(!I.isEmpty&&fR (I.size+i.size))=μ)(W:I.size<=τ)(a:I.size+i.size<=τ+1):
  Meets (ef.«list.extend» #[[.ref l,.ref b],[]]) (λ_ R s=>s.heap.get? l=δ { cls:=.type "list",dict:=θ,data:=.seq I n,slots:=(ε []) }/\s.heap.get? b=δ #[.type "tuple",D,.seq i N,S]/\R (.ok$ .ret β) { s with heap:=s.heap.update l (ab λx=>x++i),toks:=s.toks }):=by
 refine U6 λp w A R s h=>?_;let⟨f,g,d,t,os⟩:=s;let⟨H,c,h⟩:=h;let F:=AutoSeq1.idx_int;let j:=AutoSeq1.sub_tuple_tuple;let k:=AutoSeq1.sub_list_list;let m:=AutoSeq1.sub_tuple_list;let o:=AutoSeq1.sub_list_tuple;let hz:(I++i).size<=τ+1:=by rw[Sf];exact a
 wp_walk using (R3 H Z (hz:=W) (_hz':=hz)),Ox H,Ox c;exact#[_,Z,h]
section
variable {X:Cx}
inductive iE(K:γ)(x:V)(a:List V)(H:Hp)(Q:VK):Prop
 |mk(l b c d:_)(_:x= .ref l)(_:a=[.ref b])(_:H l=δ (.lst c))(_:aB K H b d)(_:c.length+d.length<=τ)(_:Q .non (af H l (.lst (c++d))))
theorem YX:F9 X "list.extend" (iE X.K):=by
 intro p s A H x V v U Q I g j h;let⟨l,b,B,C,rfl,rfl,f,k,D,q⟩:=h;cases g;let⟨u,rfl,m⟩:=j.one;cases m;let⟨z,a,n,r,E,e⟩:=I.lstM f;let⟨i,R,P,F⟩:=I.tuple k;let o:=R.length;let d:a.toArray.size+i.toArray.size<=τ:=by rw[M1,M1];omega
 let c:¬(!a.toArray.isEmpty&&fR (a.toArray.size+i.toArray.size))=μ:=by rw[gD d,R0];exact M8
 obtain⟨⟨G,O,J,S⟩,t,w,N,y⟩:=P;cases w;cases y;refine Su UH #[_,e,Z] Uw (Uk _ _) (yD l b a.toArray i.toArray n N O S c (by rw[M1];omega) VV) #[e,t,?_];refine#[.non,_,I.lset (its':=a++i) f e VW (r.append R) (by rw[MZ];omega),Z,q]
end
section
variable {prog:ψ}{w:bU}{A:cc}{E:ζ->ι->Prop}{s:ι}
theorem Jz{R:Result->ι->Prop}{P:Nat->ζ->Prop}{St:Nat->ι->Prop}
  (W:WalksS prog w A.in1 I N j G n P St) (S:η) (H:¬S∈N) (c:List ρ) (O:c.length=n) (Q:∀i v,P i v->∃x t,c[i]?=δ x/\v= .str x t) (d:∀L:List ρ,L.Nodup->(∀x∈L,x∈c)->L.length+1 < scanBound):
  ∀(k i:Nat) (s:ι) (L:List ρ),n - i=k->i<=n->St i s->c8 prog w s.heap S L->(∀x,x∈L↔x∈c.take i)->L.length<=i->
   (∀a l,Moved (S::j) G s a->c8 prog w a.heap S l->(∀x,x∈l↔x∈c)->l.length<=n->R (.ok$ .ret .none) a)->
   kw (χ prog w) A (.builtin "set.update.loop" #[[.ref S,.ref I],[]]) R s:=by
 let f:¬S∈j:=λz=>H (W.sub _ z);let sub:∀b∈j,b∈S::j:=λb z=>Nv _ z;intro k;induction k with
 |zero=>
  intro i s L T U st p q F r;let e:i=n:=by omega
  subst e;refine Op Rk ?_;rw[N5 O1];show π _ A.in1 (pyNext (.ref I) >>= _) _ _ s;refine MU$ W.done s _ _ st λa m=>?_;show π _ A.in1 (ret β) _ _ a;refine MX$ r a L (m.mono sub) (p.at λo e=>m.heap S o f e) (λx=>?_) F;rw[q x,<- O,NJ]
 |succ k V=>
  intro i s L T U st p q F r;let J:i < n:=by omega
  refine Op Rk ?_;rw[N5 O1];show π _ A.in1 (pyNext (.ref I) >>= _) _ _ s;refine MU$ W.item i s _ _ J st λv a X u m=>?_;let⟨x,t,B,rfl⟩:=Q i v X;show π _ A.in1 (lu [lq x t] (setAdd S$ .str x t) >>= _) _ _ a;refine MU$ Np ?_;let h:L.Nodup:=by let⟨_,_,_,_,_,_,_,_,_,h,_⟩:=p;exact h
  refine Yb (p.at λo e=>m.heap S o f e) (d L h λx B=>Om ((q x).mp B)) λb h' Y K S2 g=>?_;refine MX #[OX O1 _,V (i+1) _ _ VV J (W.frame _ a _ _ u g λb d o e=>?_) S2 (λy=>?_) ?_ λC l M D q1 q2=>?_]
  .rw[K.2 b (λz:b=S=>H (by rw[<- z];exact d))];exact e
  .let tk:c.take (i+1)=c.take i++[x]:=by rw[RW,B];rfl
   rw[tk,OP,P9,<- q y];split
   .rename_i hm
    exact#[.inl,λz=>z.elim id λe=>e▸hm]
   .rw[OP,P9]
  .split
   .omega
   .rw[MZ,O5];omega
  .refine r C l (Moved.trans W.gtrans ((m.mono sub).then_heap g λb o d e=>?_) M) D q1 q2;rw[K.2 b (λz:b=S=>d (by rw[z];exact No))];exact e
end
section
variable {prog:ψ}{w:bU}{A:cc}{E:ζ->ι->Prop}{s:ι}
set_option maxHeartbeats 3200000 in
theorem J2{Q:ζ->ι->Prop}
  (hh:A.handled=θ) (hl:s.heap.IsList l I) (hi:StrsAre I.toList n) (C:∀L:List ρ,L.Nodup->(∀x∈L,x∈n)->L.length+1 < scanBound)
  (h:∀(a:de) (t:Nat) L,c8 prog w a s.heap.objs.size L->(∀x,x∈L↔x∈n)->L.length<=I.size->
   (∀b o,b < s.heap.objs.size->s.heap.get? b=δ o->a.get? b=δ o)->s.toks<=t->Q (.ref s.heap.objs.size) { s with heap:=a,toks:=t }):
  π (χ prog w) A (call (.type "set") [.ref l]) Q E s:=by
 let⟨c,tl,m1⟩:=PySem.F.called_set.mro;let m0:=PySem.F.called_set.made;let sb:=PySem.F.called_set.sub;refine TB$ Tq ?_;show π _ _ (callAny (.type "set") _) _ _ _;refine MX #[Code.quiet_builtin _ VX,Op PySem.F.entry_type_call ?_];rw[Around.under_plain (weight_type_call_type "set" [.ref l] []) Z];let n1:=PySem.F.called_set.notType;let n2:=PySem.F.called_set.canCreate;let ct:=PySem.F.typeCall_set_1 (.ref l);repeat (any_goals (first |assumption |wp_step))
 refine Pj (Qb (.ref l) (E:=E) (G:=λv S=>v= .ref s.heap.objs.size/\S={ s with heap:=s.heap.push (bG w) }) #[Z,Z]) λr S D=>?_;cases r with
 |error e=>exact D
 |ok fl=>
  cases fl with
  |ret o2=>
   let⟨rfl,rfl⟩:=D;let J:(s.heap.push$ bG w).get? s.heap.objs.size=δ (bG w):=M3 _ Z;let hT:Shared.TypeIs { s with heap:=s.heap.push (bG w) } (.ref s.heap.objs.size) "set":=#[_,J,Z];let li:=PySem.F.called_set.init.lookup;let bi:=PySem.F.called_set.init.bind (.ref s.heap.objs.size);repeat (any_goals (first |assumption |wp_step))
   refine Pj (codeAny_call_builtin (R:=wants (λr d=>r= .none/\∃a t L,d={ s with heap:=a,toks:=t }/\c8 prog w a s.heap.objs.size L/\(∀x,x∈L↔x∈n)/\L.length<=I.size/\
     (∀b o,b < s.heap.objs.size->s.heap.get? b=δ o->a.get? b=δ o)/\s.toks<=t) E) PySem.F.called_set.init.plain PySem.F.entry_set_init (check_set_init_1 hT ?_)) λp d H=>?_
   .let⟨ol,q,u,nl,y⟩:=hl;let⟨o1,g,K,O⟩:=ol;simp only at u y;subst u;subst y;let f:(s.heap.push$ bG w).get? l=δ { cls:=.type "list",dict:=g,data:=.seq I nl,slots:=O }:=MW _ q;let ns:=PySem.F.sub_list_set;let nf:=PySem.F.sub_list_frozenset;let ne:(fx "list"==fx "dict")=ξ:=by decide
    let j:(s.heap.push$ bG w).IsList l I:=#[_,f,Z,nl,Z];unfold bG at J hT f j ⊢;unfold ef.«set.__init__» noKeywords Builtin.Frozenset.updateFrom;generalize M:pyIter=PI;wp_walk;subst M;refine RF j ?_;refine MU$ Tw ?_;let z:l < s.heap.objs.size:=M4 q;let h3:A.in1.in1.in1.handled=θ:=by simp [hh]
    let N:l≠(s.heap.push$ bG w).objs.size:=by rw[NP];exact Nb$ OS z
    let P:¬s.heap.objs.size∈[(s.heap.push$ bG w).objs.size,l]:=by rw[NP];simp only[Oz,Ny,P5,not_or];exact#[Nb$ Oy _,NY z]
    let B:n.length=I.size:=by rw[_L.StrsAre.len hi,Nn]
    refine Jz ((Walks.list h3 _ l N I).toS) s.heap.objs.size P n B (λi v hv=>StrsAre.at' hi i v (by rw[Ow];exact hv)) C (I.size - 0) 0 _ [] VV (M6 _)
     #[#[_,M3 _ Z,Z,Z],j.push _] (Yc$ MW _ J) (λx=>by simp) (M0 _) λs' L m T U V=>?_
    let⟨a,g',d',W,X⟩:=s';let eg:g'=s.gens:=m.gens;let ed:d'=s.drawn:=m.drawn;let eo:X=s.os:=m.os;subst eg;subst ed;subst eo;show π _ _ _ _ _ _;refine MX ?_;show π _ _ (ret β) _ _ _;refine MX #[Z,a,W,L,Z,T,U,V,λb o C e=>?_,m.toks];let b1:b≠s.heap.objs.size:=Nb C;let b2:b≠(s.heap.push$ bG w).objs.size:=by rw[NP];exact Nb$ OS C
    exact m.heap b o (by simp only[Oz,Ny,P5,not_or];exact#[b1,b2])$ MW _$ MW _ e
   .cases p with
    |error e=>exact H
    |ok k=>
     cases k with
     |ret r=>
      let⟨rfl,a,t,L,rfl,T,U,V,Y,q3⟩:=H;repeat (any_goals (first |assumption |wp_step))
      exact h _ _ _ T U V Y q3
     |_=>exact H.elim
  |_=>exact D.elim
end
section
variable {X:Cx}
theorem qU(m:X.calm=μ):eI X (.type "set") (λg H Q=>∃(p:η) (S:List ρ),g=[.ref p]/\aI X.K H p (S.map ry)/\(∀L:List ρ,L.Nodup->(∀x∈L,x∈S)->L.length+1 < scanBound)/\
  ∀l L,H l=θ->L.Nodup->(∀x,x∈L↔x∈S)->Q (.ref l) (af H l$ IL X.prog X.w l L)):=by
 intro P s B H g U Q I r h;let⟨p,S,rfl,n,t,q⟩:=h;let⟨u,rfl,R⟩:=fg r;cases R;let⟨i,v,y,C⟩:=I.list n;let j:=qh v;let D:i.length=S.length:=(_L.StrsAre.len j).symm;refine J2 (I.ok.hd m) y.isList (by simpa using j) t λc T L d z E k _=>?_;let a:L.Nodup:=by let⟨_,_,_,_,_,_,_,_,_,a,_⟩:=d;exact a
 let A:∀b o,s.heap.get? b=δ o->c.get? b=δ o:=λb o e=>k b o (M4 e) e;obtain⟨o,f⟩:∃o,c.get? s.heap.objs.size=δ o:=let #[o,_,_,_,f,_]:=d;#[o,f]
 exact#[.ref s.heap.objs.size,_,I.laid A (M0 _) (show aN X.prog X.w _ c _ (IL X.prog X.w s.heap.objs.size L) from #[d,#[o,f],λF G x e=>c8.at x e]),Z,q _ _ (I.hok.fresh$ M0 _) a z]
end
section
variable {X:Cx}{CX:pY}{k:Nat}{f C:η}{fd:hG}{ps:List ρ}{sp:Sp}{dvs:List V}{ds:List ζ}{E:XK}{x m:ρ}{p pos apos:Pos}{e:dr}{es:List dr}{t:TA}
structure CD(K:γ)(C:η)(m:ρ)(f:η):Prop where
 rd:PySem.W.readsIn K C (.type "type")=μ
 ga:specialIn K (.ref C) "__getattribute__"=δ (δ$ .builtin "type.__getattribute__")
 at_:PySem.W.findCls K (.ref C) (.type "type") m=δ (.val$ .ref f)
 kp:iv K (.ref f)=μ
theorem Ay{pl:Sem Bool}(j:Gl X x)(l:X.mg x=↑C)(M:CD X.K C m f)(F:ah X.prog X.w X.K X.mg X.base CX k f fd ps sp)(n:bJ k X.A)(q:aC X.K fd ps ds)(u:aD dvs ds)(v:dw CX X E)(y:PA X (e::es) t)
  (a:(x==("__debug__":ρ))=ξ:=by decide)
  (c:Δ (e::es) X.env=(ξ,eval e X.env)::Δ es X.env:=by rfl) (d:(fJ pos$ Δ es X.env).any (·.1)=ξ:=by rfl)
  (z:eval (.Call (.Attribute (.Name x p) m apos) (e::es) [] pos) X.env=(do
   let O <- eval (.Name x p) X.env
   standAt apos.atName
   let (f,first) <- lu [O] (getMethod O m pl)
   callWith pos f first (fJ pos$ Δ (e::es) X.env) (backToKw pos$ keywordEach [] X.env)):=by rfl):
  PE X (.Call (.Attribute (.Name x p) m apos) (e::es) [] pos) (ff sp dvs E t):=by
 intro P s g H Q I h;refine Rv (pl:=pl) (zJ I j l ?_ a) z;refine PySem.W.method_cls I.kIn M.ga$ PySem.W.cls_value I.kIn M.rd M.at_ Z ?_;let B:au X P g H { s with toks:=s.toks+1 }:=I.kept (h':=s.heap) λb o e=>e;refine Sv (h₀:=X.base) I.ok.mod.kin M.kp (aV (y pos P _ g H _ B h) λU S #[G,J,i,r,D]=>#[i.kIn,?_]) c d;exact QR F n q u v i r D
end
abbrev f9(h:de)(z u v T:η)(f:Bool):Prop:=
 h.get? z=δ { cls:=.type "zip",dict:=θ,data:=.fields (ε [rawInt T,.bool f,.bool ξ,.ref u,.ref v]),slots:=(ε []) }
section
variable {prog:ψ}{w:bU}{A:cc}{E:ζ->ι->Prop}{s:ι}
theorem sQ{Q:Option hY->ι->Prop}(h:Q (s.heap.get? a) s):π M A (loadIfAlive a) Q E s:=λ_ _ _=>h
theorem Gj{Q:Bool->ι->Prop}(H:f9 s.heap z u v T f)(a:∃o,s.heap.get? T=δ o)
  (q:∀h,f9 h z u v T μ->nI z s.heap h->h.objs.size=s.heap.objs.size->Q ξ { s with heap:=h }):π (χ prog w) A (bF$ .ref z) Q E s:=by
 unfold bF;refine MU$ Nw H Z (x:=rawInt T) Z ?_;show π _ _ (loadIfAlive ((T:Int).toNat) >>= _) _ _ s;refine MU$ sQ ?_;let⟨o,c⟩:=a;rw[NQ,c];simp only[TM,Nf,Oj];refine MU$ Nw H Z (x:=.bool f) Z ?_;cases f with
 |true=>simp only[Oq,Nf,Oj];exact MU$ MX$ MX$ q s.heap H (λb o _ e=>e) Z
 |false=>rw[M7 VU];refine MU$ O7 H VW λh d S=>MX (q h d S.extBut S.1)
theorem Bt{Q:Option ζ->ι->Prop}(D:yl z u v c d a b)
  (g:f9 s.heap z u v T f) (p:∃o,s.heap.get? T=δ o) (q:IsPair s.heap u (.ref c) (.ref d)) (r:hX B s.heap c a k) (t:hX l s.heap d b k) (G:i7 B s.heap a C) (F:i7 l s.heap b Y) (I:C[k]?=δ x) (J:Y[k]?=δ y)
  (L:∀h,f9 h z u v T μ->hX B h c a (k+1)->hX l h d b (k+1)->IsPair h s.heap.objs.size x y->h.objs.size=s.heap.objs.size+1->
   (∀e o,e≠z->e≠c->e≠d->s.heap.get? e=δ o->h.get? e=δ o)->Q (δ$ .ref s.heap.objs.size) { s with heap:=h }):π (χ prog w) A (pyNext$ .ref z) Q E s:=by
 let H:s.TypeIs (.ref z) "zip":=#[_,g,Z];unfold pyNext;refine MU$ Pu$ NE (name:=Str.ofString "__next__") H Og$ NC Og H Pq (show π _ _ (field (.ref z) 2 >>= _) _ _ _ from ?_)$ Pg _;refine MU$ Nw g Z (x:=.bool ξ) Z (show π _ _ (field (.ref z) 3 >>= _) _ _ _ from MU$ Nw g Z (x:=.ref u) Z$ MU$ N6 q Z ?_);refine(show π _ _ (bF (.ref z) >>= _) _ _ _ from MU$ Gj g p λO P i n=>?_);simp only[Nf,Oj];refine MU ?_;simp only[T5,O2,Ra];refine MU$ MU$ Np (show π _ _ (Ψ (.ref c) >>= _) _ _ _ from ?_);refine MU$ qi (s:={ s with heap:=O }) (r.kp λo e=>i _ _ D.cz e) (G.kp λo e=>i _ _ D.az e) I λM R j=>MX (MX ?_);refine MU$ MU$ Np (show π _ _ (Ψ (.ref d) >>= _) _ _ _ from ?_);let K:∀e o,e≠z->e≠c->s.heap.get? e=δ o->M.get? e=δ o:=λe o n U w=>j.extBut _ _ U (i _ _ n w);refine MU$ qi (s:={ s with heap:=M }) (t.kp λo e=>K _ _ D.dz D.cd.symm e) (F.kp λo e=>K _ _ D.bz D.bc e) J λm V S=>MX (MX$ MX ?_);show π _ _ (newTuple [x,y] >>= _) _ _ _;refine MU$ PU$ MX #[_,Z,MX ?_];let N:m.objs.size=s.heap.objs.size:=by rw[S.1,j.1];exact n
 let W:f9 m z u v T μ:=S.extBut _ _ D.dz.symm (j.extBut _ _ D.cz.symm P);show Q (δ$ .ref m.objs.size) _;rw[N];refine L _ (MW _ W) (R.kp λo e=>MW _ (S.extBut _ _ D.cd e)) (V.kp λo e=>MW _ e) (by rw[<- N];exact M3 _ Z) (by rw[NP,N]) λe o X a2 a3 w=>MW _ (S.extBut _ _ a3$ K _ _ X a2 w)
theorem Fq{b2:Bool}{ys:Array ζ}{Q:Option ζ->ι->Prop}(j:A.handled=θ)(D:yl z u v c d a b)
  (H:f9 s.heap z u v T f) (l:∃o,s.heap.get? T=δ o) (m:IsPair s.heap u (.ref c) (.ref d)) (p:hX B s.heap c a k) (G:i7 B s.heap a q) (r:q[k]?=θ)
  (t:∀i,(∀e o,e≠z->e≠c->e≠d->s.heap.get? e=δ o->i.get? e=δ o)->Q θ { s with heap:=i }):π (χ prog w) A (pyNext$ .ref z) Q E s:=by
 let h:s.TypeIs (.ref z) "zip":=#[_,H,Z];unfold pyNext;refine MU$ Pu$ NE (name:=Str.ofString "__next__") h Og$ NC Og h Pq (show π _ _ (field (.ref z) 2 >>= _) _ _ _ from ?_)$ Pg _;refine MU$ Nw H Z (x:=.bool ξ) Z (show π _ _ (field (.ref z) 3 >>= _) _ _ _ from MU$ Nw H Z (x:=.ref u) Z$ MU$ N6 m Z ?_);refine(show π _ _ (bF (.ref z) >>= _) _ _ _ from MU$ Gj H l λM F g n=>?_);simp only[Nf,Oj];refine MU ?_;simp only[T5,O2,Ra];refine MU$ MU$ Np (show π _ _ (Ψ (.ref c) >>= _) _ _ _ from ?_);refine MU$ QI (s:={ s with heap:=M }) (by simpa using j) (p.kp λo e=>g _ _ D.cz e) (G.kp λo e=>g _ _ D.az e) r λy e S C=>?_;exact MU$ O0 (T:="StopIteration") (b:=μ) C Sb$ MX$ t y λe o n N I w=>S _ _ N (g _ _ n w)
end
theorem JN:typeLookup (.type "zip") "__getattr__"=pure θ:=by rw[Oo,NM];kernel_rfl
theorem Yf:typeLookup (.type "zip") "keys"=pure θ:=by rw[Oo,NM];kernel_rfl
theorem Xp:entryFor table "zip.__getattribute__"=δ ef.«object.__getattribute__»:=
 Sc (id':="object.__getattribute__") (by kernel_rfl) VX VX (by kernel_rfl)
theorem KW(a:η)(x:Array ζ)(S:Array (Option ζ))(u:Tok):
  Meets (ef.«object.__getattribute__» #[[.ref a,.str "keys" u],[]]) (λA R s=>s.heap.get? a=δ { cls:=.type "zip",dict:=θ,data:=.fields x,slots:=S }/\raisesAttr (.ref a) "keys" A R s):=
 U6 λp w A R s H=>by
  let⟨c,g,d,t,os⟩:=s;let⟨e,H⟩:=H;let f:(#[c,g,d,t,os]:ι).TypeIs (.ref a) "zip":=#[_,e,Z];let b:=Yf;let h:(["__module__","__name__","__qualname__","__doc__","__annotations__"]:List ρ).contains "keys"=ξ:=by decide+kernel
  unfold ef.«object.__getattribute__»;repeat (any_goals (first |assumption |wp_step))
  try simp only[h,Nf,Oj]
  repeat (any_goals (first |assumption |wp_step))
  exact wpAny_raiseAttrError H.1 H.2$ attrMsg_fits VX (by size_fits)
section
variable {prog:ψ}{w:bU}{A:cc}{E:ζ->ι->Prop}{s:ι}
theorem y6{Q:Option ζ->ι->Prop}(f:s.heap.get? a=δ { cls:=.type "zip",dict:=θ,data:=.fields x,slots:=j })(k:A.handled=θ)
  (h:∀c T,(∀b o,s.heap.get? b=δ o->c.get? b=δ o)->Q θ { s with heap:=c,toks:=T }):π (χ prog w) A (getAttr? (.ref a) "keys") Q E s:=by
 let⟨l,g,d,T,os⟩:=s;let i:∀t,(#[l,g,d,t,os]:ι).TypeIs (.ref a) "zip":=λ_=>#[_,f,Z];let m:=sub_AttributeError;let n:=ls.lookup;let p:=ls.bind (.ref a);let q:=JN;unfold getAttr? getAttrBy? getAttrBy;repeat (any_goals (first |assumption |exact i _ | ((with_reducible show π _ _ (call (Value.builtin "zip.__getattribute__") _ _) _ _ _);refine Su ls (i _) Xp (PySem.F.args_zip_getattribute_2 _ _) (KW a x j _) #[f,by simpa using k,λc t e H=>?_]) |wp_step))
 let⟨r,u,v⟩:=H.there;show π _ _ (getattributeRaised _ _ _ _ _ _ _) _ _ _;unfold getattributeRaised;repeat (any_goals (first |assumption |wp_step))
 exact h _ _ H.keeps
def CN(h:de)(z u v c d a b Dd:η)(x y:Array ζ)(i:Nat):Prop:=
 ((IsZip h z u v .none/\∃p q,IsPair h v p q)∨∃T f o,f9 h z u v T f/\h.get? T=δ o/\T≠z/\T≠c/\T≠d/\T≠Dd)/\IsPair h u (.ref c) (.ref d)/\hX ξ h c a i/\hX ξ h d b i/\i7 ξ h a x/\i7 ξ h b y
theorem Bw{Dd:η}{Q:Option ζ->ι->Prop}(D:yl z u v c d a b)(l:Dd < s.heap.objs.size)(S:CN s.heap z u v c d a b Dd J Y k)(L:J[k]?=δ x)(M:Y[k]?=δ y)
  (N:∀h,CN h z u v c d a b Dd J Y (k+1)->IsPair h s.heap.objs.size x y->h.objs.size=s.heap.objs.size+1->(∀e o,e≠z->e≠v->e≠c->e≠d->s.heap.get? e=δ o->h.get? e=δ o)->Q (δ$ .ref s.heap.objs.size) { s with heap:=h }):π (χ prog w) A (pyNext$ .ref z) Q E s:=by
 let⟨H,g,j,m,G,i⟩:=S;let⟨oc,n,_⟩:=j.ob;let⟨od,r,_⟩:=m.ob;rcases H with ⟨H,p,q,U⟩ | ⟨T,f,o,H,O,t,P,R,V⟩
 .refine Bu D H g U j m G i L M λh B v1 I C t F K=>N h #[.inr #[s.heap.objs.size,ξ,_,B,t,NY$ M4 H,NY$ M4 n,NY$ M4 r,NY l],K _ _ D.uz D.uv D.uc D.ud g,I,C,G.kp λo e=>K _ _ D.az D.av D.ac D.ad e,i.kp λo e=>K _ _ D.bz D.bv D.bc D.bd e] t F K
 .refine Bt D H #[o,O] g j m G i L M λh B I C W F K=>N h #[.inr #[T,μ,o,B,K _ _ t P R O,t,P,R,V],K _ _ D.uz D.uc D.ud g,I,C,G.kp λo e=>K _ _ D.az D.ac D.ad e,i.kp λo e=>K _ _ D.bz D.bc D.bd e] W F λe o X n2 n3 n4 w=>K e o X n3 n4 w
theorem Fu{Dd:η}{Q:Option ζ->ι->Prop}(g:A.handled=θ)(D:yl z u v c d a b)(n:CN s.heap z u v c d a b Dd x ys k)(i:x[k]?=θ)
  (j:∀H,(∀e o,e≠z->e≠v->e≠c->e≠d->s.heap.get? e=δ o->H.get? e=δ o)->Q θ { s with heap:=H }):π (χ prog w) A (pyNext$ .ref z) Q E s:=by
 let⟨h,l,m,B,G,C⟩:=n;rcases h with ⟨h,p,q,F⟩ | ⟨T,f,o,h,r,I,J,L,M⟩
 .exact Fs (b2:=ξ) (p:=p) (q:=q) (ys:=ys) g D h l m G i j
 .exact Fq (b2:=ξ) (ys:=ys) g D h #[o,r] l m G i λH K=>j H λe o N O t y w=>K e o N t y w
structure IX(D z u v c d a b:η):Prop where
 z:D≠z
 u:D≠u
 v:D≠v
 c:D≠c
 d:D≠d
 a:D≠a
 b:D≠b
theorem CN.keep{h j:de}{Dd:η}(F:IX Dd z u v c d a b)(k:∀e o,e≠Dd->h.get? e=δ o->j.get? e=δ o)(st:CN h z u v c d a b Dd x y i):CN j z u v c d a b Dd x y i:=by
 let⟨H,l,m,n,G,r⟩:=st;refine#[?_,k _ _ F.u.symm l,m.kp λo e=>k _ _ F.c.symm e,n.kp λo e=>k _ _ F.d.symm e,G.kp λo e=>k _ _ F.a.symm e,r.kp λo e=>k _ _ F.b.symm e];rcases H with ⟨H,p,q,B⟩ | ⟨T,f,o,H,g,C,D,I,t⟩
 .exact .inl #[k _ _ F.z.symm H,p,q,k _ _ F.v.symm B]
 .exact .inr #[T,f,o,k _ _ F.z.symm H,k _ _ t g,C,D,I,t]
theorem KY{K:Type}[DecidableEq K]{knd:KeyKind prog w K}{R:Result->ι->Prop}{Dd:η}{x:Array ζ}(X:A.handled=θ)(D:yl z u v c d a b)(F:IX Dd z u v c d a b)(m:List (K×ζ))(Y:m.length=x.size)(h0:x.size<=τ)
  (hP:∀(i:Nat),i < x.size->∃f V k,x[i]?=δ f/\ys[i]?=δ V/\knd.is k f=μ/\m[i]?=δ (k,V)):
  ∀(j i:Nat) (s:ι) (n:Int),x.size - i=j->i<=x.size->CN s.heap z u v c d a b Dd x ys i->s.heap.DictOf knd Dd (merged []$ m.take i)->
   (∀h T,(∀e o,e≠Dd->e≠z->e≠v->e≠c->e≠d->s.heap.get? e=δ o->h.get? e=δ o)->h.DictOf knd Dd (merged [] m)->R (.ok$ .ret .none) { s with heap:=h,toks:=T })->
   kw (χ prog w) A (.builtin "dict.update.loop" #[[.ref Dd,.ref z,.int n 0,.none],[]]) R s:=by
 intro j;induction j with
 |zero=>
  intro i s n hj hi st q C;let e:i=x.size:=by omega
  subst e;refine Op JV ?_;rw[N5 zM];show π _ A.in1 (pyNext (.ref z) >>= _) _ _ s;refine MU$ Fu (by simpa using X) D st VW λh g=>?_;show π _ A.in1 (Builtin.Dict.addKeywords Dd [] >>= λ_=>ret β) _ _ { s with heap:=h };refine MU ?_;unfold Builtin.Dict.addKeywords;refine MX$ MX$ C h s.toks (λe o _ N t y B w=>g e o N t y B w) ?_;rw[<- Y,NJ]at q;let⟨o,es,ep,ho,r⟩:=q;exact#[o,es,ep,g _ _ F.z F.v F.c F.d ho,r]
 |succ j ih=>
  intro i s n hj hi st q C;let M:i < x.size:=by omega
  let⟨f,V,k,hx,hy,O,hm⟩:=hP i M;refine Op JV ?_;rw[N5 zM];show π _ A.in1 (pyNext (.ref z) >>= _) _ _ s;let⟨oD,G,I,H,rD⟩:=id q;let L:Dd < s.heap.objs.size:=M4 H;refine MU$ Bw D L st hx hy λl S P N g=>?_;let hb:Shared.TypeIs { s with heap:=l } (.ref s.heap.objs.size) "tuple":=#[_,P,Z];let J:l.DictOf knd Dd (merged []$ m.take i):=#[oD,G,I,g _ _ F.z F.v F.c F.d H,rD];dsimp only;refine MU$ Np ?_;refine MU$ wpAny_tryCatch ?_;unfold Builtin.Dict.pairItems;refine MU$ OK hb ?_;rw[M7 VU];refine MU$ N6 P Z$ MX ?_;show π _ A.in1 (lu [f,V]$ dictSet Dd f V) _ _ { s with heap:=l };unfold dictSet;refine Np$ Np$ MU$ knd.pyHash O ?_;let Q:(merged ([]:List (K×ζ))$ m.take i).length<=i:=by let:=Va ([]:List (K×ζ)) (m.take i);rw[Nq]at this;simp only[SA]at this;omega
  refine wpAny_dictSetHashed_pairs (s:={ s with heap:=l,toks:=s.toks+1 }) O J (λh p sb=>?_) VV;rw[<- merged_take_succ [] m i (k,V) hm]at p;let U:∀e o,e≠Dd->l.get? e=δ o->h.get? e=δ o:=λe o ne w=>(sb.2 e ne).trans w;refine MX #[OX zM _,ih (i+1) _ (n+1) VV M (S.keep F U) p λh2 T k2 d2=>C h2 T (λe o W N t y B w=>k2 e o W N t y B (U _ _ W$ g e o N t y B w)) d2]
theorem Qi{K:Type}[DecidableEq K]{knd:KeyKind prog w K}{more:List (K×ζ)}{Q:ζ->ι->Prop}(N:A.handled=θ)(D:yl z u v c d a b)
  (j:IsZip s.heap z u v .none) (P:IsPair s.heap u (.ref c) (.ref d)) (m:∃p q,IsPair s.heap v p q) (U:hX ξ s.heap c a 0) (V:hX ξ s.heap d b 0) (W:i7 ξ s.heap a x) (X:i7 ξ s.heap b ys)
  (hn:more.length=x.size) (n:x.size<=τ) (hP:∀(i:Nat),i < x.size->∃Y vu k,x[i]?=δ Y/\ys[i]?=δ vu/\knd.is k Y=μ/\more[i]?=δ (k,vu))
  (h:∀l t,l.DictOf knd s.heap.objs.size (merged [] more)->(∀e o,e≠z->e≠v->e≠c->e≠d->s.heap.get? e=δ o->l.get? e=δ o)->Q (.ref s.heap.objs.size) { s with heap:=l,toks:=t }):
  π (χ prog w) A (call (.type "dict") [.ref z]) Q E s:=by
 refine VM (Q₁:=λO S=>O= .ref s.heap.objs.size/\S={ s with heap:=s.heap.push { cls:=.type "dict",data:=.dict (ε []) } }) PySem.F.kt_called_dict (PySem.F.kt_typeCall_dict_1 _) PySem.F.entry_dict_init (kt_code_dict_new _ #[Z,Z]) ?_;rintro O S ⟨rfl,rfl⟩;let f:(s.heap.push { cls:=.type "dict",data:=.dict (ε []) }).DictOf knd s.heap.objs.size []:=Tv s.heap;refine#[f.typeIs,PySem.F.args_dict_init_2 _ _,?_];unfold ef.«dict.__init__»;refine MU ?_;unfold Builtin.Dict.selfAndRest;refine MU$ wpAny_notOrdered_dict f.typeIs ?_;show π _ _ (pure (s.heap.objs.size,[Θ z])) _ _ _;refine MX ?_;show π _ _ (Builtin.Dict.updateFrom "dict.__init__" s.heap.objs.size (.ref z) [] .none) _ _ _;unfold Builtin.Dict.updateFrom;generalize hH:s.heap.push { cls:=.type "dict",data:=.dict (ε []) }=H at f ⊢;let G:∀b o,s.heap.get? b=δ o->H.get? b=δ o:=λb o e=>by rw[<- hH];exact MW _ e
 refine MU$ OK #[_,G _ _ j,Z] ?_;rw[M7 VU];refine MU$ y6 (s:={ s with heap:=H }) (G _ _ j) (by simpa using N) λM t k1=>?_;simp only[TN,P7];refine MU$ OV ?_;let g:∀b o,s.heap.get? b=δ o->M.get? b=δ o:=λb o e=>k1 _ _ (G _ _ e);refine MU$ wpAny_pyIter_zip (s:={ s with heap:=M,toks:=t }) (g _ _ j) ?_;let⟨oD,eD,y,B,rD⟩:=f;let⟨p,q,m⟩:=m;let⟨oc,C,_⟩:=U.ob;let⟨od,I,_⟩:=V.ob;let⟨oa,J,_⟩:=id W;let⟨ob,L,_⟩:=id X;let F:IX s.heap.objs.size z u v c d a b:=#[NY$ M4 j,NY$ M4 P,NY$ M4 m,NY$ M4 C,NY$ M4 I,NY$ M4 J,NY$ M4 L];refine MX #[OX zM _,Pj (KY (knd:=knd) (A:=A.in1) (R:=λr s'=>r= .ok (.ret .none)/\Q (.ref s.heap.objs.size) s') (by simpa using N) D F more hn n hP x.size 0 { s with heap:=M,toks:=t } 0 Z (M6 _)
  #[.inl #[g _ _ j,p,q,g _ _ m],g _ _ P,U.kp λo e=>g _ _ e,V.kp λo e=>g _ _ e,W.kp λo e=>g _ _ e,X.kp λo e=>g _ _ e] #[oD,eD,y,k1 _ _ B,rD] λl T k2 d2=>#[Z,?_]) λr s' q=>?_]
 .exact h l T d2 λe o n1 n2 n3 n4 w=>k2 e o (Nb$ M4 w) n1 n2 n3 n4 (g _ _ w)
 .let⟨rfl,q⟩:=q;exact#[Z,q]
end
section
variable {X:Cx}{e1 e2:dr}{ta:TA}{p p2 pos pos2:Pos}
inductive Ir(K:γ)(Q:VK)(e:List V)(c:Hp):Prop
 |mk(a b:η)(d:List bH)(f:List V)(_:e=[.ref a,.ref b])(_:aB K c a (d.map kV))(_:aB K c b f)(_:d.length=f.length)(_:∀l,c l=θ->Q (.ref l) (af c l (.dK (dy [] (d.zip f)))))
def MH(K:γ)(ta:TA):TE:=λa H Q=>ta a H (Ir K Q)
theorem Zs{P:ψ}{w:bU}:∀{K:List bH} {U:List ζ},aD (K.map kV) U->∀(i:Nat) (k:bH),K[i]?=δ k->∃u,U[i]?=δ u/\(aX P w).is k u=μ
 | [],_,_,i,k,h=>by simp at h
 |k0::K,_,.cons (b:=u) h t,0,k,e=>by
  let E:k0=k:=by simpa using e
  subst E;exact#[u,Z,Kg h]
 |k0::K,_,.cons h t,i+1,k,e=>by simpa using Zs (P:=P) (w:=w) t i k (by simpa using e)
theorem uL:∀{K:List bH} {y:List V} {u:List ζ},aD y u->KV (K.zip y) (K.zip u)
 | [],_,_,_=>by simp only[List.zip_nil_left];exact .nil
 |_::_,_,_,.nil=>by simp only[List.zip_nil_right];exact .nil
 |k::K,_,_,.cons h t=>.cons #[Z,h] (uL t)
theorem Zt(m:Gl X "dict")(n:X.mg "dict"=θ)(t:Gl X "zip")(v:X.mg "zip"=θ)(N:X.calm=μ)(O:PA X [e1,e2] ta)
  (T:Δ [e1,e2] X.env=(ξ,eval e1 X.env)::Δ [e2] X.env:=by rfl) (U:(fJ pos2$ Δ [e2] X.env).any (·.1)=ξ:=by rfl)
  (f:Δ [Expr.Call (.Name "zip" p2) [e1,e2] [] pos2] X.env=(ξ,eval (.Call (.Name "zip" p2) [e1,e2] [] pos2) X.env)::Δ [] X.env:=by rfl) (x:(fJ pos$ Δ [] X.env).any (·.1)=ξ:=by rfl):
  PE X (.Call (.Name "dict" p) [.Call (.Name "zip" p2) [e1,e2] [] pos2] [] pos) (MH X.K ta):=by
 intro P s V H Q I h;refine NT$ zy I m n VI ?_;refine NG ?_ f x;rw[f];show π _ _ (spliced ((ξ,eval _ X.env)::fJ pos (Δ [] X.env))) _ _ s;refine OH ?_;refine NT$ zy I t v VG ?_;refine NG (aV (O pos2 P s V H _ I h) λus S z=>?_) T U;let⟨vs,H1,d,W,Y⟩:=z;let⟨a,b,c,ys,e,gx,gy,hl,q⟩:=Y;subst e;cases W with
 |cons r rr=>
  cases rr with
  |cons r' y=>
   cases y;cases r;cases r';let⟨A,F,G,z1⟩:=d.tuple gx;let⟨j,R,C,z2⟩:=d.tuple gy;let l1:=F.length;let l2:=R.length;rw[MY]at l1 z1;let la:a < S.heap.objs.size:=by let⟨o,D,_⟩:=G;exact M4 D
   let lb:b < S.heap.objs.size:=by let⟨o,D,_⟩:=C;exact M4 D
   refine Ft (b1:=ξ) (b2:=ξ) (xs:=A.toArray) (ys:=j.toArray) G C λE J u' v' i1 i2 k=>?_;refine O6 ?_;let Dz:=Bv S.heap.objs.size a b la lb;refine Qi (s:={ S with heap:=E }) (knd:=aX X.prog X.w) (more:=c.zip j) (d.ok.hd N) Dz J u' #[_,_,v'] i1 i2 (i7.kp (b:=ξ) G λo e=>k _ _ e) (i7.kp (b:=ξ) C λo e=>k _ _ e) (by rw[Sx,M1];omega) (by rw[M1];omega) (λi hi=>?_) λh2 tk dd k2=>?_
   .rw[M1]at hi;let L:i < c.length:=by omega
    let M:i < j.length:=by omega
    let⟨u,hu,ku⟩:=Zs F i _ (MV L);refine#[u,j[i],c[i],by simpa using hu,by simp [M],ku,?_];rw[Tb];exact#[MV L,MV M]
   .let g:KV (dy []$ c.zip ys) (merged []$ c.zip j):=KV.merge (uL R) .nil;let zl:(dy []$ c.zip ys).length<=τ:=by rw[g.length];let:=Va ([]:List (bH×ζ)) (c.zip j);rw[Sx]at this;simp only[SA]at this;omega
    let k3:∀e o,S.heap.get? e=δ o->h2.get? e=δ o:=λe o w=>by let l:=M4 w;exact k2 e o (Nb$ Nh l$ Pd _ _) (Nb$ Nh l$ Pd _ _) (Nb l) (Nb$ Nh l$ Pd _ _)$ k _ _ w
    let B:S.heap.objs.size<=E.objs.size:=OT (Ol (Pd _ 4)$ M4 J);exact#[.ref E.objs.size,_,d.laid k3 B$ QS zl (beq_eq_false_iff_ne.mpr$ NA$ Nb$ Nh d.big B) g dd,Z,q _$ d.hok.fresh B]
end
section
variable {X:Cx}{st:cv}{ss:List cv}{e:dr}{es:List dr}
def MG:TS:=λ_ _ _=>False
theorem vP:mY X ss MG:=λ_ _ _ _ _ _ h=>False.elim h
end
end _L
namespace _L
open PySem PySem.Spec PyProof.Rows PySem.SeqAt
inductive HK(K:γ)(x y:V)(H:Hp)(Q:VK):Prop
 |mk(a b d e:_)(_:x= .ref a)(_:y= .ref b)(_:aB K H a d)(_:aB K H b e)(_:(d.all dh=μ/\e.all dh=μ/\Q (.bl (uh d e)) H)∨∃(w:ρ) (c:η) (zs:List V) (u:ρ) (i:Int),d=[.str w,.ref c]/\aB K H c zs/\e=[.str u,.int i]/\Q (.bl ξ) H)
theorem Eh{X:Cx}(d:X.A.units+1 < cLine):fh X (compareOp .Eq) (HK X.K):=by
 intro p s m H x y v U Q I f g h;obtain⟨a,b,n,Y,rfl,rfl,k,l,h | ⟨w,c,M,u,i,rfl,o,rfl,q⟩⟩:=h
 .exact Eg (PJ d) p s m H _ _ v U Q I f g #[a,b,n,Y,Z,Z,k,l,h]
 cases f;cases g;let⟨N,r,P,_⟩:=I.tuple k;let⟨O,R,t,_⟩:=I.tuple l;let⟨S,V,z,_⟩:=I.tuple o;cases r with
 |cons B r=>
  cases r with
  |cons C r=>
   cases r;cases R with
   |cons D R=>
    cases R with
    |cons E R=>
     cases R;let⟨T,rfl⟩:=B;cases C;let⟨F,rfl⟩:=D;let⟨G,rfl⟩:=E;refine eq_tupleAt (e:=λj=>if j=0 then w==u else ξ) (show s.heap.IsTuple a _ from P) (show s.heap.IsTuple b _ from t) (PJ d) (λj J L=>?_) ?_
     .match j,J,L with
      |0,_,_=>exact U8 w T u F
      |1,_,_=>exact UV i G (show s.heap.IsTuple c _ from z) (by simpa [Around.in1,Around.units] using d)
     .let e:((dB$ min 2 2).all (λj=>if j=0 then w==u else ξ)&&(2:Nat)==2)=ξ:=by show((if 0=0 then w==u else ξ)&&((if 1=0 then w==u else ξ)&&μ)&&μ)=ξ;simp
      exact#[.bl ξ,H,I,Od ot e,q]
end _L
namespace _L
open PySem PySem.Spec PyProof.Rows
theorem Yg(l:η)(i:Array ζ)(n:Nat)(D:Option η)(S:Array (Option ζ)):
  Meets (ef.«enumerate.__new__» #[[.type "enumerate",.ref l],[]]) (λ_ R s=>s.heap.get? l=δ { cls:=.type "tuple",dict:=D,data:=.seq i n,slots:=S }/\
   R (.ok$ .ret$ .ref (s.heap.push { cls:=.type "tuple_iterator",data:=.fields (ε [.ref l,.int 0 0]) }).objs.size)
    { s with heap:=(s.heap.push { cls:=.type "tuple_iterator",data:=.fields (ε [.ref l,.int 0 0]) }).push { cls:=.type "enumerate",data:=.fields (ε [.none,.bool ξ,.ref s.heap.objs.size,rawInt 0,.none,.none]) } }):=
 .of_wp λp w A R s h=>by
  let⟨e,g,d,t,os⟩:=s;let⟨H,h⟩:=h;let b:=sub_enumerate;let a:Heap.IsTuple (Shared.heap #[e,g,d,t,os]) l i:=#[_,H,Z,n,Z];wp_walk using Ox H;refine wpAny_stack_any λst=>MX ?_;split
  .rename_i c _ _ _ _ _
   cases (c==fx "enumerate")
   .wp_walk using Ox H,Pz a;exact#[_,Z,h]
   .wp_walk using Ox H,Pz a;exact#[_,Z,h]
  .wp_walk using Ox H,Pz a;exact#[_,Z,h]
section
variable {prog:ψ}{w:bU}{A:cc}{E:ζ->ι->Prop}{s:ι}
theorem YY{Q:ζ->ι->Prop}(j:s.heap.IsTuple l i)
  (h:∀H,IsEnum H (s.heap.objs.size+1) s.heap.objs.size 0 .none->H.IsTupleIter s.heap.objs.size l 0->(∀b o,s.heap.get? b=δ o->H.get? b=δ o)->Q (.ref$ s.heap.objs.size+1) { s with heap:=H }):
  π (χ prog w) A (call (.type "enumerate") [.ref l]) Q E s:=by
 obtain⟨⟨c,d,D,S⟩,k,a,n,e⟩:=j;replace a:c= .type "tuple":=a;replace e:D= .seq i n:=e;subst a e;refine Ug PySem.F.called_enumerate VU (PySem.F.typeCall_enumerate_1 _) (PySem.F.newCall_enumerate_1 _) (λO=>P0 O _) PySem.F.entry_enumerate_new (Yg l i n d S) #[k,?_];let f:(s.heap.push { cls:=.type "tuple_iterator",data:=.fields (ε [.ref l,.int 0 0]) }).objs.size=s.heap.objs.size+1:=NP ..;show _/\_;rw[f];let g:IsEnum ((s.heap.push { cls:=.type "tuple_iterator",data:=.fields (ε [.ref l,.int 0 0]) }).push { cls:=.type "enumerate",data:=.fields (ε [.none,.bool ξ,.ref s.heap.objs.size,rawInt 0,.none,.none]) }) (s.heap.objs.size+1) s.heap.objs.size 0 .none:=by let:=M3 (s.heap.push { cls:=.type "tuple_iterator",data:=.fields (ε [.ref l,.int 0 0]) }) (o:={ cls:=.type "enumerate",data:=.fields (ε [.none,.bool ξ,.ref s.heap.objs.size,rawInt 0,.none,.none]) }) Z;rw[f]at this;exact this
 exact#[#[_,g,Z],h _ g #[_,MW _$ M3 _ Z,Z,Z] λb o x=>MW _ (MW _ x)]
theorem xT{c:Type}{Q:c->ι->Prop}(d:A.handled=θ)
  (h:∀H (e:η),(∀b o,s.heap.get? b=δ o->H.get? b=δ o)->Shared.TypeIs { s with heap:=H } (.ref e) "StopIteration"->E (.ref e) { s with heap:=H }):
  π (χ prog w) A (do raiseNew (<- newExc (.type "StopIteration") []):Sem c) Q E s:=by
 refine MU ?_;simp only[newExc,newTuple];refine MU$ NF ?_ (by size_fits);refine MU (m:=firstArgMember _ _)$ RG (a:=β) ?_ ?_
 .first |rfl | (simp only[firstArgMember];rfl)
 refine NF ?_ (by size_fits);simp only[raiseNew];refine MU$ wpAny_handled ?_;rw[d];refine MU$ MX$ wpAny_throw$ h _ _ (λb o e=>MW _ (MW _ e)) ?_;exact#[_,M3 _ Z,Z]
theorem KK{J T:η}{i:Nat}{I:Array ζ}{Q:ζ->ι->Prop}(g:A.handled=θ)(H:s.heap.IsTupleIter J T i)(j:s.heap.IsTuple T I)(l:I[i]?=θ)
  (q:∀h (e:η),nI J s.heap h->Shared.TypeIs { s with heap:=h } (.ref e) "StopIteration"->E (.ref e) { s with heap:=h }):π (χ prog w) A (Ψ$ .ref J) Q E s:=by
 let⟨o,a,p,c⟩:=id H;let⟨O,d,_,N,f⟩:=j;unfold Ψ;refine MU$ NE (name:=Str.ofString "__next__") H.typeIs Oa$ NC Oa H.typeIs Pk (show π _ _ (field (.ref J) 0 >>= _) _ _ s from ?_)$ Pe _;refine MU$ Nw a c (x:=.ref T) Z (show π _ _ (if (Θ T==β)=μ then _ else _) _ _ s from ?_);rw[Na (show ¬((Θ T==β)=μ) from M8)];refine(show π _ _ (field (.ref J) 1 >>= _) _ _ s from MU$ Nw a c (x:=.int i 0) Z (show π _ _ (seqItems? (.ref T) >>= _) _ _ s from MU$ N6 d f ?_));simp only[NQ,l];refine MU$ OV$ MU$ NR a c VW ?_;refine xT (by simpa using g) λh e k t=>q h e (λb o m n=>k b o ?_) t;exact(Nj _ _$ NA m).trans n
theorem rq(m:A.handled=θ)(a l:η)(d:l≠a)(I:Array ζ):
  Draws prog w A a [a,l] I.size (λi v=>I[i]?=δ v) (λi h=>h.IsTupleIter a l i/\h.IsTuple l I) where
 live:=λ_ _ st=>let #[o,H,_]:=st.1;#[o,H]
 frame:=λ_ _ _ st g=>#[st.1.at λo e=>g a VW o e,let #[o,H,r]:=st.2;#[o,g l VW o H,r]]
 item:=λi s Q E j st n=>KJ st.1 st.2 (x:=I[i]) (by simp [j]) λf b c=>n _ f s.toks (by simp [j]) #[b,let #[o,H,r]:=st.2;#[o,c.extBut l o d H,r]] c
 done:=λs Q E st p=>KK m st.1 st.2 VW λf e k t=>p f e k t
theorem YZ(c:A.handled=θ)(a l:η)(I:Array ζ)(i:Nat)(d:I[i]?=θ):
  Draws prog w A a [a,l] i (λ_ _=>True) (λj h=>j=i/\h.IsTupleIter a l i/\h.IsTuple l I) where
 live:=λ_ _ st=>let #[o,H,_]:=st.2.1;#[o,H]
 frame:=λ_ _ _ st b=>#[st.1,st.2.1.at λo e=>b a VW o e,let #[o,H,r]:=st.2.2;#[o,b l VW o H,r]]
 item:=λj s Q E f st n=>absurd st.1 (Nb f)
 done:=λs Q E st g=>KK c st.2.1 st.2.2 d λm e k t=>g m e k t
end
noncomputable def CF(K:γ)(a:η):It:=
 #[λi H=>∃X x,aB K H a X/\X[i]?=δ x,λi H x h=>∃p v,x= .ref p/\H p=θ/\h=af H p (.tup [.int i,v])/\∀X,aB K H a X->X[i]?=δ v,λi H=>∃X,aB K H a X/\X.length<=i]
theorem Y0{P:ψ}{K:γ}(a e g:η)(r:e≠g):om P w K (.Tuple e0 kx tp) (CF K a) [e,g] e (λi h=>(∃O,IsEnum h e g i O)/\h.IsTupleIter g a i) where
 mem:=by simp
 obj:=λi h st b hb=>by
  obtain⟨⟨O,j⟩,⟨o,ei,c,d⟩⟩:=st;rcases Φ.mp hb with rfl |hb
  .exact#[_,j,λv z=>by cases (show Data.fields _=Data.cell v from z)]
  .let q:b=g:=by simpa using hb
   subst q;exact#[o,ei,λv z=>by rw[d]at z;cases z]
 keep:=λi h A st k=>#[let #[O,j]:=st.1;#[O,k e VW _ j],st.2.at λo q=>k g VW o q]
 item:=by
  intro X Q S T U i f s J H E I L st W;subst Q S T;obtain⟨⟨O,j⟩,l⟩:=st;let⟨xs,x,M,N⟩:=W;let⟨m,R,p,hz⟩:=I.tuple M;let⟨u,hu,ru⟩:=R.get N;let Y:e < s.heap.objs.size:=M4 j;let l0:g < s.heap.objs.size:=by let⟨_,q,_⟩:=l;exact M4 q
  let h0:a≠g:=λz=>by rw[z]at p;let⟨o1,e1,c1,_⟩:=l;let⟨o2,B,c2,_⟩:=p;rw[e1]at B;cases B;exact absurd (c1.symm.trans c2) VU
  let h1:e∉[g,a]:=λz=>by
   rcases Φ.mp z with z |z
   .exact r z
   .rw[υ.mp z]at j;let⟨o2,B,c2,_⟩:=p;unfold IsEnum at j;rw[j]at B;cases B;exact absurd (show fx "enumerate"=fx "tuple" from c2) VU
  refine wpAny_pyNext_enum_itemD (rq (by simpa using I.ok.hd U) g a h0 m.toArray) j #[l,p] (by let:=R.length;let:=(ν.mp N).1;simp;omega) r h1 λx' A t C ho y hT h4 hk=>#[_,Z,?_];let D:=y.1;let ex:u=x':=by
   let h2:m.toArray[i]?=δ u:=by simpa using hu
   rw[h2]at C;exact NH C
  subst ex;let hn:H s.heap.objs.size=θ:=I.hok.fresh (M0 _);let I1:au X f J H { s with heap:=A,toks:=t+1 }:=I.turnedN L λb o hb q=>hk b o (λz=>hb (by simp [z])) (λz=>hb (by simp [z])) q;let r2:aD [rz i,x] [ii i t,u]:=.cons #[_,Z] (.cons ru .nil);let I2:au X f J (af H s.heap.objs.size$ .tup [.int i,x]) { s with heap:=A,toks:=t+1 }:=
   I1.track (I.fpOk (M0 _) hn) I.sz #[by show 2<=τ;decide,_,r2,_,hT,Z,_,Z]
  let F:∀b∈[e,g],gr X f (af H s.heap.objs.size$ .tup [.int i,x]) b:=λb hb=>by
   let⟨f0,f1⟩:=L b hb;refine#[?_,f1];rw[jh]
   .exact f0
   .rcases Φ.mp hb with rfl |hb
    .exact Nb Y
    .let q:b=g:=by simpa using hb
     subst q;exact Nb l0
  refine wpAny_letOwnedTupleGo_enum (s:={ s with heap:=A,toks:=t+1 }) ho λG h3 n=>?_;replace n:fy e A G:=n;let I3:au X f J (af H s.heap.objs.size$ .tup [.int i,x]) { s with heap:=G,toks:=t+1 }:=I2.turnedN F λb o hb q=>(n.2 b λz=>hb (by simp [z])).trans q;refine#[.ref s.heap.objs.size,_,I3,Z,#[_,x,Z,hn,Z,λys hy=>by rw[I.tuple_inj hy M];exact N],#[#[u,by simpa using h3],D.at λo q=>(n.2 g r.symm).trans q],λb hb=>(F b hb).1]
 done:=by intro X Q S T U i f s J H E I L st W;subst Q S T;obtain⟨⟨O,j⟩,l⟩:=st;let⟨xs,M,N⟩:=W;let⟨m,R,p,hz⟩:=I.tuple M;let hl:=R.length;refine wpAny_pyNext_enum_endD (YZ (by simpa using I.ok.hd U) g a m.toArray i (by simp;omega)) j #[Z,l,p] λA eb=>#[Z,?_];exact I.turnedN (t':=s.toks) L λb o hb q=>eb b o (λz=>hb (by simp [z])) q
 self:=λ_ _ _ _ _ st h=>by obtain⟨⟨O,j⟩,_⟩:=st;exact U1 j h
section
variable {X:Cx}{elts:List dr}{kx:Nat}{tp:Pos}
inductive oV(K:γ)(R:It->Hp->Prop)(c:List V)(b:Hp):Prop
 |mk(a:_)(_:c=[.ref a])(_:∃xs,aB K b a xs)(_:R (CF K a) b)
def Dh(K:γ)(t:TA):TI:=λa H R=>t a H (oV K R)
theorem Jm(g:Gl X "enumerate")(j:X.mg "enumerate"=θ)(k:PA X [a] t)(m:Δ [a] X.env=[(ξ,eval a X.env)]:=by rfl):PI X (.Tuple elts kx tp) (.Call (.Name "enumerate" p) [a] [] c) (Dh X.K t):=by
 intro P s n H R I h;refine Call_$ zy I g j VH$ NG (aV (k c P s n H _ I h) λU S z=>?_) m Z;let⟨V,o,i,u,Q⟩:=z;obtain⟨l,e,⟨A,v⟩,q⟩:=Q;subst e;cases u with
 |cons r w=>
  cases w;cases r;let⟨x,B,p,C⟩:=i.tuple v;refine YY p λD f d y=>?_;refine U1 f ?_;refine#[S.heap.objs.size+1,[S.heap.objs.size+1,S.heap.objs.size],_,_,o,Z,i.kept (t':=S.toks) y,Y0 l _ _$ NY$ Oy _,#[#[_,f],d],λb hb=>?_,q];rcases Φ.mp hb with rfl |hb
  .exact i.fpOk (NW _)$ i.hok.fresh$ NW _
  .let e:b=S.heap.objs.size:=by simpa using hb
   subst e;exact i.fpOk (M0 _)$ i.hok.fresh$ M0 _
end
theorem qj{K:γ}{xs:List V}{g:TG}{t:TS}{D:bV}(Pv:Nat->St->Hp->Prop)(j:Pv 0 b H)(k:∀i b H,i<=xs.length->Pv i b H->aB K H a xs)
  (l:∀E:bV,E.rt=D.rt->∀i x p b H,xs[i]?=δ x->H p=θ->(∀c e,Pv (i+1) c e->E.nx c e)->∀G:Prop,((g (.ref p) b (af H p$ .tup [.int i,x]) λf n=>t E f n)->G)->Pv i b H->G) (o:∀b H,Pv xs.length b H->D.nx b H):pZ (CF K a) g t D b H:=by
 refine#[λi m b H=>m=xs.length - i/\i<=xs.length/\Pv i b H,#[xs.length,VW,M6 _,j],?_];rintro i m b H ⟨rfl,s,p⟩;let q:=k i b H s p;by_cases d:i < xs.length
 .refine .inr #[#[xs,xs[i],q,MV d],Pv$ i+1,λc e P=>#[xs.length - (i+1),VV,Z,d,P],λx e y=>?_];let⟨r,v,rfl,u,rfl,w⟩:=y;exact l { D with nx:=Pv (i+1),ct:=Pv (i+1),bk:=D.nx } Z i v r b H (w xs q) u (λ_ _ h=>h) _ (λz=>z) p
 .exact .inl #[#[xs,q,VV],o _ _ (by rw[show xs.length=i by omega];exact p)]
abbrev Mz(K:γ)(i j:Nat):TG:=uB K 2 (eL (bQ i)$ eL (bQ j) yH)
theorem Hf{t:St}(h:t.length=2):∃a b,t=[a,b]:=by
 cases t with
 |nil=>cases h
 |cons a r=>
  cases r with
  |nil=>cases h
  |cons b R=>
   cases R with
   |nil=>exact#[a,b,Z]
   |cons _ _=>cases h
theorem Yh{K:γ}{X:List V}{t:TE}{n:List V->Hp->Prop}(f:Nat->V)(u:X.length<=τ)(b:aI K H a X)
  (p:∀(i:Nat) (x:V),X[i]?=δ x->∃q y z,x= .ref q/\aB K H q [y,z]/\∀Q:VK,Q (f i) H->t (δ y::δ z::c) H Q) (r:n ((dB X.length).map f) H):
  eJ (xX K a) 2 c (Mz K 0 1) mN t n H:=by
 refine#[λi m o d=>m=X.length - i/\i<=X.length/\o=(dB i).map f/\d=H,#[X.length,VW,M6 _,VW,Z],?_];rintro i m o d ⟨rfl,w,rfl,rfl⟩;by_cases h:i < X.length
 .refine .inr #[#[X,X[i],b,MV h],?_,λY g=>Y=(dB$ i+1).map f/\g=d,λY g #[P,s]=>#[X.length - (i+1),VV,Z,h,P,s],λv g T j y=>?_]
  .rw[MY,Rj];omega
  let⟨e,y⟩:=y;subst e;let⟨q,A,B,rfl,k,l⟩:=p i v (y X b);let⟨C,D,rfl⟩:=Hf j;refine#[q,_,Z,k,Z,_,_,Z,_,_,Z,Z,#[[δ _,δ _],Z,Z],l _ #[?_,Z]];rw[List.range_succ,Nl];rfl
 .let e:i=X.length:=by omega
  subst e;exact .inl #[#[X,b,M0 _],r]
def CB(K:γ)(A:η)(t:K')(b:TS):TS:=λD a H=>t D (λx C d _ h=>mroIn K C (.ref A)=δ μ/\∀T,h T=θ->b D a (af (af h T$ gR T) x$ ig C d T x)) a H
section
variable {X:Cx}{st a₀ b₀:cv}{as bs:List cv}{tb:K'}{ta tc:TS}{ca cb:ρ}{np np' hp hp' pos:Pos}{A B:η}
theorem AC(a:X.stack=X.env::X.outer)(J:X.env.frame=δ X.env.locals)(hb:Mj X st tb)(hg:Gl X ca)(hm:X.mg ca=↑A)(hA:clsIn X.K A≠θ)(tA:typeIn X.K (.ref A)=δ (.type "type"))(mA:mroIn X.K A (.type "BaseException")=δ μ)
  (hs:∀e,mY (X.mark e λ_ _=>False) (a₀::as) ta) (L:(ca==("__debug__":ρ))=ξ:=by decide):
  PS X (.Try [st] [.ExceptHandler (δ$ .Name ca np) θ (a₀::as) hp] [] [] pos) (CB X.K A tb ta):=by
 intro p s M H D I h;refine wpAny_Try_except$ SX$ N7 (hb p s M H D _ I h) (λf b q=>?_) λe b q=>?_
 .cases f with
  |next=>exact Pw (Pw q)
  |ret v=>exact q
  |brk=>exact q
  |cont=>exact q
 let⟨x,C,d,T,N,rfl,l,Y,hT,m,q⟩:=q;obtain⟨⟨ox,vs,h1,h2,h3,h4,O,h6⟩,_⟩:=l.hok x _ Y;obtain⟨⟨oT,G,t1,t2,t3⟩,_⟩:=l.hok T _ hT;let o:=(bm.mp h6).1;let P:X.A.frames=δ (X.env::X.outer):=by rw[<- a];exact l.ok.frames
 let R:b.heap.FunFrames X.base (X.env::X.outer):=by rw[<- a];exact l.stack
 refine QE (base:=X.base) P R J h1 O h6 m t1 t2 t3 λg2 Nd=>?_;let u:(eV T b.heap).get? x=δ ox:=(Nj _ _ m).trans h1;refine Dp (s:={ b with heap:=g2 }) Nd u O o λg3 U=>?_;let⟨t,hn,E,i⟩:=(l.cleared hT t1 t2 t3).noted (C:=C) (d:=d) (t':=b.toks) Y u h2 h4 O o (by unfold lF;rw[a];exact U);let i:au X p M (af (af N t$ gR t) x$ ig C d t x) { b with heap:=g3 }:=i;obtain⟨⟨o1,v0,k1,k2,k3,k4,k5,k6⟩,_⟩:=i.hok x _ jb;let F:af (af N t$ gR t) x (ig C d t x) t=δ (gR t):=by rw[jh E,jb]
 obtain⟨⟨o2,t0,u1,u2,u3⟩,_⟩:=i.hok t _ F;let g:∀{E':ζ->ι->Prop} {c:cv} {V:List cv} {G:TS} {hp:Pos},(∀e,mY (X.mark e λ_ _=>False) (c::V) G)->G D M (af (af N t$ gR t) x$ ig C d t x)->kw (χ X.prog X.w) (X.A.mark$ ↑x) (Code.handlers (.ref x) [.ExceptHandler θ θ (c::V) hp] X.env) (λr S=>match r with | .ok f=>SP X p D f S | .error y=>cameBackBy (χ X.prog X.w) X.A X.env E' y S) { b with heap:=g3 }:=by
  intro E' c V G hp hz qz;refine codeAny_handlers_suite ?_;unfold setFlight;refine MU$ Nw k1 k5 k6 ?_;rw[M7 (show(Θ t != β)=μ from by simp)];refine NR u1 u2 (bm.mp u3).1 ?_;let I4:=i.cleared F u1 u2 u3;refine N7 (hz (.ref x) p _ _ _ D (I4.mark (.ref x) λ_ _=>False) qz) (λf s6 Q=>?_) λ_ _ z=>z.elim;cases f with
  |next=>let⟨j,W,k,n⟩:=Q;exact#[_,_,k.unmark I.ok,n]
  |brk=>let⟨j,W,k,n⟩:=Q;exact#[_,_,k.unmark I.ok,n]
  |cont=>let⟨j,W,k,n⟩:=Q;exact#[_,_,k.unmark I.ok,n]
  |ret v=>let⟨y,j,W,k,rv,n⟩:=Q;exact#[y,_,_,k.unmark I.ok,rv,n]
 let⟨mC,q⟩:=q;refine wpAny_handleBy_cons (codeAny_handlers_test ?_) (by intro z;cases z);refine zJ (i.mark (.ref x) λ_ _=>False) hg hm ?_ L;refine K9 i.kIn k1 k2 hA tA mA mC _ _ _ _ (λ_ _ e=>e) ?_;exact g hs$ q t hn
end
section
variable {X:Cx}
theorem yU:F9 X "dict.pop" (λx b H Q=>∃(a:η) (K:List (bH×V)) (k:bH) (v:V),x= .ref a/\b=[kV k]/\H a=δ (.dK K)/\b6 K k=δ v/\Q v (af H a$ .dK$ lE K k)):=by intro p s g H x b v U Q I r R h;let⟨a,K,k,c,rfl,rfl,e,l,q⟩:=h;let⟨u,rfl,d⟩:=aD.one R;cases r;exact Gu I e d l (.inl Z) λw S i f=>#[c,_,i,f,q]
end
end _L
namespace _L
open PySem PySem.Spec PyProof.Rows PySem.SeqAt PySem.W
noncomputable def lX:List Int->List Int->Bool
 | [],[]=>ξ
 | [],_::_=>μ
 |_::_,[]=>ξ
 |a::p,b::q=>if a=b then lX p q else decide (a < b)
theorem XI:∀{p q:List Int},lX p q=μ->lX q p=ξ
 | [],[],h=>by cases h
 | [],_::_,_=>rfl
 |_::_,[],h=>by cases h
 |a::p,b::q,h=>by
  let h:(if a=b then lX p q else decide (a < b))=μ:=h;show(if b=a then lX q p else decide (b < a))=ξ;by_cases e:a=b
  .rw[M7 e]at h;rw[M7 e.symm];exact XI h
  .rw[Na e]at h;rw[Na$ NA e];let:=NV h;exact M5 VV
section
variable {prog:ψ}{w:bU}{A:cc}{E:ζ->ι->Prop}{s:ι}{Q:Bool->ι->Prop}
theorem se(f:Bool)(h:Q (decide$ a < b) s):π (χ prog w) A (oneLt' f (.int a t)$ .int b u) Q E s:=by
 cases f with
 |true=>exact oneLt_int h
 |false=>exact kat_one _ _ (lt_int h)
theorem XJ:∀{p q:List Int} {U v:List ζ},aD (p.map rz) U->aD (q.map rz) v->∀i,f=decide (p.length < q.length)->Q (lX p q) s->KatLex prog w A b f Q (U.zip v) i s
 | [],[],_,_,.nil,.nil,_,e,h=>by subst e;exact h
 | [],_::_,_,_,.nil,.cons _ _,_,e,h=>by subst e;exact h
 |_::_,[],_,_,.cons _ _,.nil,_,e,h=>by subst e;exact h
 |x::p,y::q,_,_,.cons #[t,c] r,.cons #[u,d] R,i,e,h=>by
  subst c;subst d;let h:Q (if x=y then lX p q else decide (x < y)) s:=h;refine kat_cons$ U9 x t y u prog w _ _ ?_;by_cases H:x=y
  .rw[M7 H]at h;rw[beq_iff_eq.mpr H];refine kat_yes$ XJ r R (i+1) ?_ h;rw[e];show decide (p.length+1 < q.length+1)=_;by_cases a:p.length < q.length
   .rw[M9 a,M9 VV]
   .rw[M5 a,M5 VV]
  .rw[Na H]at h;rw[beq_eq_false_iff_ne.mpr H];exact kat_no$ se _ h
def BE(h:de)(v:ζ)(p:List Int):Prop:=∃a o u n,v= .ref a/\h.get? a=δ o/\o.cls= .type "tuple"/\o.data= .seq u n/\aD (p.map rz) u.toList
theorem Iz(c:BE s.heap x p)(d:BE s.heap y q)(h:Q (lX p q) s):π (χ prog w) A (keyLt' (tuples' b) x y) Q E s:=by let⟨a,o,U,n,rfl,e,_,f,H⟩:=c;let⟨i,O,u,N,rfl,K,_,g,k⟩:=d;refine kat_lt e f K g$ XJ H k 0 ?_ h;let l:=H.length;let L:=k.length;rw[MY]at l L;rw[<- Nn,<- Nn,<- l,<- L]
def eN(l:Nat->Nat->Bool)(n:Nat){b:Type}(R:b->Prop):KasT b->Prop
 | .ret a=>R a
 | .ask i j k=>i < n/\j < n/\eN l n R (k (l i j))
theorem eN.bind{b c:Type}{R:b->Prop}{S:c->Prop}{f:b->KasT c}(H:∀a,R a->eN l n S (f a)):∀{t:KasT b},eN l n R t->eN l n S (t.bind f)
 | .ret _,h=>H _ h
 | .ask _ _ _,z=>by let⟨d,e,g⟩:=z;exact #[d,e,eN.bind H g]
theorem eN.wp{l:Nat->Nat->Bool}{n:Nat}{b:Type}{R:b->Prop}{c:Nat->Nat->(Bool->ι->Prop)->ι->Prop}(H:∀i j (C:Bool->ι->Prop),i < n->j < n->C (l i j) s->c i j C s){G:b->ι->Prop}(d:∀a,R a->G a s):∀{t:KasT b},eN l n R t->t.kasWp c G s
 | .ret _,h=>d _ h
 | .ask i j _,z=>by let⟨e,f,g⟩:=z;exact H i j _ e f (eN.wp H d g)
theorem Zu:∀{vs:List ζ} {ps:List (List Int)},vs.length=ps.length->(∀(i:Nat) (v:ζ) (p:List Int),vs[i]?=δ v->ps[i]?=δ p->BE h v p/\p≠[])->∃F:List ζ,F.length=vs.length/\(∀f∈F,∃i t,f= .int i t)/\KatTups h vs F
 | [],[],_,_=>#[[],Z,λ_ z=>(nomatch z),trivial]
 | [],_::_,e,_=>by cases e
 |_::_,[],e,_=>by cases e
 |v::vs,p::ps,e,k=>by
  let⟨F,g,j,l⟩:=Zu (vs:=vs) (ps:=ps) (by simpa using e) λi v p b c=>k (i+1) v p (by simpa using b) (by simpa using c);obtain⟨⟨a,o,U,n,rfl,b,c,m,H⟩,q⟩:=k 0 v p Z Z;cases p with
  |nil=>exact absurd Z q
  |cons i p=>
   cases d:U.toList with
   |nil=>rw[d]at H;cases H
   |cons u r=>
    rw[d]at H;cases H with
    |cons R y=>
     let⟨t,rfl⟩:=(show ∃t,u=ii i t from R);let x:U[0]?=δ (ii i t):=by rw[<- Ow,d];rfl
     exact#[ii i t::F,by simp [g],λf hf=>by
      rcases Φ.mp hf with rfl |hf
      .exact#[_,_,Z]
      .exact j f hf,KatTups.cons b c m x l]
theorem Y1{V:List ζ}{d:List (List Int)}{P:Fin->ι->Prop}(u:s.heap.get? a=δ (seqObj "list" V.toArray n))(I:V.length=d.length)(N:2<=V.length)(y:V.length < 64)
  (O:∀(i:Nat) (v:ζ) (p:List Int),V[i]?=δ v->d[i]?=δ p->BE s.heap v p/\p≠[]/\v≠ .ref a) {R:Array Nat->Prop} (U:eN (λi j=>lX (d.getD i []) (d.getD j [])) d.length R (kas_sort d.length))
  (h:∀p,R p->P (.done$ .ret .none) { s with heap:=sortedHeap s.heap a V (p.toList.map λi=>V.getD i β).toArray }):
  π (χ prog w) A (ef.«list.sort» #[[.ref a],[]]) P E s:=by
 rw[To];let la:a < s.heap.objs.size:=M4 u;refine MU$ Uc u Z ?_;refine MU$ P6 u Z ?_;obtain⟨g,J⟩:∃g,(s.heap.update a$ ab λ_=>(ε [])).get? a=δ (seqObj "list" (ε []) g):=#[_,Tp u (λ_=>(ε []))];refine MU$ RI J Z ?_;refine MU$ PU ?_ (by show V.length<=_;rw[O3];omega);refine MU$ Pt ?_;refine Np ?_;let K:(((s.heap.update a$ ab λ_=>(ε [])).push$ seqObj "tuple" V.toArray 0).push$ seqObj "list" (ε []) 0).get? a=δ (seqObj "list" (ε []) g):=MW _ (MW _ J);let k:∀c v,c≠a->s.heap.get? c=δ v->(((s.heap.update a$ ab λ_=>(ε [])).push$ seqObj "tuple" V.toArray 0).push$ seqObj "list" (ε []) 0).get? c=δ v:=λc v W e=>
  MW _ (MW _ (by rw[TZ _ _ _ _ W];exact e))
 show π (χ prog w) A _ P E { s with heap:=((s.heap.update a$ ab λ_=>(ε [])).push$ seqObj "tuple" V.toArray 0).push (seqObj "list" (ε []) 0) };dsimp only;let H:∀(i:Nat) (v:ζ) (p:List Int),V[i]?=δ v->d[i]?=δ p->BE (((s.heap.update a$ ab λ_=>(ε [])).push$ seqObj "tuple" V.toArray 0).push$ seqObj "list" (ε []) 0) v p/\p≠[]:=λi v p B x=>by obtain⟨⟨b,o,X,m,rfl,Y,b2,b3,b4⟩,l,D⟩:=O i v p B x;exact#[#[b,o,X,m,Z,k _ _ (λz=>D (by rw[z])) Y,b2,b3,b4],l]
 let⟨fs,f1,f2,f3⟩:=Zu I H;let q:¬V.toArray.size < 2:=by rw[M1];omega
 rw[Na q,Na q];refine MU$ kat_kind (T:=.type "int") f3 VV (λf hf=>?_) VU ?_
 .let⟨i,t,rfl⟩:=f2 f hf;exact UP Z
 refine MU (N7 (kat_run (Q:=λS r=>r={ s with heap:=((s.heap.update a$ ab λ_=>(ε [])).push$ seqObj "tuple" V.toArray 0).push (seqObj "list" (ε []) 0) }/\∃p,R p/\(arrOf S).map (·.2)=(p.toList.map λi=>V.getD i β).toArray/\failedOf S=θ/\(arrOf S).size=V.length)
  (G:=λp r=>r={ s with heap:=((s.heap.update a$ ab λ_=>(ε [])).push$ seqObj "tuple" V.toArray 0).push (seqObj "list" (ε []) 0) }/\R p) Z N y (λp S r B x a3 L=>#[L.1,p,L.2,?_,a3,?_]) (eN.wp (n:=d.length) (R:=R) (λi j C F hj hC=>?_) (λp l=>#[Z,l]) (by rw[I];exact U))) ?_ λ_ _ e=>e)
 .rw[kat_snds Z x]
 .rw[x,UJ,B]
 .let M:∀i,i < d.length->BE (((s.heap.update a$ ab λ_=>(ε [])).push$ seqObj "tuple" V.toArray 0).push$ seqObj "list" (ε []) 0) (V.getD i β) (d.getD i []):=λi F=>by
   let g:V[i]?=δ (V.getD i β):=by rw[NZ,MV (by omega:i < V.length)];rfl
   let e2:d[i]?=δ (d.getD i []):=by rw[NZ,MV F];rfl
   exact(H i _ _ g e2).1
  exact Iz (M i F) (M j hj) hC
 rintro ⟨⟨⟩,S⟩ r ⟨rfl,p,l,q1,q2,q3⟩;dsimp only;refine MU$ RI K Z ?_;refine MU$ P6 K Z ?_ (hsz2:=by rw[UJ,q3,O3];omega);rw[q2];simp only[Oq,Nf,Oj];refine MX ?_;rw[q1];exact h p l
theorem Zv{l:Nat->Nat->Bool}{p:Array Nat}(H:∀i,i < n->p.getD i 0=i)(h:∀i,i+1 < n->l (i+1) i=ξ):∀f m,1<=m->m+f=n->eN l n (λr=>r=n) (kas_asc p f m)
 |0,m,_,e=>by show m=n;omega
 |f+1,m,d,e=>by let a:=H m VV;let b:=H (m - 1) VV;let c:=h (m - 1) VV;rw[show m - 1+1=m by omega]at c;refine#[by rw[a];omega,by rw[b];omega,?_];rw[a,b,c];exact Zv H h f (m+1) VV VV
theorem xg{l:Nat->Nat->Bool}(b:2<=n)(h:∀i,i+1 < n->l (i+1) i=ξ):eN l n (λp=>p=ε (dB n)) (kas_sort n):=by
 refine eN.bind (R:=λr=>r=(n,ε$ dB n)) (λr H=>?_)$ eN.bind (R:=λr=>r=n) (λr H=>?_)$ Zv (p:=ε (dB n)) (λi a=>by simp [Array.getD,a]) h (n - 1) 1 (M0 1) VV
 .subst H;show eN l n _ (if n < n then _ else _);rw[Na$ N4 n];rfl
 .subst H;show eN l r _ (if (r==r)=μ then _ else _);rw[M7$ Rc r];rfl
end
section
variable {prog:ψ}{w:bU}{A:cc}{E:ζ->ι->Prop}{s:ι}
theorem Y2{P:Fin->ι->Prop}(H:s.heap.get? a=δ (seqObj "list" ([]:List ζ).toArray n))
  (h:P (.done$ .ret .none) { s with heap:=sortedHeap s.heap a ([]:List ζ) (ε []) }):π (χ prog w) A (ef.«list.sort» #[[.ref a],[]]) P E s:=by
 rw[To];refine MU$ Uc H Z ?_;refine MU$ P6 H Z ?_;obtain⟨e,b⟩:∃e,(s.heap.update a$ ab λ_=>(ε [])).get? a=δ (seqObj "list" (ε []) e):=#[_,Tp H (λ_=>(ε []))];refine MU$ RI b Z ?_;refine MU$ PU ?_;refine MU$ Pt ?_;refine Np ?_;let g:(((s.heap.update a$ ab λ_=>(ε [])).push$ seqObj "tuple" ([]:List ζ).toArray 0).push$ seqObj "list" (ε []) 0).get? a=δ (seqObj "list" (ε []) e):=MW _ (MW _ b);show π (χ prog w) A _ P E { s with heap:=((s.heap.update a$ ab λ_=>(ε [])).push$ seqObj "tuple" ([]:List ζ).toArray 0).push (seqObj "list" (ε []) 0) };dsimp only;let S:([]:List ζ).toArray.size < 2:=by show 0 < 2;decide
 rw[M7 S,M7 S];refine MU$ MX ?_;rw[Uh];refine MU$ MX ?_;dsimp only;refine MU$ RI g Z ?_;let c:(arrOf$ SortSt.mk' general' (([]:List ζ).toArray.zip ([]:List ζ).toArray) (ε []) 7 θ).map (·.2)=(ε []):=by show(([]:List ζ).toArray.zip ([]:List ζ).toArray).map (·.2)=(ε []);simp
 rw[c];refine MU$ P6 g Z ?_ (hsz2:=by show 0<=τ+1;omega);simp only[Oq,Nf,Oj];exact MX h
theorem Bf{vs:List ζ}{ps:List (List Int)}{Q:ζ->ι->Prop}(q:s.heap.IsList l vs.toArray)(H:vs.length=ps.length)(r:2<=vs.length)(b:vs.length < 64)
  (t:∀(i:Nat) (v:ζ) (p:List Int),vs[i]?=δ v->ps[i]?=δ p->BE s.heap v p/\p≠[]) {R:Array Nat->Prop} (u:eN (λi j=>lX (ps.getD i []) (ps.getD j [])) ps.length R (kas_sort ps.length))
  (h:∀p,R p->Q (.ref$ s.heap.objs.size+1) { s with heap:=sortedAll s.heap vs (p.toList.map λi=>vs.getD i β).toArray }):π (χ prog w) A (call (.builtin "sorted") [.ref l]) Q E s:=by
 refine O9 Td SI SJ (SK _) ?_;unfold ef.«sorted»;refine MU (m:=checkCount "sorted" 1 1 _)$ MX ?_;refine MU$ Ue q ?_ (by rw[O3];omega);refine MU$ Pt ?_ (by rw[O3];omega);let f:((s.heap.push$ seqObj "list" (ε []) 0).update s.heap.objs.size$ ab (·++vs.toArray)).objs.size=s.heap.objs.size+1:=by rw[Ss,TC]
 let g:(((s.heap.push$ seqObj "list" (ε []) 0).update s.heap.objs.size$ ab (·++vs.toArray)).push$ seqObj "list" vs.toArray 0).get? (s.heap.objs.size+1)=δ (seqObj "list" vs.toArray 0):=by rw[<- f];exact M3 _ Z
 let k:∀c v,s.heap.get? c=δ v->(((s.heap.push$ seqObj "list" (ε []) 0).update s.heap.objs.size$ ab (·++vs.toArray)).push$ seqObj "list" vs.toArray 0).get? c=δ v:=λc v e=>
  MW _ (by rw[TZ _ _ _ _$ Nb$ M4 e];exact MW _ e)
 show π _ _ _ _ _ { s with heap:=((s.heap.push$ seqObj "list" (ε []) 0).update s.heap.objs.size$ ab (·++vs.toArray)).push (seqObj "list" vs.toArray 0) };rw[f];refine MU$ Np$ NC Sa #[_,g,Z] R4 (Y1 g H r b (λi v p x y=>?_) u λp d=>#[_,Z,?_]) (Se _)
 .obtain⟨⟨a,o,U,n,rfl,B,C,D,F⟩,d⟩:=t i v p x y;exact#[#[a,o,U,n,Z,k _ _ B,C,D,F],d,λz=>by injection z with z;exact absurd z$ Nb$ OS$ M4 B]
 .exact MX #[_,Z,h p d]
theorem Bc{Q:ζ->ι->Prop}(H:s.heap.IsList l ([]:List ζ).toArray)
  (h:Q (.ref$ s.heap.objs.size+1) { s with heap:=sortedAll s.heap [] (ε []) }):π (χ prog w) A (call (.builtin "sorted") [.ref l]) Q E s:=by
 refine O9 Td SI SJ (SK _) ?_;unfold ef.«sorted»;refine MU (m:=checkCount "sorted" 1 1 _)$ MX ?_;refine MU$ Ue H ?_;refine MU$ Pt ?_;let z:((s.heap.push$ seqObj "list" (ε []) 0).update s.heap.objs.size$ ab (·++([]:List ζ).toArray)).objs.size=s.heap.objs.size+1:=by rw[Ss,TC]
 let g:(((s.heap.push$ seqObj "list" (ε []) 0).update s.heap.objs.size$ ab (·++([]:List ζ).toArray)).push$ seqObj "list" ([]:List ζ).toArray 0).get? (s.heap.objs.size+1)=δ (seqObj "list" ([]:List ζ).toArray 0):=by rw[<- z];exact M3 _ Z
 show π _ _ _ _ _ { s with heap:=((s.heap.push$ seqObj "list" (ε []) 0).update s.heap.objs.size$ ab (·++([]:List ζ).toArray)).push (seqObj "list" ([]:List ζ).toArray 0) };rw[z];refine MU$ Np$ NC Sa #[_,g,Z] R4 (Y2 g #[_,Z,?_]) (Se _);exact MX #[_,Z,h]
end
section
variable {X:Cx}
theorem Fm(I:au X b f H s){p:List Int}(h:H a=δ (.tup$ p.map rz)):BE s.heap (.ref a) p:=by let⟨i,r,P,_⟩:=I.tuple (aB.of (K:=X.K) h);let⟨o,c,d,n,e⟩:=P;exact#[a,o,i.toArray,n,Z,c,d,e,r]
inductive vV(K:γ)(d:List V)(H:Hp)(Q:VK):Prop
 |mk(l:η)(c:List V)(b:List (List Int))(_:d=[.ref l])(_:aI K H l c)(_:c.length=b.length)(_:c.length < 64)(_:∀(i:Nat) (v:V) (p:List Int),c[i]?=δ v->b[i]?=δ p->(∃a,v= .ref a/\H a=δ (.tup (p.map rz)))/\p≠[])(_:∀(i:Nat) (p q:List Int),b[i]?=δ p->b[i+1]?=δ q->lX p q=μ)(_:∀r,H r=θ->Q (.ref r) (af H r (.lst c)))
theorem Xq:eI X (.builtin "sorted") (vV X.K):=by
 intro g s x H T U Q I r h;let⟨l,vs,ps,rfl,y,n,z,B,C,k⟩:=h;let⟨u,rfl,D⟩:=fg r;cases D;let⟨b,d,P,_⟩:=I.list y;let L:=d.length;let f:∀(o:Array ζ),o=b.toArray->EP X g x Q (.ref$ s.heap.objs.size+1) { s with heap:=sortedAll s.heap b o }:=λo E=>by subst E;let⟨c,F⟩:=sortedAll_at s.heap b b.toArray;exact#[.ref$ s.heap.objs.size+1,_,I.laid (t':=s.toks) (λ_ _ e=>sortedAll_old e) (NW _) (show aN X.prog X.w _ _ _ (.lst vs) from #[by rw[O3];omega,b,c,d,F]),Z,k _$ I.hok.fresh$ NW _]
 match b,d,P,L,f with
 | [],d,P,L,f=>exact Bc (by simpa using P.isList) (f _ Z)
 | [v],d,P,L,f=>exact Be (by simpa using P.isList) (f _ Z)
 |v1::V::R,d,P,L,f=>
  let W:(v1::V::R).length=R.length+2:=rfl;refine Bf (vs:=v1::V::R) (ps:=ps) P.isList VV VV VV (λi v p A G=>?_) (xg VV λi j=>?_) λp m=>f _ ?_
  .let j:i < vs.length:=by let:=(ν.mp A).1;omega
   obtain⟨⟨a,J,M⟩,m⟩:=B i _ p (MV j) G;let⟨Y,q,t⟩:=d.get (MV j);rw[A]at q;cases q;rw[J]at t;cases t;exact#[Fm I M,m]
  .let N:ps[i]?=δ (ps.getD i []):=by rw[NZ,MV (by omega:i < ps.length)];rfl
   let O:ps[i+1]?=δ (ps.getD (i+1) []):=by rw[NZ,MV j];rfl
   exact XI$ C i _ _ N O
  .subst m;congr 1;refine Rs (by simp;omega) λi h1 S=>?_;simp [MV S]
end
end _L
namespace _L
open PySem PySem.Spec PyProof.Rows
theorem bJ.m(r:bJ k A)(h:j<=k:=by omega):bJ j A:=r.mono h
theorem bN{N P:List ρ}{s:ir}(a:s.kind=.function:=by rfl)(b:s.isCoroutine=ξ:=by rfl)(c:s.isGenerator=ξ:=by rfl)(d:N.Nodup:=by decide +kernel)(e:N.take P.length=P:=by rfl)(f:∀x∈P,s.names.lookup x=δ .local ∨ s.names.lookup x=δ .cell:=by decide +kernel)(g:∀y∈s.names,y.2≠.free:=by decide +kernel):ai N P s:=#[a,b,c,d,e,f,g]
theorem oR{N:List ρ}{s t:ir}{M:List ρ}{i:List Nat}(a:∀y∈t.names,y.2≠.cell:=by decide +kernel)(b:t.kind=.function:=by rfl)(c:∀y∈t.names,y.2=.local->t.names.lookup y.1=δ .local:=by decide +kernel)(d:∀y∈t.names,y.2=.free->s.names.lookup y.1=δ .cell:=by decide +kernel)(e:M.drop n=i.map (λi=>N.getD i Str.empty):=by decide +kernel)(f:M.length=n+i.length:=by rfl)(g:∀j∈i,t.names.lookup (N.getD j Str.empty)=δ .free:=by decide +kernel):be N s t M n i:=#[a,b,c,d,e,f,g]
end _L
local macro_rules|`(tactic|obtain $p:rcasesPat:=$t)=>`(tactic|(refine _L.aU λG k=>?_;rcases $t:term with $p:rcasesPat<;>(refine k ?_;clear k)))
namespace _K
open PySem PySem.Spec PyProof.Rows _L
noncomputable abbrev z0z:List ρ:=["term"]
noncomputable abbrev z1z:List ρ:=["_law_box_here","_law_wide"]
noncomputable abbrev z2z:List ρ:=["_law_box_here"]
noncomputable abbrev z3z:List ρ:=["statement","behind"]
noncomputable abbrev z4z:List ρ:=["self","old_path","old","new_path","new"]
noncomputable abbrev z5z:List ρ:=["statement"]
noncomputable abbrev z6z:List ρ:=["_law_box_here","_law_names_here","_law_heads","_law_spare","_law_deep"]
noncomputable abbrev z7z:List ρ:=["path","what"]
noncomputable abbrev z8z:List ρ:=["self","statement","behind"]
noncomputable abbrev z9z:List ρ:=["part","n","held"]
noncomputable abbrev z10z:List ρ:=["term","held"]
noncomputable abbrev z11z:List ρ:=["_law_box_here","_law_names_here","_law_deep"]
noncomputable abbrev z12z:List ρ:=["self","body","behind"]
noncomputable abbrev z13z:List ρ:=["self","part","args","deep"]
noncomputable abbrev z14z:List ρ:=["_law_chain","_law_at"]
abbrev z15z:List ρ:=["body","behind"]
noncomputable abbrev z16z:List ρ:=["_law_old","_law_new","_law_old_at","_law_new_at","_law_found_here"]
noncomputable abbrev z17z:List ρ:=["_law_parts","_law_f","_law_args","_law_deep","_law_state"]
noncomputable abbrev z18z:List ρ:=["name","params","body"]
noncomputable abbrev z19z:List ρ:=["self","deed","deep"]
noncomputable abbrev z20z:List ρ:=["self","path","chain","begin","end"]
noncomputable abbrev z21z:List ρ:=["self","statement","place","behind"]
noncomputable abbrev z22z:List ρ:=["sign","left","right"]
noncomputable abbrev z23z:List ρ:=["self","cells","most"]
noncomputable abbrev z24z:List ρ:=["self","parts","cells","most"]
noncomputable abbrev z25z:List ρ:=["_law_box_here","_law_total"]
noncomputable abbrev z26z:List ρ:=["_law_box_here","_law_names_here"]
noncomputable abbrev z27z:List ρ:=["parts","f","args","cells","most"]
noncomputable abbrev z28z:List ρ:=["_law_j","_law_old","_law_step"]
noncomputable abbrev z29z:List ρ:=["_law_box_here","_law_total","_law_letters","_law_wide","_law_spot_here","_law_signs","_law_first","_law_form","_law_found_here","_law_k","_law_one","_law_word","_law_some","_law_odd"]
noncomputable abbrev z30z:List ρ:=["_law_k","_law_box_here","_law_letters"]
noncomputable abbrev z31z:List ρ:=["_law_j","_law_box_here","_law_letters"]
noncomputable abbrev z32z:List ρ:=["num","var","op","go","ask","back","chain","sets","iff","ends","calls","reads","gives"]
noncomputable abbrev z33z:List ρ:=["_law_one","_law_box_here","_law_names_here"]
noncomputable abbrev z34z:List ρ:=["_law_box_here","_law_total","_law_room"]
noncomputable abbrev z35z:List ρ:=["_law_parts","_law_f","_law_args","_law_cells_here"]
noncomputable abbrev z36z:List ρ:=["_law_old","_law_new","_law_old_at","_law_new_at","_law_found_here","_law_mark","_law_k","_law_step","_law_path","_law_j","_law_some","_law_lenders","_law_calls","_law_pair","_law_both"]
noncomputable abbrev z37z:List ρ:=["_law_parts","_law_f","_law_args","_law_box_here"]
noncomputable abbrev z38z:List ρ:=["_law_script","_law_box_here","_law_program","_law_f","_law_args","_law_params","_law_body_here","_law_parts","_law_cells_here","_law_old","_law_other","_law_new","_law_some","_law_one","_law_two"]
noncomputable abbrev z39z:List ρ:=["_law_box_here","_law_names_here","_law_heads","_law_spare","_law_deep","_law_kind","_law_x","_law_f","_law_params","_law_body_here"]
noncomputable abbrev z40z:List ρ:=["_law_box_here","_law_w","_law_n","_law_i","_law_s","_law_y","_law_z","_law_spot_here","_law_test","_law_deeper","_law_body_here","_law_inner","_law_loop","_law_top"]
variable {P:ψ}{w:bU}{K:γ}{mg:ρ->Option ζ}{base:de}
noncomputable def bP(i:Nat):cv:=PySem.Challenge.pw_againbook_k34_within_calls.main.body.getD i (.Pass #[0,0,0,0])
abbrev EF:cv:=bP 58
abbrev wA:cv:=bP 59
abbrev iG:cv:=bP 61
def aH(p:η)(H h:Hp):Prop:=∀b o,b≠p->H b=δ o->h b=δ o
theorem aH.refl:aH p H H:=λ_ _ _ h=>h
theorem aH.trans(a:aH p H d)(b:aH p d e):aH p H e:=λc o n h=>b c o n (a c o n h)
theorem aH.of_eq{H a:Hp}(h:∀b,b≠p->a b=H b):aH p H a:=λb o n e=>by rw[h b n];exact e
theorem aH.upd_new{o:HO}(a:aH p H h)(n:h r=θ):aH p H (af h r o):=λb u N e=>by let q:=a b u N e;rw[jh$ ji q n];exact q
theorem aH.upd_own(a:aH p H h)(n:H r=θ):aH p H (af h r o):=λb u N e=>by rw[jh$ ji e n];exact a b u N e
structure ap(H:Hp)(p:η):Prop where
 ob:∃a b:Int,0<=a/\1<=b/\b<=2147483646/\H p=δ (.lst [.int a,.int b])
theorem ap.eq{c:Hp}(B:ap H p)(e:c p=H p):ap c p:=by let⟨a,b,d,f,g,h⟩:=B.ob;exact#[a,b,d,f,g,by rw[e];exact h]
theorem ap.upd_new{o:HO}(B:ap H p)(n:H r=θ):ap (af H r o) p:=by let⟨a,b,c,d,e,h⟩:=B.ob;exact B.eq (by rw[jh$ ji h n])
theorem ap.ne(B:ap H p)(n:H r=θ):r≠p:=by let⟨a,b,c,d,e,h⟩:=B.ob;exact NA$ ji h n
inductive bq(c:List V)(H:Hp)(Q:VK)(a:XK):Prop
 |mk(p:η)(w:Int)(_:c=[.ref p,.int w])(_:ap H p)(_:0 < w)(_:w<=1000000000000000000)(_:∀(d:Int) (H':Hp),0<=d->d < w->ap H' p->(∀b,b≠p->H' b=H b)->Q (.int d) H')
inductive pJ(K:γ)(e:List V)(H:Hp)(Q:VK)(c:XK):Prop
 |mk(a:η)(d:List Int)(k:Int)(_:e=[.ref a,.int k])(_:aI K H a (d.map rz))(_:0<=k)(_:k < 1000)(_:∀(r:η) (H':Hp),H r=θ->ap H' r->(∀b,b≠r->H' b=H b)->Q (.ref r) H')
theorem pX:(10:Int) ^ (18:Int).toNat=1000000000000000000:=by decide
theorem uI{ns:List Int}{k:Int}(H:0<=k)(a:k < (ns.length:Int)):∃v:Int,eU (ns.map rz) k=δ (.int v):=by
 let h:k.toNat < ns.length:=by omega
 let e:k=((k.toNat:Nat):Int):=by omega
 let q:eU (ns.map rz) ((k.toNat:Nat):Int)=δ (.int ns[k.toNat]):=jG (by rw[Ni,MV h];rfl);rw[<- e]at q;exact#[_,q]
structure Cl(P:ψ)(w:bU)(K:γ)(mg:ρ->Option ζ)(base:de)(L:Nat)(f:η)(fd:hG)(ps:List ρ)(sp:Sp)(py:ρ):Prop where
 g:ah P w K mg base aE L f fd ps sp
 b:aC K fd ps []
 k:iv K (.ref f)=μ
 m:mg py=↑f
theorem Cl.e{X:Cx}{e:dr}(c:Cl X.prog X.w X.K X.mg X.base L f o q s a)(i:bJ L X.A)(j:PA X (e::E) t)(l:Gl X a:=by rfl)(h:(a==("__debug__":ρ))=ξ:=by decide)(n:Δ (e::E) X.env=(ξ,eval e X.env)::Δ E X.env:=by rfl)(H:(fJ d$ Δ E X.env).any (·.1)=ξ:=by rfl):PE X (.Call (.Name a p) (e::E) [] d) (ff s [] E0 t):=kS c.g i l c.m c.k c.b .nil a8 j h n H
theorem jv{X:Cx}(h:PE X a t):PE X (.Subscript a (.Constant (.int i) j p) b) (g9 (cw X.K) t$ tC$ .int i):=ju jF h jf λ_ _=>Z
theorem jB{X:Cx}{p:Pos}(i:Nat)(h:X.N.Nodup)(H:PE X e t)(b:X.N[i]?=δ x:=by rfl)(c:BC X.env.scope x:=by exact ω Z)(d:swapsWith e (δ$ .Name x a) p.line X.env=pure ξ:=by rfl)(f:X.fn x=μ∨X.env.scope.names.lookup x=δ .local:=by first |exact .inl Z |exact .inr Z |assumption):PS X (.Assign [.Name x a] e p) (fe t$ bQ i):=kO h b c H d f
theorem jp{K:γ}{H:Hp}{Q:VK}(h:H p=δ (.tup x))(a:eU x n=δ v)(q:Q v H)(e:b[i]?=δ (↑p):=by rfl):g9 (cw K) (bK i) (tC$ .int n) b H Q:=#[_,e,p,x,n,v,Z,Z,aB.of h,a,q]
theorem jW{X:Cx}(h:PE X a t):PT X (.Compare a [.Eq] [.Constant (.str x) j p] b) (nU$ g9 Lx t$ tC$ .str x):=jz qW h jw Z
theorem zY{X:Cx}(h:PE X a t):PT X (.Compare a [.Eq] [.Constant (.int x) j p] b) (nU$ g9 Lx t$ tC$ .int x):=jz qW h jf Z
theorem iJ:ai ["_law_box_here","_law_wide","_law_digit","_law_one","_law_mixed"] z1z (ae wA):=bN
theorem Ap(F:tf K "_law_take" wA f x):ah P w K mg base aE 1 f x z1z bq:=by
 refine F.ok iJ λC A o s H V Q E z h=>?_
 let⟨p,W,rfl,B,d,g,q⟩:=h;let⟨a,b,l,i,j,e⟩:=B.ob;refine#[_,jd (jy (jz qo (ju jD (pv 0) jf (λ_ _=>Z)) jf$ aF _)
   (jd (jB 2 iJ.nd$ jx zg (ju jD (pv 0) jf (λ_ _=>Z))$ pv 1)
   (jd (zk (jx Kv (ju jD (pv 0) jf (λ_ _=>Z))$ pv 1)$ qM (pv 0) jf zD)
   (jg$ jm$ pv 2))) jo)
  (jd (jB 3 iJ.nd$ jx zg (jx zA (ju jD (pv 0) jf (λ_ _=>Z)) jf) jf)
  (jd (zk (jx jX (jx zg (jx jX (jx zA (pv 3) jf) jf) jf) jf)$ qM (pv 0) jf zD)
  (jd (jB 4 iJ.nd$ jx Kv (jx jX (jx zA (pv 3) jf)$ ju jD (pv 0) jf (λ_ _=>Z)) jf)
  (jd (jy (jz qo (pv 1) (jx JB jf jf)$ aF _) (jg$ jB 4 iJ.nd$ jx zA (pv 4)$ pv 4) jo)
  (jg$ jm$ jx zg (pv 4)$ pv 1))))),?_]
 refine#[_,Z,p,_,_,_,Z,Z,aI.of e,Z,_,_,Z,Z,_,Z,?_];refine bZ (λc=>?_) (λc=>?_)
 .let D:(0:Int) < a:=NV c;refine#[_,Z,p,_,_,_,Z,Z,aI.of e,Z,_,Z,_,_,Z,Z,d,?_];refine#[_,Z,p,_,_,_,Z,Z,aI.of e,Z,_,Z,_,_,Z,Z,#[d,g],_,Z,p,_,_,0,Z,Z,e,Z,_,Z,?_];refine q (a % W) _ (N8 _ VV) (NK _ d) #[a / W,b,UT l VV,i,j,jb] λb n=>jh n
 .let I:0<=b*69621 % 2147483647:=N8 _ VU;let J:b*69621 % 2147483647 < 2147483647:=NK _ VU;refine#[_,Z,p,_,_,_,Z,Z,aI.of e,Z,_,_,Z,Z,.inr #[VU,VU],_,_,Z,Z,(by show(0:Int) < 2147483647;decide),?_];refine#[_,Z,_,_,Z,Z,.inr #[VU,VU],_,_,Z,Z,_,_,Z,Z,(by show(0:Int) < 2147483646;decide),_,_,Z,Z,_,Z,p,_,_,1,Z,Z,e,Z,?_];generalize m:b*69621 % 2147483647=one at*;let N:0<=(one*48271+30103) % 2147483646:=N8 _ VU;let L:(one*48271+30103) % 2147483646 < 2147483646:=NK _ VU;generalize r:(one*48271+30103) % 2147483646=t at*;refine#[_,Z,_,_,Z,Z,.inr #[VU,VU],_,Z,p,_,_,_,Z,Z,aI.of jb,Z,_,_,Z,Z,_,_,Z,Z,#[VU,VU],?_];let X:0<=(one*2147483647+(t+1)) / 8191:=by omega
  let O:(one*2147483647+(t+1)) / 8191 < 18446744073709551616:=by omega
  generalize u:(one*2147483647+(t+1)) / 8191=M at*;refine#[_,Z,_,_,Z,Z,#[VU,VU,VU],_,_,Z,Z,_,Z,?_];let v:ap (af H p$ .lst [.int a,.int$ t+1]) p:=#[a,t+1,l,VV,VV,jb];refine bZ (λy=>?_) (λy=>?_)
  .refine#[_,Z,_,Z,_,_,Z,Z,.inl #[VV,VV],?_];refine#[_,Z,_,Z,_,_,Z,Z,d,?_];exact q _ _ (N8 _ VV) (NK _ d) v λb n=>jh n
  .refine#[_,Z,_,Z,_,_,Z,Z,d,?_];exact q _ _ (N8 _ VV) (NK _ d) v λb n=>jh n
theorem nB:ai ["_law_script","_law_k","_law_cell","_law_seed"] ["_law_script","_law_k"] (ae EF):=bN
theorem DR(F:tf K "_law_box" EF f I)(m:mg "len"=θ)(M:mg "int"=θ):ah P w K mg base aE 1 f I ["_law_script","_law_k"] (pJ K):=by
 refine F.ok nB λJ A o s H W Q E X h=>?_
 let⟨a,ns,k,rfl,d,i,L,q⟩:=h;refine#[_,jd (jB 2 nB.nd$ jx jX (jx zA jf$ pv 1) jf)
  (jd (jy (jz Ql (pv 1) (jN jI Z m NO$ ja (pv 0) jc)$ aF _)
   (jg$ jB 2 nB.nd$ ju jD (pv 0) (pv 1) (λ_ _=>Z))
   (jg (jy (jz qo (jN jI Z m NO$ ja (pv 0) jc) jf$ aF _)
    (jg$ jB 2 nB.nd$ jx jX (pv 2)$ jx zA (jx zg (ju jD (pv 0) (jx zg (pv 1)$ jN jI Z m NO$ ja (pv 0) jc) (λ_ _=>Z)) jf) jf) jo)))
  (jd (jB 3 nB.nd$ jx jX (jx zg (jx jX (jx zA (jx zg (pv 2) jf) jf)$ jx zA jf$ pv 1) jf) jf)
  (jg$ jm$ jK$ ja (jx zA (pv 2)$ jJ JI Z M VO$ ja (qZ vx (pv 2) (jx JB jf jf)$ aF _) jc)$ ja (pv 3) jc))),?_]
 let e:(ns.map rz).length=ns.length:=MY _;let T:∀c:Int,∃v:V,∃x:Int,v= .int x/\1<=x/\x<=2147483646/\v= .int ((c % 2147483629*48271+40692*k) % 2147483646+1):=λc=>by let N:0<=(c % 2147483629*48271+40692*k) % 2147483646:=N8 _ VU;let O:(c % 2147483629*48271+40692*k) % 2147483646 < 2147483646:=NK _ VU;exact#[_,_,Z,VV,VV,Z]
 let j:∀(c:Int) (r:η),H r=θ->Q (.ref r) (af H r$ .lst [.int$ c*(if decide ((10:Int) ^ (18:Int).toNat<=c)=μ then 1 else 0),.int ((c % 2147483629*48271+40692*k) % 2147483646+1)]):=λc r R=>by
  refine q r _ R #[_,_,?_,?_,?_,jb] λb n=>jh n
  .rw[pX];by_cases h:(1000000000000000000:Int)<=c
   .rw[M9 h,M7 Z];omega
   .rw[M5 h,Na M8];omega
  .let N:0<=(c % 2147483629*48271+40692*k) % 2147483646:=N8 _ VU;omega
  .let O:(c % 2147483629*48271+40692*k) % 2147483646 < 2147483646:=NK _ VU;omega
 let B:∀c:Int,yb c (if decide ((10:Int) ^ (18:Int).toNat<=c)=μ then 1 else 0):=λc=>.inr (by split<;>decide);refine aj λF0 u=>#[_,Z,_,_,Z,Z,.inl #[VU,VU],_,_,Z,Z,u _ _ ?_];clear u;refine aj λS y=>?_;let l:∀c:Int,S [↑a,δ$ .int k,δ$ .int c,θ] H:=λc=>y _ _ (aj λF2 U=>#[_,Z,_,_,Z,Z,(by show(0:Int) < 2147483629;decide),_,_,Z,Z,.inr #[VU,VU],_,Z,_,_,Z,Z,.inl #[VU,VU],_,_,Z,Z,_,_,Z,Z,(by show(0:Int) < 2147483646;decide),_,_,Z,Z,U _ _ (#[_,Z,_,Z,_,_,Z,Z,#[VU,VU,VU],_,_,Z,Z,.inr #[_,Z,_,_,Z,Z,B c,_,Z,cp,j c]])]);clear y;refine oW λG g=>#[_,Z,_,Z,a,_,Z,.inl d,_,_,Z,Z,_,Z,g _ _ ?_];clear g;refine bZ (λc=>?_) (λc=>?_)
 .let C:k < (((ns.map rz).length:Nat):Int):=NV c;rw[e]at C;let⟨v,p⟩:=uI (ns:=ns) i C;exact#[_,Z,_,Z,a,_,_,_,Z,Z,d,p,l v]
 .let C:¬k < (((ns.map rz).length:Nat):Int):=RQ (mL.mpr c);rw[e]at C;refine oW λG g=>#[_,Z,a,_,Z,.inl d,_,_,Z,Z,_,Z,g _ _ ?_];clear g;refine bZ (λz=>?_) (λz=>?_)
  .let D:(0:Int) < (((ns.map rz).length:Nat):Int):=NV z;let⟨v,p⟩:=uI (ns:=ns) (k:=k % (((ns.map rz).length:Nat):Int)) (N8 _ VV) (by let:=NK k D;rw[e]at this;rw[e];exact this);exact#[_,Z,_,Z,_,Z,_,Z,a,_,Z,.inl d,_,_,Z,Z,D,a,_,_,_,Z,Z,d,p,_,_,Z,Z,(by show(0:Int) < 2147483629;decide),_,_,Z,Z,.inr #[VU,VU],_,_,Z,Z,l _]
  .exact l _
theorem oK(i j:ρ):(i++j).length=i.length+j.length:=by show(i.cps++j.cps).size=i.cps.size+j.cps.size;exact Sf
theorem zE:1000000<=τ:=by rw[O3];decide
theorem am{H:Hp}{o:HO}(h:H b=δ u)(n:H r=θ):af H r o b=δ u:=by rw[jh$ ji h n];exact h
theorem xo{z:ρ}{k:Int}(H:0<=k)(a:k < (z.length:Int)):∃c:Nat,eU z.cps.toList k=δ c:=by
 let b:z.cps.toList.length=z.length:=Nn;let h:k.toNat < z.cps.toList.length:=by omega
 let e:k=((k.toNat:Nat):Int):=by omega
 let q:eU z.cps.toList ((k.toNat:Nat):Int)=δ z.cps.toList[k.toNat]:=jG (MV h);rw[<- e]at q;exact#[_,q]
theorem QT{ys:List ρ}(H:0<=k)(a:k < (ys.length:Int)):∃y∈ys,eU (ys.map ry) k=δ (.str y):=by
 let h:k.toNat < ys.length:=by omega
 let e:k=((k.toNat:Nat):Int):=by omega
 let q:eU (ys.map ry) ((k.toNat:Nat):Int)=δ (.str ys[k.toNat]):=jG (by rw[Ni,MV h];rfl);rw[<- e]at q;exact#[_,PQ h,q]
noncomputable def bM(s:List ρ)(lo h:Option Int):List ρ:=(s.drop$ HT.sIx s.length 0 lo).take (HT.sIx s.length s.length h - HT.sIx s.length 0 lo)
theorem zQ(s:List ρ)(lo h:Option Int):aW (s.map ry) lo h=(bM s lo h).map ry:=by unfold aW bM;rw[MY,PV,Tj]
theorem zR{lo:Option Int}(h:y∈bM s lo H):y∈s:=RY (Om h)
theorem qv(s:List ρ)(lo h:Option Int):(bM s lo h).length<=s.length:=by unfold bM;rw[Nq,NN];omega
theorem Ja:∀{ys:List ρ},(∀y∈ys,y.length<=1)->(ys.map (·.length)).sum<=ys.length
 | [],_=>M0 _
 |y::r,h=>by let a:=h y No;let b:=Ja (ys:=r) λz H=>h z (Nv _ H);rw[Oe,List.sum_cons,Nz];omega
theorem Jb{z:ρ}{ys:List ρ}(H:z.length=0)(h:∀y∈ys,y.length<=1):(Txt.join z ys).length<=ys.length:=by show(Builtin.Str.glued z ys).length<=_;rw[size_glued,H,Nat.mul_zero,Vl];exact Ja h
noncomputable def dF:ρ:="abcdefghijklmnopqrstuvwxyz"
theorem JW:dF.length=26:=by decide+kernel
noncomputable def rG(d:Int)(k:Nat):Nat:=97+((d+5*(0+(k:Int))) % 26).toNat
theorem yR(H:i < 20)(a:j < 20)(h:rG d i=rG d j):i=j:=by unfold rG at h;omega
theorem Ds(H:0<=k)(a:k < 26)(h:eU dF.cps.toList k=δ c):c=97+k.toNat:=by
 let q:∀m:Fin 26,eU dF.cps.toList (m.val:Int)=δ (97+m.val):=by decide+kernel
 let e:=q #[k.toNat,VV];let E:((k.toNat:Nat):Int)=k:=by omega
 dsimp only at e;rw[E,h]at e;injection e
def Sh(A S:ρ)(d:Int)(c:Nat)(w:ρ):Prop:=if d=2 then ∃R:ρ,w=R++#[(ε [c])] else w=A++#[(ε [c])]++S∨w=A++#[(ε [c])]++S++"z"∨w="qqqqqqq"++#[(ε [c])]
theorem kU(a b:ρ):(a++b).cps.toList=a.cps.toList++b.cps.toList:=by show(a.cps++b.cps).toList=_;exact Array.toList_append
theorem XL{R:ρ}(h:R++(#[(ε [c])]:ρ)=r++#[(ε [C])]):c=C:=by let e:=Od (mS ∘ Str.cps) h;let e:(R++(#[(ε [c])]:ρ)).cps.toList=(r++(#[(ε [C])]:ρ)).cps.toList:=e;rw[kU,kU]at e;let:=List.append_inj_right' e Z;injection this
theorem yS{S:ρ}(h:A++(#[(ε [c])]:ρ)++S=A++#[(ε [C])]++S):c=C:=by let e:=Od (mS ∘ Str.cps) h;let e:(A++(#[(ε [c])]:ρ)++S).cps.toList=(A++(#[(ε [C])]:ρ)++S).cps.toList:=e;rw[kU,kU,kU,kU]at e;let:=Rt (Rl e);injection this
theorem Ie{A S : ρ}{d : Int}{c C : Nat}{w : ρ}(i : A.length + S.length <= 5)(h : Sh A S d c w)(H : Sh A S d C w) : c = C := by
  unfold Sh at h H;let l : ∀ c : Nat, (#[(ε [c])] : ρ).length = 1 :=λ_ => Z;let L : (Str.ofString "z").length = 1 := by decide +kernel
  let f : (Str.ofString "qqqqqqq").length = 7 := by decide +kernel
  split at h
  · rename_i a
    rw [M7 a] at H;obtain ⟨R, rfl⟩ := h;obtain ⟨r, e⟩ := H;exact XL e
  · rename_i a
    rw [Na a] at H;rcases h with rfl | rfl | rfl <;> rcases H with e | e | e
    · exact yS e
    all_goals first
      | exact XL e
      | (have g := Od Str.length e
         simp only [oK, l, L, f] at g;omega)
      | skip
    let E := Od (mS ∘ Str.cps) e;let E : (A ++ (#[(ε [c])] : ρ) ++ S ++ ("z" : ρ)).cps.toList = (A ++ (#[(ε [C])] : ρ) ++ S ++ ("z" : ρ)).cps.toList := E;rw [kU, kU (A ++ _ ++ S)] at E;let b := Rl E;rw [kU, kU, kU, kU] at b;let := Rt (Rl b);injection this
theorem XN{y:List ρ}:y.Nodup↔∀i j:Nat,i < j->j < y.length->y[i]?≠y[j]?:=by
 unfold List.Nodup;rw[rx];refine#[λh i j H a e=>?_,λh i j b a H e=>h i j H a ?_]
 .rw[MV (by omega:i < y.length),MV a]at e;injection e with e;exact h i j VV a H e
 .rw[MV b,MV a,e]
theorem wX{A S:ρ}{d D:Int}{Y:List ρ}(b:A.length+S.length<=5)(g:Y.length<=20)(h:∀j y,Y[j]?=δ y->Sh A S D (rG d j) y):Y.Nodup:=by rw[XN];intro i j c H e;let a:=h i _ (MV (by omega:i < Y.length));let f:=h j _ (MV H);rw[MV (by omega:i < Y.length),MV H]at e;injection e with e;rw[e]at a;let:=yR VV VV (Ie b a f);omega
theorem rO{y:List ρ}(h:y.Nodup)(b:a∉y):(y.set n a).Nodup:=by
 rw[XN]at h ⊢;intro i j H c e;rw[Sz]at c;by_cases d:n=i
 .rw[d,Py VV,OR VV]at e;exact b$ Nc e.symm
 .by_cases f:n=j
  .rw[f,Py VV,OR VV]at e;exact b$ Nc e
  .rw[OR d,OR f]at e;exact h i j H c e
theorem Aa{y:List ρ}(h:oX (.str a) (y.map ry)=ξ):a∉y:=λm=>by unfold oX at h;rw[Ui]at h;exact h (.str a) (dN.mpr #[a,m,Z]) (by simp [nZ])
theorem yy{ss:List ρ}{d1 d2:Int}(h:ss.length=(1+d1).toNat)(a:0<=d2)(b:d2 < 1+d1):(bM ss θ$ δ d2).length+(bM ss (δ$ d2+1) θ).length<=d1.toNat:=by
 obtain⟨k,rfl⟩:∃k:Nat,d2=k:=#[d2.toNat,(T6 a).symm];obtain⟨n,rfl⟩:∃n:Nat,d1=n:=#[d1.toNat,(T6 VV).symm];let H:k<=n:=by omega
 let h:ss.length=n+1:=by rw[h];omega
 clear a b;unfold bM;rw[show((k:Int)+1)=((k+1:Nat):Int) from Z,HT.sIx_nat,HT.sIx_nat,Nq,Nq,NN,h,Pm$ OZ H,Pm$ Nat.le_succ_of_le H];refine Ng (Nat.add_le_add (SM _ _)$ SM _ _) ?_;show k - 0+(n+1 - (k+1))<=n;rw[RM,Nat.add_sub_add_right,T4 H];exact M0 _
theorem LI{S:ρ}:Sh A S d c ("qqqqqqq"++#[(ε [c])]):=by
 unfold Sh;split
 .exact#[_,Z]
 .exact .inr$ .inr Z
theorem LJ{A S:ρ}{d:Int}{c:Nat}{w:ρ}(h:if d=2 then ∃R:ρ,w=R++#[(ε [c])] else w=A++#[(ε [c])]++S∨w=A++#[(ε [c])]++S++"z"):Sh A S d c w:=by
 unfold Sh;split at h
 .rename_i e;rw[M7 e];exact h
 .rename_i e;rw[Na e];exact h.elim .inl λz=>.inr (.inl z)
noncomputable def pre(s:List ρ)(d:Int):ρ:=Txt.join "" (bM s θ$ δ d)
noncomputable def gf(s:List ρ)(d:Int):ρ:=Txt.join "" (bM s (δ$ d+1) θ)
inductive gJ(b:List V)(H:Hp)(Q:VK)(a:XK):Prop
 |mk(p:η)(n:Int)(_:b=[.ref p,.int n])(_:ap H p)(_:1<=n)(_:n<=20)(_:∀(r:η) (ys:List ρ) (H':Hp),H r=θ->H' r=δ (.lst (ys.map ry))->(ys.length:Int)=n->(∀y∈ys,y.length<=20)/\ys.Nodup->ap H' p->aH p H H'->Q (.ref r) H')
theorem ba:ai z29z z25z (ae iG):=bN
noncomputable def Qj:ir:=#[.function,[(".0",.local),("_law_k",.local),("_law_take",.globalImplicit),("_law_box_here",.free),("_law_letters",.free)],ξ,ξ,[]]
theorem Y3:(z30z:List ρ).Nodup:=by decide+kernel
theorem Y4:be z29z (ae iG) Qj z30z 1 [0,2]:=oR
noncomputable def Qk:ir:=#[.function,[(".0",.local),("_law_j",.local),("_law_take",.globalImplicit),("_law_box_here",.free),("_law_letters",.free)],ξ,ξ,[]]
theorem Y5:(z31z:List ρ).Nodup:=by decide+kernel
theorem Y6:be z29z (ae iG) Qk z31z 1 [0,2]:=oR
theorem Jw{p:η}{Q:List V->Hp->Prop}(o:n<=20)(B:ap f p)
  (q:∀(S:List ρ) (H:Hp),S.length=n->(∀s∈S,s.length<=1)->ap H p->(∀b,b≠p->H b=f b)->Q (S.map ry) H):
  eJ (sX 0 n) 1 [↑p,δ$ .str dF] (bQ 0) mN (g9 AH (bK 2)$ ff bq [] E0$ ar (bK 1)$ ar (tC$ .int 26) bh) Q f:=by
 refine X7 (λi y H=>∃S:List ρ,y=S.map ry/\S.length=i/\(∀s∈S,s.length<=1)/\ap H p/\∀b,b≠p->H b=f b)
  #[[],Z,Z,(λ_ h=>nomatch h),B,λ_ _=>Z] (Ng o VU) (λi y H #[S,e,l,_]=>by rw[e,MY,l];exact M0 _) ?_ ?_
 .intro i y H x a;let⟨S,rfl,g,j,m,E⟩:=a;refine#[_,Z,_,Z,p,26,Z,m,VU,VU,λd A D r t u=>?_];let⟨c,v⟩:=xo (z:=dF) D (by rw[JW];exact r);refine#[_,_,c,Z,Z,VU,v,S++[#[(ε [c])]],by rw[Nl];rfl,by rw[MZ,g];rfl,λs hs=>?_,t,λb N=>(u b N).trans (E b N)];rcases Ξ.mp hs with hs |hs
  .exact j s hs
  .rw[υ.mp hs];exact M0 1
 .intro y H a;let⟨S,rfl,g,j,m,E⟩:=a;exact q S H g j m E
def Rw(p g r:η)(n d D b e:Int)(i c:Nat)(s y:List ρ)(H:Hp)(L:Nat)(Z:ρ->Prop):_L.St->Hp->Prop:=λa h=>∃W:ρ,(W.length<=L/\Z W)/\
 a=[↑p,δ$ .int n,δ$ .str dF,δ$ .int (1+d),δ$ .int D,↑g,δ$ .int b,δ$ .int e,↑r,δ$ .int (0+(i:Int)),δ$ .str #[(ε [c])],δ$ .str W,θ,θ]/\
 h g=δ (.lst$ s.map ry)/\h r=δ (.lst$ y.map ry)/\ap h p/\aH p H h
def Rf(p r:η)(n:Int)(H:Hp):_L.St->Hp->Prop:=λa h=>a[8]?=δ (↑r)/\∃Y:List ρ,h r=δ (.lst$ Y.map ry)/\(Y.length:Int)=n/\((∀y∈Y,y.length<=20)/\Y.Nodup)/\ap h p/\aH p H h
theorem QJ(Y:List ρ):(Y.map ry).all dh=μ:=by rw[Ru];intro v h;let⟨y,_,rfl⟩:=dN.mp h;rfl
theorem wU(Y:List ρ)(j:Nat)(y:ρ):(Y.map ry).set j (ry y)=(Y.set j y).map ry:=(List.map_set ..).symm
inductive NI(p g r:η)(n b c d e:Int)(v:List ρ)(H:Hp)(i:Nat)(x:_L.St)(a:Hp):Prop
 |mk(s t u:Option V)(w:List ρ)(f:x=[↑p,δ (.int n),δ (.str dF),δ (.int (1+b)),δ (.int c),↑g,δ (.int d),δ (.int e),↑r,s,t,u,θ,θ])(h:a g=δ (.lst (v.map ry)))(k:a r=δ (.lst (w.map ry)))(l:w.length=i)(m:(∀y∈w,y.length<=20)/\∀j y,w[j]?=δ y->Sh (pre v c) (gf v c) e (rG d j) y)(o:ap a p)(q:aH p H a)
theorem vj(F:tf K "_law_names" iG f fd)(GT:ah P w K mg base aE 1 fT f4 z1z bq)(x:aC K f4 z1z [])(C:iv K (.ref fT)=μ)
  (M:mg "_law_take"=↑fT) (mr:mg "range"=θ):ah P w K mg base aE 2 f fd z25z gJ:=by
 refine F.ok ba λc1 A o1 s H vs Q E D h=>?_
 let⟨p,n,rfl,B,a4,a5,q⟩:=h;refine#[_,(@jd _ _ _ _ _ (@kO _ _ (2) _ _ _ _ ba.nd Z (ge Z) (@jw _ _ _ _) VY$ .inl Z)$ @jd _ _ _ _ _ (@kO _ _ (3) _ _ _ _ ba.nd Z (ω Z) (@jx _ _ _ _ _ _ _ _ jX (@jf _ _ _ _)$ @kS _ _ _ _ _ _ _ _ _ _ _ _ _ _ _ _ GT D Z M C x .nil a8 (@ja _ _ _ _ _ (@pv _ 0 _ _ VY (.inr$ .inl Z) VU VU) (@ja _ _ _ _ _ (@jf _ _ _ _) (@jc _) VY) VY) VU VY VY) VY$ .inl Z)$ @jd _ _ _ _ _ (@kO _ _ (4) _ _ _ _ ba.nd Z (ω Z) (@kS _ _ _ _ _ _ _ _ _ _ _ _ _ _ _ _ GT D Z M C x .nil a8 (@ja _ _ _ _ _ (@pv _ 0 _ _ VY (.inr$ .inl Z) VU VU) (@ja _ _ _ _ _ (@pv _ 3 _ _ VY (.inl Z) VU VU) (@jc _) VY) VY) VU VY VY) VY$ .inl Z)$ @jd _ _ _ _ _ (@qe _ _ _ _ _ _ _ _ _ _ (5) (z30z) (1) ([0,2]) _ _ _ _ ba.nd Z (ω Z) Z (@kM _ _ _ _ _ _ Z mr (@ja _ _ _ _ _ (@pv _ 3 _ _ VY (by first |exact ω Z |exact ge (ω Z) |exact ge$ ge Z) VU VU) (@jc _) VY) VY) Y4 (λ_ _ _ _ _=>(@jr _ _ (0) _ Y3 Z (ω Z) (by first |exact .inl Z |exact .inr Z))) (λ_ _ _ _ _=>(@zZ _)) (λ_ _ _ _ _=>(@ju _ _ _ _ _ _ _ Kl (@pv _ 2 _ _ VY (by first |exact ω Z |exact ge (ω Z) |exact ge$ ge Z) VU VU) (@kS _ _ _ _ _ _ _ _ _ _ _ _ _ _ _ _ GT D Z M C x .nil a8 (@ja _ _ _ _ _ (@pv _ 1 _ _ VY (by first |exact ω Z |exact ge (ω Z) |exact ge$ ge Z) VU VU) (@ja _ _ _ _ _ (@jf _ _ _ _) (@jc _) VY) VY) VU VY VY) (λ_ _=>Z))) VY (by first |exact .inl Z |exact .inr Z) (by intro _;rfl))$ @jd _ _ _ _ _ (@kO _ _ (6) _ _ _ _ ba.nd Z (ω Z) (@kS _ _ _ _ _ _ _ _ _ _ _ _ _ _ _ _ GT D Z M C x .nil a8 (@ja _ _ _ _ _ (@pv _ 0 _ _ VY (.inr$ .inl Z) VU VU) (@ja _ _ _ _ _ (@jf _ _ _ _) (@jc _) VY) VY) VU VY VY) VY$ .inl Z)$ @jd _ _ _ _ _ (@kO _ _ (7) _ _ _ _ ba.nd Z (ω Z) (@kS _ _ _ _ _ _ _ _ _ _ _ _ _ _ _ _ GT D Z M C x .nil a8 (@ja _ _ _ _ _ (@pv _ 0 _ _ VY (.inr$ .inl Z) VU VU) (@ja _ _ _ _ _ (@jf _ _ _ _) (@jc _) VY) VY) VU VY VY) VY$ .inl Z)$ @jd _ _ _ _ _ (@kO _ _ (8) _ _ _ _ ba.nd Z (ω Z) (@jK _ _ _ _$ @jc _) VY$ .inl Z)$ @jd _ _ _ _ _ (@jU _ _ _ _ _ _ _ _ Nu Z (@kM _ _ _ _ _ _ Z mr (@ja _ _ _ _ _ (@pv _ 1 _ _ VY (.inl Z) VU VU) (@jc _) VY) VY) (@jr _ _ (9) _ ba.nd Z (ω Z)$ .inl Z) (@jd _ _ _ _ _ (@kO _ _ (10) _ _ _ _ ba.nd Z (ω Z) (@ju _ _ _ _ _ _ _ Kl (@pv _ 2 _ _ VY (.inr$ .inl Z) VU VU) (@jx _ _ _ _ _ _ _ _ zg (@jx _ _ _ _ _ _ _ _ jX (@pv _ 6 _ _ VY (.inl Z) VU VU)$ @jx _ _ _ _ _ _ _ _ zA (@jf _ _ _ _)$ @pv _ 9 _ _ VY (.inl Z) VU VU)$ @jf _ _ _ _) (λ_ _=>Z)) VY$ .inl Z)$ @jd _ _ _ _ _ (@zb _ _ _$ @kO _ _ (11) _ _ _ _ ba.nd Z (ω Z) (@jx _ _ _ _ _ _ _ _ zH (@jx _ _ _ _ _ _ _ _ zH (@j8 _ _ _ _ _ _ _ _ _ _ _ _ Rp Ry Rx Q1 (@jw _ _ _ _) (@ja _ _ _ _ _ (@jM _ _ _ _ _ _ _ _ _ _ zo (@pv _ 5 _ _ VY (.inl Z) VU VU) (@jV _)$ @jL _ _ _$ @pv _ 4 _ _ VY (.inl Z) VU VU) (@jc _) VY) VY VY VY VY VY)$ @pv _ 10 _ _ VY (.inl Z) VU VU)$ @j8 _ _ _ _ _ _ _ _ _ _ _ _ Rp Ry Rx Q1 (@jw _ _ _ _) (@ja _ _ _ _ _ (@jM _ _ _ _ _ _ _ _ _ _ zo (@pv _ 5 _ _ VY (.inl Z) VU VU) (@jL _ _ _$ @jx _ _ _ _ _ _ _ _ jX (@pv _ 4 _ _ VY (.inl Z) VU VU)$ @jf _ _ _ _)$ @jV _) (@jc _) VY) VY VY VY VY VY) VY$ .inl Z)$ @jd _ _ _ _ _ (@zb _ _ _$ @jy _ _ _ _ _ _ _ _ (@PW.pt _ _ _$ @qL _ _ _ _ _ _ _ (zY$ @pv _ 7 _ _ VY (.inl Z) VU VU)$ @qd _ _ _ _$ zY$ @jx _ _ _ _ _ _ _ _ zg (@pv _ 9 _ _ VY (.inl Z) VU VU)$ @jf _ _ _ _) (@jg _ _ _$ @kO _ _ (11) _ _ _ _ ba.nd Z (ω Z) (@jx _ _ _ _ _ _ _ _ zH (@pv _ 11 _ _ VY (.inl Z) VU VU)$ @jw _ _ _ _) VY$ .inl Z)$ @jo _)$ @jd _ _ _ _ _ (@zb _ _ _$ @jy _ _ _ _ _ _ _ _ (zY$ @pv _ 7 _ _ VY (.inl Z) VU VU) (@jg _ _ _$ @kO _ _ (11) _ _ _ _ ba.nd Z (ω Z) (@jx _ _ _ _ _ _ _ _ zH (@j8 _ _ _ _ _ _ _ _ _ _ _ _ Rp Ry Rx Q1 (@jw _ _ _ _) (@ja _ _ _ _ _ (@zK _ _ _ _ _ _ _ (z31z) (1) ([0,2]) _ _ _ _ Z (@kM _ _ _ _ _ _ Z mr (@ja _ _ _ _ _ (@kS _ _ _ _ _ _ _ _ _ _ _ _ _ _ _ _ GT D Z M C x .nil a8 (@ja _ _ _ _ _ (@pv _ 0 _ _ VY (by first |exact ω Z |exact ge (ω Z) |exact ge$ ge Z) VU VU) (@ja _ _ _ _ _ (@jf _ _ _ _) (@jc _) VY) VY) VU VY VY) (@jc _) VY) VY) Y6 (λ_ _ _ _ _=>(@jr _ _ (0) _ Y5 Z (ω Z) (by first |exact .inl Z |exact .inr Z))) (λ_ _ _ _ _=>(@zZ _)) (λ_ _ _ _ _=>(@ju _ _ _ _ _ _ _ Kl (@pv _ 2 _ _ VY (by first |exact ω Z |exact ge (ω Z) |exact ge$ ge Z) VU VU) (@kS _ _ _ _ _ _ _ _ _ _ _ _ _ _ _ _ GT D Z M C x .nil a8 (@ja _ _ _ _ _ (@pv _ 1 _ _ VY (by first |exact ω Z |exact ge (ω Z) |exact ge$ ge Z) VU VU) (@ja _ _ _ _ _ (@jf _ _ _ _) (@jc _) VY) VY) VU VY VY) (λ_ _=>Z))) (by intro _;rfl)) (@jc _) VY) VY VY VY VY VY)$ @pv _ 10 _ _ VY (.inl Z) VU VU) VY$ .inl Z)$ @jo _)$ @jd _ _ _ _ _ (@zb _ _ _$ @jy _ _ _ _ _ _ _ _ (@jz _ _ _ _ _ _ _ _ zu (@pv _ 11 _ _ VY (.inl Z) VU VU) (@jl _ _ _ _ _$ @Q2 _ _ VY) Z) (@jg _ _ _$ @kO _ _ (11) _ _ _ _ ba.nd Z (ω Z) (@jx _ _ _ _ _ _ _ _ zH (@jw _ _ _ _)$ @pv _ 10 _ _ VY (.inl Z) VU VU) VY$ .inl Z)$ @jo _)$ @jg _ _ _$ @jH _ _ _ _ (@j8 _ _ _ _ _ _ _ _ _ _ _ _ M' Nt Nr jR (@pv _ 8 _ _ VY (.inl Z) VU VU) (@ja _ _ _ _ _ (@pv _ 11 _ _ VY (.inl Z) VU VU) (@jc _) VY) VY VY VY VY VY) VY) (by intro _;rfl))$ @jd _ _ _ _ _ (@zb _ _ _$ @jy _ _ _ _ _ _ _ _ (@jz _ _ _ _ _ _ _ _ qW (@kS _ _ _ _ _ _ _ _ _ _ _ _ _ _ _ _ GT D Z M C x .nil a8 (@ja _ _ _ _ _ (@pv _ 0 _ _ VY (.inr$ .inl Z) VU VU) (@ja _ _ _ _ _ (@jf _ _ _ _) (@jc _) VY) VY) VU VY VY) (@jf _ _ _ _)$ aF _) (@jd _ _ _ _ _ (@kO _ _ (12) _ _ _ _ ba.nd Z (ω Z) (@jK _ _ _ _$ @Q2 _ _ VY) VY$ .inl Z)$ @jd _ _ _ _ _ (@kO _ _ (13) _ _ _ _ ba.nd Z (ω Z) (@ju _ _ _ _ _ _ _ jD (@pv _ 12 _ _ VY (.inl Z) VU VU) (@kS _ _ _ _ _ _ _ _ _ _ _ _ _ _ _ _ GT D Z M C x .nil a8 (@ja _ _ _ _ _ (@pv _ 0 _ _ VY (.inr$ .inl Z) VU VU) (@ja _ _ _ _ _ (@jf _ _ _ _) (@jc _) VY) VY) VU VY VY) (λ_ _=>Z)) VY$ .inl Z)$ @jg _ _ _$ @jy _ _ _ _ _ _ _ _ (@jz _ _ _ _ _ _ _ _ Jr (@pv _ 13 _ _ VY (.inl Z) VU VU) (@pv _ 8 _ _ VY (.inl Z) VU VU) Z) (@jg _ _ _$ @zk _ _ _ _ _ _ (@pv _ 13 _ _ VY (.inl Z) VU VU) (@qM _ _ _ _ _ _ _ (@pv _ 8 _ _ VY (.inl Z) VU VU) (@kS _ _ _ _ _ _ _ _ _ _ _ _ _ _ _ _ GT D Z M C x .nil a8 (@ja _ _ _ _ _ (@pv _ 0 _ _ VY (.inr$ .inl Z) VU VU) (@ja _ _ _ _ _ (@pv _ 1 _ _ VY (.inl Z) VU VU) (@jc _) VY) VY) VU VY VY) zD (by intro _;rfl)) VY VY VY)$ @jo _)$ @jo _)$ @jg _ _ _$ @jm _ _ _ _$ @pv _ 8 _ _ VY (.inl Z) VU VU),?_];refine gb λE0 f0=>f0 _ _ ?_;refine gb λG a=>#[_,Z,p,6,Z,B,VU,VU,λd1 H1 a' b0 U e1=>#[_,_,Z,Z,a _ _ ?_]];refine gb λE2 f2=>#[_,Z,_,Z,p,_,Z,U,VV,VV,λd2 H2 b1 b2 B2 e2=>f2 _ _ ?_];clear f0 a f2;refine gb λG a=>#[_,Z,_,Z,VV,VV,?_];refine Jw (p:=p) VV B2 λss H3 a3 e B3 e3 g hg=>a _ _ ?_;clear a;let k3:aH p H H3:=(aH.of_eq e1).trans ((aH.of_eq e2).trans$ aH.of_eq e3);let v:g≠p:=B3.ne hg;refine gb λG a=>#[_,Z,p,26,Z,B3.upd_new hg,VU,VU,λW H4 b3 b4 B4 e4=>a _ _ ?_];refine gb λE2 f2=>#[_,Z,p,3,Z,B4,VU,VU,λI H5 b5 b7 B5 e5=>f2 _ _ ?_];clear a f2;let h2:H5 g=δ (.lst$ ss.map ry):=by rw[e5 g v,e4 g v];exact jb
 let k5:aH p H H5:=(k3.upd_new hg).trans ((aH.of_eq e4).trans$ aH.of_eq e5);refine gb λG a=>#[VU,λr u=>a _ _ ?_];clear a;let m:r≠p:=B5.ne u;let h4:g≠r:=ji h2 u;let n3:H g=θ:=by
  cases z:H g with
  |none=>rfl
  |some o=>have:=k3 g o v z;rw[hg]at this;cases this
 let X:H r=θ:=by
  cases z:H r with
  |none=>rfl
  |some o=>have:=k5 r o m z;rw[u]at this;cases this
 let b8:=zE;refine gb λG a=>dj λJ j=>#[_,Z,_,Z,VV,VV,j _ _ ?_];clear j;refine ke (lo:=0) (NI p g r n d1 d2 W I ss H) #[θ,θ,θ,[],Z,am h2 u,jb,Z,#[(λ_ h=>nomatch h),(λ_ _ h=>nomatch h)],B5.upd_new u,k5.upd_new u] ?_ ?_
 .intro E0 _ i σ H' hi fE Gq T b;let⟨ok,oo,ow,ys,rfl,L,Y,h0,d,B',k'⟩:=b;clear a;let⟨c,hc⟩:=xo (z:=dF) (k:=(W+5*(0+(i:Int))) % 26) (N8 _ VU) (by rw[JW];exact NK _ VU);refine T ?_;clear T;show cy (fe _ _) _ E0 _ _;refine gb λG a=>#[_,Z,_,Z,_,Z,_,_,Z,Z,.inl #[VU,VU],_,_,Z,Z,_,_,Z,Z,(by show(0:Int) < 26;decide),_,_,c,Z,Z,VU,hc,a _ _ ?_];clear a;let b9:(#[(ε [c])]:ρ).length=1:=rfl;let h5:c=rG W i:=Ds (N8 _ VU) (NK _ VU) hc;refine gb λG a=>gA (Rw p g r n d1 d2 W I i c ss ys H 13 (·=pre ss d2++#[(ε [c])]++gf ss d2)) (λE2 _ t=>?_) λO H1 b=>?_
  .clear a fE;refine#[Z,_,Z,_,Z,_,Z,g,_,Z,aI.of L,λs1 n1=>?_];let z1:=Ja (ys:=bM ss θ (δ d2)) λy d=>e y (zR d);let z2:=qv ss θ (δ d2);refine#[_,s1,bM ss θ$ δ d2,Z,Z,aI.of (by rw[jb,zQ]),VU,VV,?_];let j1:=Jb (z:="") (ys:=bM ss θ (δ d2)) VX λy d=>e y (zR d);refine#[_,Z,_,_,Z,Z,VV,?_];refine#[Z,_,Z,_,Z,_,_,Z,Z,_,Z,g,_,Z,aI.of$ am L n1,λs2 n2=>?_];let z3:=Ja (ys:=bM ss (δ$ d2+1) θ) λy d=>e y (zR d);let z4:=qv ss (δ$ d2+1) θ;refine#[_,s2,bM ss (δ$ d2+1) θ,Z,Z,aI.of (by rw[jb,zQ]),VU,VV,?_];let j2:=Jb (z:="") (ys:=bM ss (δ$ d2+1) θ) VX λy d=>e y (zR d);refine#[_,_,Z,Z,by rw[oK];omega,?_];exact t _ _ #[_,#[by show(Txt.join ("":ρ) (bM ss θ$ δ d2)++(#[(ε [c])]:ρ)++Txt.join ("":ρ) (bM ss (δ$ d2+1) θ)).length<=13;rw[oK,oK];omega,Z],Z,am (am L n1) n2,am (am Y n1) n2,(B'.upd_new n1).upd_new n2,(k'.upd_new n1).upd_new n2]
  obtain⟨w1,⟨b',z1⟩,rfl,g1,r1,U,k1⟩:=b;refine a _ _ ?_;clear a;refine gb λG a=>gA (Rw p g r n d1 d2 W I i c ss ys H 14 (λw=>w=pre ss d2++#[(ε [c])]++gf ss d2∨w=pre ss d2++#[(ε [c])]++gf ss d2++"z")) (λE2 _ t=>?_) λO H2 b=>?_
  .clear a fE;refine#[_,Z,Z,_,Z,?_];refine bZ (λS=>?_) (λS=>?_)
   .refine#[_,Z,_,_,Z,Z,(by show(0:Int) < 2;decide),Z,_,Z,?_];refine bZ (λcb=>?_) (λcb=>?_)
    .let hz:(Str.ofString "z").length=1:=by decide+kernel
     refine#[_,Z,_,_,Z,Z,by rw[hz];omega,?_];exact t _ _ #[_,#[by rw[oK,hz];omega,.inr (by rw[z1])],Z,g1,r1,U,k1]
    .exact t _ _ #[w1,#[VV,.inl z1],Z,g1,r1,U,k1]
   .exact lU$ t _ _ #[w1,#[VV,.inl z1],Z,g1,r1,U,k1]
  obtain⟨w2,⟨c2,z2⟩,rfl,g2,r2,B2,k2⟩:=b;refine a _ _ ?_;clear a;refine gb λG a=>gA (Rw p g r n d1 d2 W I i c ss ys H 14 (λw=>if I=2 then ∃R:ρ,w=R++#[(ε [c])] else w=pre ss d2++#[(ε [c])]++gf ss d2∨w=pre ss d2++#[(ε [c])]++gf ss d2++"z")) (λE2 _ t=>?_) λO H3 b=>?_
  .clear a fE;refine#[_,Z,Z,_,Z,?_];refine bZ (λS=>?_) (λS=>?_)
   .refine#[Z,_,Z,p,8,Z,B2,VU,VU,λd6 H6 d0 d3 B6 e6=>?_];refine#[_,Z,VV,VV,?_];refine Jw (p:=p) VV B6 λtt H7 c3 h3 B7 e7 g7 n7=>?_;let jt:=Jb (z:="") (ys:=tt) VX h3;let zt:=Ja h3;refine#[_,g7,tt,Z,Z,aI.of jb,VU,VV,?_];refine#[_,Z,_,_,Z,Z,VV,?_];let g8:H7 g=δ (.lst$ ss.map ry):=by rw[e7 g v,e6 g v];exact g2
    let r8:H7 r=δ (.lst$ ys.map ry):=by rw[e7 r m,e6 r m];exact r2
    let e5:I=2:=by injection NV S
    exact t _ _ #[_,#[by rw[oK];omega,(M7 e5).mpr #[_,Z]],Z,am g8 n7,am r8 n7,B7.upd_new n7,(k2.trans ((aH.of_eq e6).trans$ aH.of_eq e7)).upd_new n7]
   .let e5:I≠2:=λz=>S (by rw[z];exact M9 Z);exact t _ _ #[w2,#[VV,(Na e5).mpr z2],Z,g2,r2,B2,k2]
  obtain⟨w3,⟨c4,z3⟩,rfl,g3,r3,B3,k3⟩:=b;refine a _ _ ?_;clear a;refine gb λG a=>gA (Rw p g r n d1 d2 W I i c ss ys H 14$ Sh (pre ss d2) (gf ss d2) I c) (λE2 _ t=>?_) λO H4 b=>?_
  .clear a fE;refine#[_,Z,VU,λt0 N=>?_];refine#[t0,_,Z,.inr$ aB.of jb,Z,Z9 VY,_,Z,?_];refine bZ (λS=>?_) (λS=>?_)
   .let hq:(Str.ofString "qqqqqqq").length=7:=by decide+kernel
    refine#[_,Z,_,_,Z,Z,by rw[hq];omega,?_];exact t _ _ #[_,#[by rw[oK,hq];omega,LI],Z,am g3 N,am r3 N,B3.upd_new N,k3.upd_new N]
   .exact t _ _ #[w3,#[VV,LJ z3],Z,am g3 N,am r3 N,B3.upd_new N,k3.upd_new N]
  obtain⟨w4,⟨c5,z4⟩,rfl,g4,r4,B4,k4⟩:=b;refine a _ _ ?_;clear a;refine#[_,Z,.inl #[Z,_,aI.of r4],_,Z,r,_,_,Z,Z,r4,by rw[MY];omega,?_];refine fE _ _ #[_,_,_,ys++[w4],Z,by rw[jh h4];exact g4,by rw[jb,Nl];rfl,by rw[MZ,h0];rfl,#[λy hm=>?_,λj y hj=>?_],B4.eq$ jh$ NA m,k4.upd_own X]
  .rcases Ξ.mp hm with hm |hm
   .exact d.1 y hm
   .rw[υ.mp hm];omega
  .by_cases h6:j < ys.length
   .rw[ON h6]at hj;exact d.2 j y hj
   .let lj:=(ν.mp hj).1;rw[MZ,O5]at lj;let ej:j=ys.length:=by omega
    rw[ej,OJ$ M0 _,P8]at hj;injection hj with hj;rw[<- hj,ej,h0,<- h5];exact z4
 .intro σ H' b;let⟨ok,oo,ow,ys,rfl,L,Y,h0,d,B',k'⟩:=b;let h1:(ys.length:Int)=n:=by omega
  let f5:=yy (ss:=ss) (d1:=d1) (d2:=d2) VV VV VV;let j1:(pre ss d2).length<=_:=Jb (z:="") (ys:=bM ss θ (δ d2)) VX λy d=>e y (zR d);let j2:(gf ss d2).length<=_:=Jb (z:="") (ys:=bM ss (δ$ d2+1) θ) VX λy d=>e y (zR d);let nd:=wX VV VV d.2;let d:=d.1;refine a _ _ ?_;clear a;refine aj λF1 a=>gA (Rf p r n H) (λE2 _ t=>?_) λO H1 b=>?_
  .clear a;refine oW λG' g'=>#[_,Z,p,6,Z,B',VU,VU,λd6 H6 d0 d3 B6 e6=>#[Z,_,Z,g' _ _ ?_]];clear g';let r6:H6 r=δ (.lst$ ys.map ry):=by rw[e6 r m];exact Y
   let k6:aH p H H6:=k'.trans (aH.of_eq e6);refine bZ (λS=>?_) (λS=>?_)
   .refine gb λE3 f3=>#[VU,λt0 N=>f3 _ _ ?_];clear f3;let t1:t0≠p:=B6.ne N;refine gb λE4 f3=>#[_,Z,_,Z,p,13,Z,B6.upd_new N,VU,VU,λd7 H7 d' a0 B7 e7=>?_];let t7:H7 t0=δ (.lst ((z32z:List ρ).map ry)):=((e7 t0 t1).trans jb).trans (Od (λl=>δ (HO.lst l)) VX);let r7:H7 r=δ (.lst$ ys.map ry):=by rw[e7 r m];exact am r6 N
    let k7:aH p H H7:=(k6.upd_new N).trans (aH.of_eq e7);let⟨od,h7,h8⟩:=QT (ys:=(z32z:List ρ)) d' (by simpa using a0);refine#[t0,_,_,_,Z,Z,aI.of t7,h8,f3 _ _ ?_];clear f3;let h':od.length<=20:=by
     let:∀y∈(z32z:List ρ),y.length<=20:=by decide+kernel
     exact this od h7
    refine oW λG' g'=>#[_,Z,_,Z,r,_,Z,.inl$ aI.of r7,Z,QJ _,_,Z,g' _ _ ?_];clear g';refine bZ (λcb=>?_) (λcb=>?_)
    .refine#[_,Z,_,Z,_,Z,_,Z,p,n,Z,B7,VV,VV,λd8 H8 a1 c6 B8 e8=>?_];let r8:H8 r=δ (.lst$ ys.map ry):=by rw[e8 r m];exact r7
     let k8:aH p H H8:=k7.trans (aH.of_eq e8);refine#[r,_,d8,d8.toNat,Z,Z,r8,?_,?_]
     .unfold yN;rw[M7 a1,MY,M7 VV]
     refine t _ _ #[Z,ys.set d8.toNat od,by rw[jb,wU],by rw[Sz];exact h1,#[λy hm=>?_,rO nd$ Aa (by let c0:(!oX (.str od) (ys.map ry))=μ:=cb;rw[Ul]at c0;exact c0)],B8.eq$ jh$ NA m,k8.upd_own X];rcases List.mem_or_eq_of_mem_set hm with hm |hm
     .exact d y hm
     .rw[hm];exact h'
    .exact t _ _ #[Z,ys,r7,h1,#[d,nd],B7,k7]
   .exact t _ _ #[Z,ys,r6,h1,#[d,nd],B6,k6]
  let⟨a2,y0,r1,l1,y1,U,k1⟩:=b;refine a _ _ ?_;exact#[_,a2,q r y0 H1 X r1 l1 y1 U k1]
def ax(H h:Hp):Prop:=∀b x,H b=δ (.tup x)->h b=δ (.tup x)
theorem aa.tm{H H':Hp}(a:aa H H'):ax H H':=λb x h=>a b _ h
theorem je{H:Hp}{o:HO}(n:H p=θ):aa H (af H p o):=λb u e=>am e n
theorem cn{b:Bool}{A B:Prop}(h:b=μ)(x:A):if b=μ then A else B:=by rw[M7 h];exact x
theorem aT{b:Bool}{A B:Prop}(h:b=ξ)(x:B):if b=μ then A else B:=by rw[h,Na M8];exact x
theorem aJ:τ=16777216:=by rw[O3]
theorem ap.same(B:ap H p)(s:aa H c):ap c p:=by let⟨a,b,d,e,f,h⟩:=B.ob;exact#[a,b,d,e,f,s _ _ h]
theorem aH.of_same(s:aa H h):aH p H h:=λb o _ e=>s _ _ e
theorem aH.tm{p:η}{H H':Hp}(k:aH p H H')(B:ap H p):ax H H':=λb x e=>by let⟨a,c,_,_,_,h⟩:=B.ob;exact k b _ (jP e h (by intro w;cases w)) e
theorem rh{K:γ}{a:η}{xs:List V}{t:TE}{Q:List V->Hp->Prop}(u:xs.length<=τ)(Pv:Nat->List V->Hp->Prop)(l:Pv 0 [] H)
  (n:∀i Y h,Pv i Y h->aI K h a xs/\Y.length<=i) (o:∀i x Y h,xs[i]?=δ x->Pv i Y h->t (δ x::d) h λy c=>Pv (i+1) (Y++[y]) c) (q:∀Y h,Pv xs.length Y h->Q Y h):
  eJ (xX K a) 1 d (bQ 0) mN t Q H:=by
 refine#[λi m Y h=>m=xs.length - i/\i<=xs.length/\Pv i Y h,#[xs.length,VW,M6 _,l],?_];intro i m Y h f;let⟨rfl,z,p⟩:=f;let⟨g,A⟩:=n i Y h p;by_cases b:i < xs.length
 .refine .inr #[#[xs,xs[i],g,MV b],VV,Pv$ i+1,λr c s=>#[xs.length - (i+1),VV,Z,b,s],λv c T j y=>?_];let⟨e,y⟩:=y;subst e;let⟨w,rfl⟩:=rF j;exact#[#[[δ _],Z,Z],o i v Y c (y xs g) p]
 .let e:i=xs.length:=by omega
  subst e;exact .inl #[#[xs,g,M0 _],q Y h p]
theorem qE{K:γ}{xs:List V}{t:TE}{Q:List V->Hp->Prop}(u:xs.length<=τ)(Pv:Nat->List V->Hp->Prop)(l:Pv 0 [] H)
  (n:∀i Y h,Pv i Y h->aB K h a xs/\Y.length<=i) (o:∀i x Y h,xs[i]?=δ x->Pv i Y h->t (δ x::d) h λy c=>Pv (i+1) (Y++[y]) c) (q:∀Y h,Pv xs.length Y h->Q Y h):
  eJ (yg K a) 1 d (bQ 0) mN t Q H:=by
 refine#[λi m Y h=>m=xs.length - i/\i<=xs.length/\Pv i Y h,#[xs.length,VW,M6 _,l],?_];intro i m Y h f;let⟨rfl,z,p⟩:=f;let⟨g,A⟩:=n i Y h p;by_cases b:i < xs.length
 .refine .inr #[#[xs,xs[i],g,MV b],VV,Pv$ i+1,λr c s=>#[xs.length - (i+1),VV,Z,b,s],λv c T j y=>?_];let⟨e,y⟩:=y;subst e;let⟨w,rfl⟩:=rF j;exact#[#[[δ _],Z,Z],o i v Y c (y xs g) p]
 .let e:i=xs.length:=by omega
  subst e;exact .inl #[#[xs,g,M0 _],q Y h p]
abbrev mn:cv:=bP 60
abbrev pq:cv:=bP 62
inductive Tm where
 |num (n:Int) |var (x:ρ) |op (i:Nat) (a b:Tm)
noncomputable def Tm.depth:Tm->Nat
 | .num _=>0
 | .var _=>0
 | .op _ a b=>max a.depth b.depth+1
noncomputable def mx:ρ:="+-*/<="
theorem wW:mx.length=6:=by decide+kernel
noncomputable def LH(i:Nat):ρ:=#[(ε [mx.cps.toList.getD i 0])]
theorem EY(H:0<=d)(a:d < 6):eU mx.cps.toList d=δ (mx.cps.toList.getD d.toNat 0):=by
 let b:mx.cps.toList.length=6:=by decide+kernel
 let h:d.toNat < mx.cps.toList.length:=by omega
 let e:d=((d.toNat:Nat):Int):=by omega
 let q:eU mx.cps.toList ((d.toNat:Nat):Int)=δ (mx.cps.toList.getD d.toNat 0):=jG (by rw[NZ,MV h];rfl);rw[<- e]at q;exact q
noncomputable def Tm.Good(y:List ρ):Tm->Prop
 | .num n=>0<=n/\n < 1000000000000000000
 | .var x=>x∈y
 | .op i a b=>i < 6/\a.Good y/\b.Good y
def bn(H:Hp):Tm->η->Prop
 | .num n,p=>H p=δ (.tup [.str "num",.int n])
 | .var x,p=>H p=δ (.tup [.str "var",.str x])
 | .op i a b,p=>∃q r,H p=δ (.tup [.str "op",.str (LH i),.ref q,.ref r])/\bn H a q/\bn H b r
theorem bn.mono{H a:Hp}(h:∀b x,H b=δ (.tup x)->a b=δ (.tup x)):∀{t:Tm} {p:η},bn H t p->bn a t p
 | .num _,_,e=>h _ _ e
 | .var _,_,e=>h _ _ e
 | .op _ _ _,_,z=>by let⟨q,r,e,E,c⟩:=z;exact #[q,r,h _ _ e,bn.mono h E,bn.mono h c]
theorem bn.same(h:aa H a)(e:bn H t p):bn a t p:=e.mono λb x z=>h b _ z
theorem bn.but(B:ap H p)(k:aH p H h)(e:bn H t a):bn h t a:=e.mono λb X z=>by let⟨x,y,_,_,_,d⟩:=B.ob;exact k b _ (jP z d (by intro q;cases q)) z
theorem bn.new{H:Hp}{o:HO}(n:H r=θ)(e:bn H t a):bn (af H r o) t a:=e.mono λb x z=>am z n
inductive fV(c:List V)(H:Hp)(Q:VK)(a:XK):Prop
 |mk(p:η)(_:c=[.ref p])(_:ap H p)(_:∀(d:Int) (H':Hp),0<=d->d < 1000000000000000000->ap H' p->(∀b,b≠p->H' b=H b)->Q (.int d) H')
inductive db(n:Nat)(b:List V)(H:Hp)(Q:VK)(a:XK):Prop
 |mk(p g:η)(d:Int)(c:List ρ)(_:b=[.ref p,.ref g,.int d])(_:ap H p)(_:H g=δ (.lst (c.map ry)))(_:1<=c.length)(_:c.length<=20)(_:0<=d)(_:d < (n:Int))(_:∀(r:η) (T:Tm) (H':Hp),bn H' T r->(T.depth:Int)<=d->T.Good c->ap H' p->aH p H H'->Q (.ref r) H')
theorem qO{Y:List ρ}(B:ap H p)(h:H g=δ (.lst$ Y.map ry)):g≠p:=by
 let⟨x,y,_,_,_,b⟩:=B.ob;refine jP h b λz=>?_;injection z with z
 match Y,z with
 |a::r,z=>injection z with c _;cases c
theorem wN:ai z2z z2z (ae mn):=bN
theorem rX(F:tf K "_law_number" mn f t)(C:Cl P w K mg base 1 I u z1z bq "_law_take"):ah P w K mg base aE 2 f t z2z fV:=by
 refine F.ok wN (λx A o s H v Q E a h=>?_)
 let⟨p,rfl,B,q⟩:=h;refine#[_,(jd (jy (zY$ C.e a$ ja (pv 0)$ ja jf jc) (jg$ jm$ C.e a$ ja (pv 0)$ ja (jx JB jf jf) jc) jo)$ jg$ jm$ C.e a$ ja (pv 0)$ ja jf jc),?_];refine#[_,Z,p,4,Z,B,VU,VU,λL M y G m r=>#[Z,_,Z,?_]];refine bZ (λc=>?_) (λc=>?_)
 .refine#[_,Z,_,_,Z,Z,#[VU,VU,VU],p,_,Z,m,VU,VU,λD g d i j k=>?_];let z:=pX;exact q D g d VV j λb n=>(k b n).trans (r b n)
 .refine#[_,Z,p,9,Z,m,VU,VU,λD g d i j k=>?_];exact q D g d VV j λb n=>(k b n).trans (r b n)
theorem oJ:ai ["_law_box_here","_law_names_here","_law_deep","_law_kind","_law_one"] z11z (ae pq):=bN
theorem Aq(F:tf K "_law_term" pq f fd)(cF:Cl P w K mg base (n+2) f fd z11z (db n) "_law_term")(S:Cl P w K mg base 1 fT f0 z1z bq "_law_take")(cN:Cl P w K mg base 2 fN f2 z2z fV "_law_number")(ml:mg "len"=θ):ah P w K mg base aE (n+3) f fd z11z (db$ n+1):=by
 refine F.ok oJ λc0 A T s H vs Q E u h=>?_
 let⟨p,g,d,ys,rfl,B,hg,v,x,h1,h2,q⟩:=h;refine#[_,(jd (jB 3 oJ.nd$ S.e u.m$ ja (pv 0)$ ja jf jc)$ jd (zb$ jy (PW.pt$ Xr (jz Ql (pv 3) jf$ aF _)$ Kk$ PW.pt$ qL (jz qo (pv 3) jf$ aF _)$ qd$ zY$ pv 2) (jg$ jm$ jl$ ja jw$ ja (cN.e u.m$ ja (pv 0) jc) jc) jo)$ jd (jy (jz Ql (pv 3) jf$ aF _) (jg$ jm$ jl$ ja jw$ ja (ju jD (pv 1) (S.e u.m$ ja (pv 0)$ ja (jN jI Z ml NO$ ja (pv 1) jc) jc) (λ_ _=>Z)) jc) jo)$ jd (jB 4 oJ.nd$ cF.e u$ ja (pv 0)$ ja (pv 1)$ ja (jx kP (pv 2) jf) jc)$ jg$ jm$ jl$ ja jw$ ja (ju Kl jw (S.e u.m$ ja (pv 0)$ ja jf jc) (λ_ _=>Z))$ ja (pv 4)$ ja (cF.e u$ ja (pv 0)$ ja (pv 1)$ ja (jx kP (pv 2) jf) jc) jc),?_];let b0:=zE;let j:g≠p:=qO B hg;refine aj λF1 l=>#[_,Z,p,6,Z,B,VU,VU,λM O k0 k1 R e1=>l _ _ ?_];clear l;let k:O g=δ (.lst$ ys.map ry):=by rw[e1 g j];exact hg
 let U:aH p H O:=aH.of_eq e1;let num:∀(D:Int) (a:Hp) (r:η),0<=D->D < 1000000000000000000->ap a p->(∀b,b≠p->a b=O b)->a r=θ->Q (.ref r) (af a r$ .tup [.str "num",.int D]):=λD a r C I i o N=>
  q r (.num D) _ jb (by show((0:Nat):Int)<=d;omega) #[C,I] (i.upd_new N) ((U.trans$ aH.of_eq o).upd_new N)
 refine aj λF1 l=>gA (λJ H'=>J=[↑p,↑g,δ$ .int d,δ$ .int M,θ]/\H'=O/\(M<=3∨d≠0)) (λE2 eR fm=>?_) λJ H' W=>?_
 .clear l;refine oW λG' G=>#[_,Z,_,_,Z,Z,_,Z,?_];refine bZ (λc=>?_) (λc=>?_)
  .refine G _ _$ i8 ?_;show gg _ E2 _ _;unfold gg;rw[eR];exact#[_,Z,p,Z,R,λD a C I i o=>#[cp,λr N=>num D a r C I i o N]]
  refine#[_,Z,_,_,Z,Z,_,Z,?_];refine bZ (λc2=>?_) (λc2=>?_)
  .refine#[_,Z,Z,_,Z,G _ _ ?_];refine bZ (λc3=>?_) (λc3=>?_)
   .show gg _ E2 _ _;unfold gg;rw[eR];exact#[_,Z,p,Z,R,λD a C I i o=>#[cp,λr N=>num D a r C I i o N]]
   .exact fm _ _ #[Z,Z,.inr λz=>c3 (by rw[z];rfl)]
  .let c1:¬(3:Int) < M:=RQ (mL.mpr c2);exact G _ _$ lU$ fm _ _ #[Z,Z,.inl VV]
 let⟨rfl,eH,hk⟩:=W;rw[eH];refine l _ _ ?_;clear l;refine aj λF1 l=>oW λG' G=>#[_,Z,_,_,Z,Z,_,Z,G _ _ ?_];clear G;refine bZ (λc=>?_) (λc=>l _ _ ?_)
 .-- a variable
  refine#[_,Z,_,Z,_,Z,g,_,Z,.inl$ aI.of k,p,_,Z,R,by rw[MY];omega,by rw[MY];omega,λD a X L i o=>?_];rw[MY]at L;let⟨y,hy,Y⟩:=QT (ys:=ys) X L;let t:a g=δ (.lst$ ys.map ry):=by rw[o g j];exact k
  refine#[g,_,_,_,Z,Z,aI.of t,Y,cp,λr N=>?_];exact q r (.var y) _ jb (by show((0:Nat):Int)<=d;omega) hy (i.upd_new N) ((U.trans$ aH.of_eq o).upd_new N)
 .let c':¬M < (4:Int):=RQ (mL.mpr c);let hd:d≠0:=hk.resolve_left VV;refine#[_,Z,_,Z,_,Z,_,_,Z,Z,p,g,d - 1,ys,Z,R,k,v,x,VV,VV,λr1 T1 a t1 d3 g0 i k2=>?_];let t:a g=δ (.lst$ ys.map ry):=k2 g _ j k;refine#[_,Z,p,6,Z,i,VU,VU,λs3 H3 s0 s1 B3 e3=>?_];let h0:H3 g=δ (.lst$ ys.map ry):=by rw[e3 g j];exact t
  let k3:aH p a H3:=aH.of_eq e3;refine#[mx,_,_,Z,Z,(by rw[wW];omega),EY s0 s1,?_];refine#[_,Z,_,Z,_,Z,_,Z,_,_,Z,Z,p,g,d - 1,ys,Z,B3,h0,v,x,VV,VV,λr2 T2 H4 t2 d4 g1 B4 k4=>?_];refine#[pU,λr N=>?_];let t0:bn H4 T1 r1:=(t1.but i k3).but B3 k4;refine q r (.op s3.toNat T1 T2) _ #[r1,r2,jb,t0.new N,t2.new N] ?_ #[VV,g0,g1] (B4.upd_new N) (((U.trans k2).trans$ k3.trans k4).upd_new N);show((max T1.depth T2.depth+1:Nat):Int)<=d;omega
theorem y9:ah P w K mg base aE 2 f e z11z (db 0):=by
 let n:∀v H Q E,¬db 0 v H Q E:=λv H Q E h=>by let⟨p,g,d,y,_,_,_,_,_,i,b,_⟩:=h;let c:d < ((0:Nat):Int):=b;omega
 exact#[λv H Q E h=>absurd h (n v H Q E),λA o s H a u v Q E _ _ _ _ h=>absurd h (n v H Q E)]
theorem CC(F:tf K "_law_term" pq f a)(b:aC K a z11z [])(m:mg "_law_term"=↑f)(c:Cl P w K mg base 1 g d z1z bq "_law_take")(C:Cl P w K mg base 2 h e z2z fV "_law_number")(M:mg "len"=θ):
  ∀n:Nat,ah P w K mg base aE (n+2) f a z11z (db n)
 |0=>y9
 |n+1=>Aq F #[(CC F b m c C M n),b,F.kp,m] c C M
end _K
namespace _K
open PySem PySem.Spec PyProof.Rows _L
variable {P:ψ}{w:bU}{K:γ}{mg:ρ->Option ζ}{base:de}
noncomputable def Tm.vars:Tm->List ρ
 | .num _=>[]
 | .var x=>[x]
 | .op _ a b=>a.vars++b.vars
theorem kI:∀{t:Tm},t.Good y->∀x∈t.vars,x∈y
 | .num _,_,_,h=>nomatch h
 | .var _,g,_,h=>by rw[υ.mp h];exact g
 | .op _ _ _,g,_,h=>(Ξ.mp h).elim (kI g.2.1 _) (kI g.2.2 _)
theorem kh:∀{l m:List ρ},l.Nodup->(∀x∈l,x∈m)->l.length<=m.length
 | [],_,_,_=>M6 _
 |x::l,m,n,h=>by rw[UE]at n;let H:=h x No;let q:=kh (l:=l) (m:=m.erase x) n.2 λy a=>(List.mem_erase_of_ne (λe=>n.1 (by rw[<- e];exact a))).mpr (h y$ Nv _ a);rw[List.length_erase_of_mem H]at q;let:0 < m.length:=List.length_pos_of_mem H;rw[Nz];omega
theorem KL:∀{l m:List ρ},l.Nodup->m.Nodup->(∀x,x∈l↔x∈m)->l.Perm m
 | [],[],_,_,_=>.nil
 | [],y::m,_,_,h=>absurd ((h y).mpr No) VW
 |x::l,m,n,N,h=>by
  rw[UE]at n;let a:x∈m:=(h x).mp No;refine(List.Perm.cons x$ KL n.2 (N.erase x) λy=>?_).trans (List.perm_cons_erase a).symm;rw[N.mem_erase_iff];constructor
  .intro H;exact#[λe=>n.1 (by rw[<- e];exact H),(h y).mp$ Nv _ H]
  .rintro ⟨b,H⟩;exact(Φ.mp ((h y).mpr H)).resolve_left b
theorem QK:∀{p:ρ} {l:List ρ},risingS p l=μ->(p::l).Pairwise λa b=>a.cps.toList<=b.cps.toList
 |p,[],_=>by simp
 |p,x::r,h=>by
  let H:(!ltCps x.cps.toList p.cps.toList&&risingS x r)=μ:=h;rw[Of]at H;let i:=QK H.2;let c:p.cps.toList<=x.cps.toList:=by let z:=H.1;rw[ltCps_eq]at z;simpa using z
  rw[ks]at i ⊢;refine#[λy hy=>?_,ks.mpr i];rcases Φ.mp hy with rfl |hy
  .exact c
  .exact List.le_trans c$ i.1 y hy
theorem QL(h:sortedS l=μ):l.Pairwise λa b=>a.cps.toList<=b.cps.toList:=by
 cases l with
 |nil=>exact .nil
 |cons x r=>exact QK h
theorem Yi{l:List ρ}(p:l.Perm m)(h:sortedS l=μ)(H:sortedS m=μ):l=m:=by refine List.Perm.eq_of_pairwise (λa b _ _ x y=>?_) (QL h) (QL H) p;let e:=List.le_antisymm x y;cases a;cases b;exact Od Str.mk$ Array.toList_inj.mp e
inductive Lf where
 |rd (x:ρ) (t:η) (T:Tm)
 |st (x:ρ) (t:η) (T:Tm)
 |wr (t u:η) (T U:Tm)
 |cl (x f:ρ) (q:η) (ts:List (η×Tm))
 |gv (t:η) (T:Tm)
def yh(H:Hp):Lf->List V->Prop
 | .rd x t T,v=>v=[.str "read",.str x,.ref t]/\bn H T t
 | .st x t T,v=>v=[.str "set",.str x,.ref t]/\bn H T t
 | .wr t u T U,v=>v=[.str "write",.ref t,.ref u]/\bn H T t/\bn H U u
 | .cl x f q a,v=>v=[.str "call",.str x,.str f,.ref q]/\H q=δ (.tup (a.map λc=>sn c.1))/\∀c∈a,bn H c.2 c.1
 | .gv t T,v=>v=[.str "give",.ref t]/\bn H T t
theorem yh.mono(k:ax H a)(h:yh H l v):yh a l v:=by
 cases l with
 |rd x t T |st x t T |gv t T=>exact#[h.1,h.2.mono k]
 |wr t u T U=>exact#[h.1,h.2.1.mono k,h.2.2.mono k]
 |cl x f q d=>exact#[h.1,k _ _ h.2.1,λc b=>(h.2.2 c b).mono k]
inductive Bd where
 |nil
 |lf (p:η) (l:Lf) (r:Bd)
 |ite (p t:η) (T:Tm) (a b r:Bd)
 |loop (p t:η) (T:Tm) (a r:Bd)
noncomputable def Bd.app:Bd->Bd->Bd
 | .nil,s=>s
 | .lf p l r,s=>.lf p l (r.app s)
 | .ite p t T a b r,s=>.ite p t T a b (r.app s)
 | .loop p t T a r,s=>.loop p t T a (r.app s)
noncomputable def Bd.size:Bd->Nat
 | .nil=>0
 | .lf _ _ r=>r.size+1
 | .ite _ _ _ a b r=>a.size+b.size+r.size+1
 | .loop _ _ _ a r=>a.size+r.size+1
noncomputable def Bd.dep:Bd->Nat
 | .nil=>0
 | .lf _ _ r=>r.dep
 | .ite _ _ _ a b r=>max (max a.dep b.dep+1) r.dep
 | .loop _ _ _ a r=>max (a.dep+1) r.dep
def dE(y:List ρ)(T:Tm):Prop:=T.Good y/\T.depth < 6
noncomputable def Lf.Ok(y:List ρ):Lf->Prop
 | .rd x _ T=>x∈y/\dE y T
 | .st x _ T=>x∈y/\dE y T
 | .wr _ _ T U=>dE y T/\dE y U
 | .cl x _ _ t=>x∈y/\t.length<=6/\∀c∈t,dE y c.2
 | .gv _ T=>dE y T
noncomputable def Bd.Ok(y:List ρ):Bd->Prop
 | .nil=>True
 | .lf _ l r=>l.Ok y/\r.Ok y
 | .ite _ _ T a b r=>dE y T/\a.Ok y/\b.Ok y/\r.Ok y
 | .loop _ _ T a r=>dE y T/\a.Ok y/\r.Ok y
abbrev iD:=List (ρ×Nat)
noncomputable def Lf.Cs(F:iD):Lf->Prop
 | .cl _ f _ t=>(f,t.length)∈F
 |_=>True
noncomputable def Bd.Cs(F:iD):Bd->Prop
 | .nil=>True
 | .lf _ l r=>l.Cs F/\r.Cs F
 | .ite _ _ _ a b r=>a.Cs F/\b.Cs F/\r.Cs F
 | .loop _ _ _ a r=>a.Cs F/\r.Cs F
theorem Kn{F:iD}:∀{a b:Bd},a.Cs F->b.Cs F->(a.app b).Cs F
 | .nil,_,_,h=>h
 | .lf _ _ _,_,h,k=>#[h.1,Kn h.2 k]
 | .ite _ _ _ _ _ _,_,h,k=>#[h.1,h.2.1,Kn h.2.2 k]
 | .loop _ _ _ _ _,_,h,k=>#[h.1,Kn h.2 k]
theorem kJ{F:iD}(k:∀f∈F,f∈G):∀{a:Bd},a.Cs F->a.Cs G
 | .nil,_=>trivial
 | .lf _ l _,h=>#[by cases l<;>first |exact k _ h.1 |trivial,kJ k h.2]
 | .ite _ _ _ _ _ _,h=>#[kJ k h.1,kJ k h.2.1,kJ k h.2.2]
 | .loop _ _ _ _ _,h=>#[kJ k h.1,kJ k h.2]
noncomputable def Lf.calls:Lf->iD
 | .cl _ f _ t=>[(f,t.length)]
 |_=>[]
noncomputable def Bd.calls:Bd->iD
 | .nil=>[]
 | .lf _ l r=>l.calls++r.calls
 | .ite _ _ _ a b r=>a.calls++(b.calls++r.calls)
 | .loop _ _ _ a r=>a.calls++r.calls
theorem zF:∀b:Bd,b.Cs b.calls
 | .nil=>trivial
 | .lf _ l r=>#[by cases l<;>first |exact mt _ List.mem_cons_self |trivial,kJ (λ_ h=>iu _ h) (zF r)]
 | .ite _ _ _ a b r=>#[kJ (λ_ h=>mt _ h) (zF a),kJ (λ_ h=>iu _ (mt _ h)) (zF b),kJ (λ_ h=>iu _ (iu _ h)) (zF r)]
 | .loop _ _ _ a r=>#[kJ (λ_ h=>mt _ h) (zF a),kJ (λ_ h=>iu _ h) (zF r)]
theorem zG{F:iD}:∀{b:Bd},b.Cs F->∀f∈b.calls,f∈F
 | .nil,_,_,h=>nomatch h
 | .lf _ l r,k,f,h=>(Ξ.mp h).elim (λh=>by cases l<;>first | (rw[υ.mp h];exact k.1) |exact nomatch h) (zG k.2 f)
 | .ite _ _ _ a b r,k,f,h=>(Ξ.mp h).elim (zG k.1 f) λh=>(Ξ.mp h).elim (zG k.2.1 f) (zG k.2.2 f)
 | .loop _ _ _ a r,k,f,h=>(Ξ.mp h).elim (zG k.1 f) (zG k.2 f)
theorem jY:∀(a b:Bd),(a.app b).size=a.size+b.size
 | .nil,b=>by show b.size=0+b.size;omega
 | .lf _ _ r,b=>by let:=jY r b;show(r.app b).size+1=r.size+1+b.size;omega
 | .ite _ _ _ x y r,b=>by let:=jY r b;show x.size+y.size+(r.app b).size+1=x.size+y.size+r.size+1+b.size;omega
 | .loop _ _ _ x r,b=>by let:=jY r b;show x.size+(r.app b).size+1=x.size+r.size+1+b.size;omega
theorem zp:∀(a b:Bd),(a.app b).dep=max a.dep b.dep
 | .nil,b=>(Nat.zero_max b.dep).symm
 | .lf _ _ r,b=>zp r b
 | .ite _ _ _ x y r,b=>by show max _ (r.app b).dep=max (max _ r.dep) b.dep;rw[zp r b,U5]
 | .loop _ _ _ x r,b=>by show max _ (r.app b).dep=max (max _ r.dep) b.dep;rw[zp r b,U5]
theorem Ko:∀{a b:Bd},a.Ok y->b.Ok y->(a.app b).Ok y
 | .nil,_,_,h=>h
 | .lf _ _ _,_,g,h=>#[g.1,Ko g.2 h]
 | .ite _ _ _ _ _ _,_,g,h=>#[g.1,g.2.1,g.2.2.1,Ko g.2.2.2 h]
 | .loop _ _ _ _ _,_,g,h=>#[g.1,g.2.1,Ko g.2.2 h]
def dJ(H:Hp):Bd->List V->Prop
 | .nil,x=>x=[]
 | .lf p l r,x=>∃v y,x= .ref p::y/\H p=δ (.tup v)/\yh H l v/\dJ H r y
 | .ite p t T a b r,x=>∃q Q A B y,x= .ref p::y/\H p=δ (.tup [.str "if",.ref t,.ref q,.ref Q])/\bn H T t/\H q=δ (.tup A)/\H Q=δ (.tup B)/\dJ H a A/\dJ H b B/\dJ H r y
 | .loop p t T a r,x=>∃q A y,x= .ref p::y/\H p=δ (.tup [.str "while",.ref t,.ref q])/\bn H T t/\H q=δ (.tup A)/\dJ H a A/\dJ H r y
theorem dJ.mono(k:ax H m):∀{x:List V},dJ H a x->dJ m a x:=by
 induction a with
 |nil=>exactλh=>h
 |lf p l r n=>rintro x ⟨v,y,e,c,d,f⟩;exact#[v,y,e,k _ _ c,d.mono k,n f]
 |ite p t T a b r i o I=>rintro x ⟨q,Q,A,B,y,e,c,g,d,f,j,s,u⟩;exact#[q,Q,A,B,y,e,k _ _ c,g.mono k,k _ _ d,k _ _ f,i j,o s,I u]
 |loop p t T a r i I=>rintro x ⟨q,A,y,e,c,g,d,f,j⟩;exact#[q,A,y,e,k _ _ c,g.mono k,k _ _ d,i f,I j]
theorem dJ.app(k:dJ H b y):∀{x:List V},dJ H a x->dJ H (a.app b) (x++y):=by
 induction a with
 |nil=>intro x h;let e:x=[]:=h;rw[e];exact k
 |lf p l r I=>rintro x ⟨v,z,e,c,d,f⟩;exact#[v,z++y,by rw[e];rfl,c,d,I f]
 |ite p t T a b r _ _ i=>rintro x ⟨q,Q,A,B,z,e,c,g,d,f,j,m,n⟩;exact#[q,Q,A,B,z++y,by rw[e];rfl,c,g,d,f,j,m,i n]
 |loop p t T a r _ i=>rintro x ⟨q,A,z,e,c,g,d,f,j⟩;exact#[q,A,z++y,by rw[e];rfl,c,g,d,f,i j]
theorem dJ.len{a:Bd}:∀{xs:List V},dJ H a xs->xs.length<=a.size:=by
 induction a with
 |nil=>intro xs h;let e:xs=[]:=h;rw[e];exact M0 0
 |lf p l r I=>rintro xs ⟨v,y,e,d,f,c⟩;rw[e];exact OZ (I c)
 |ite p t T a b r _ _ i=>rintro xs ⟨q,Q,A,B,y,e,d,j,f,c,g,m,k⟩;rw[e];exact OZ (Ng (i k) (UO _ _))
 |loop p t T a r _ i=>rintro xs ⟨q,A,y,e,d,j,f,c,g⟩;rw[e];exact OZ (Ng (i g) (UO _ _))
inductive ik(H:Hp):V->Bd->Prop
 |lf (p:η) (l:Lf) (vs:List V) (h1:H p=δ (.tup vs)) (h2:yh H l vs):ik H (.ref p) (.lf p l .nil)
 |ite (p t:η) (T:Tm) (a b:Bd) (qa qb:η) (as bs:List V) (h1:H p=δ (.tup [.str "if",.ref t,.ref qa,.ref qb])) (h0:bn H T t) (h2:H qa=δ (.tup as)) (h3:H qb=δ (.tup bs)) (h4:dJ H a as) (h5:dJ H b bs):ik H (.ref p) (.ite p t T a b .nil)
 |loop (p t:η) (T:Tm) (a:Bd) (qa:η) (as:List V) (h1:H p=δ (.tup [.str "while",.ref t,.ref qa])) (h0:bn H T t) (h2:H qa=δ (.tup as)) (h3:dJ H a as):ik H (.ref p) (.loop p t T a .nil)
theorem ik.bd(h:ik H v s):dJ H s [v]:=by
 cases h with
 |lf p l V c d=>exact#[V,[],Z,c,d,Z]
 |ite p t T a b q Q A B c e d f g i=>exact#[q,Q,A,B,[],Z,c,e,d,f,g,i,Z]
 |loop p t T a q A c e d f=>exact#[q,A,[],Z,c,e,d,f,Z]
theorem ik.mono(k:ax H g)(h:ik H v s):ik g v s:=by
 cases h with
 |lf p l V c d=>exact .lf p l V (k _ _ c) (d.mono k)
 |ite p t T a b q Q A B c e d f i j=>exact .ite p t T a b q Q A B (k _ _ c) (e.mono k) (k _ _ d) (k _ _ f) (i.mono k) (j.mono k)
 |loop p t T a q A c e d f=>exact .loop p t T a q A (k _ _ c) (e.mono k) (k _ _ d) (f.mono k)
theorem dJ.last:∀{x:List V},dJ H a x->x=[]/\a= .nil∨∃z v b s,x=z++[v]/\a=b.app s/\dJ H b z/\ik H v s:=by
 induction a with
 |nil=>exactλh=>.inl #[h,Z]
 |lf p l r i=>
  rintro x ⟨u,y,e,f,g,n⟩;rcases i n with ⟨E,d⟩ | ⟨z,v,b,s,E,d,j,k⟩
  .exact .inr #[[],.ref p,.nil,.lf p l .nil,by rw[e,E];rfl,by rw[d];rfl,Z,.lf p l u f g]
  .exact .inr #[.ref p::z,v,.lf p l b,s,by rw[e,E];rfl,by rw[d];rfl,#[u,z,Z,f,g,j],k]
 |ite p t T a b r _ _ i=>
  rintro x ⟨q,Q,A,B,y,e,f,m,g,n,G,C,o⟩;rcases i o with ⟨E,d⟩ | ⟨z,v,c,s,E,d,j,k⟩
  .exact .inr #[[],.ref p,.nil,.ite p t T a b .nil,by rw[e,E];rfl,by rw[d];rfl,Z,.ite p t T a b q Q A B f m g n G C]
  .exact .inr #[.ref p::z,v,.ite p t T a b c,s,by rw[e,E];rfl,by rw[d];rfl,#[q,Q,A,B,z,Z,f,m,g,n,G,C,j],k]
 |loop p t T a r _ i=>
  rintro x ⟨q,A,y,e,f,m,g,G,o⟩;rcases i o with ⟨E,d⟩ | ⟨z,v,c,s,E,d,j,k⟩
  .exact .inr #[[],.ref p,.nil,.loop p t T a .nil,by rw[e,E];rfl,by rw[d];rfl,Z,.loop p t T a q A f m g G]
  .exact .inr #[.ref p::z,v,.loop p t T a c,s,by rw[e,E];rfl,by rw[d];rfl,#[q,A,z,Z,f,m,g,G,j],k]
theorem zN:∀{a b:Bd},(a.app b).Ok y->a.Ok y/\b.Ok y
 | .nil,_,h=>#[trivial,h]
 | .lf _ _ _,_,h=>#[#[h.1,(zN h.2).1],(zN h.2).2]
 | .ite _ _ _ _ _ _,_,h=>#[#[h.1,h.2.1,h.2.2.1,(zN h.2.2.2).1],(zN h.2.2.2).2]
 | .loop _ _ _ _ _,_,h=>#[#[h.1,h.2.1,(zN h.2.2).1],(zN h.2.2).2]
structure Nm(ss:List ρ)(M:ρ->Prop):Prop where
 nd:ss.Nodup
 so:sortedS ss=μ
 mem:∀x,x∈ss↔M x
theorem Nm.uniq(h:Nm a M)(g:Nm s M):a=s:=Yi (KL h.nd g.nd λx=>(h.mem x).trans (g.mem x).symm) h.so g.so
open Classical in
def canon(M:ρ->Prop):List ρ:=if h:∃s,Nm s M then Classical.choose h else []
theorem Nm.canon(h:Nm s M):s=canon M:=by let e:∃s,Nm s M:=#[s,h];unfold _K.canon;rw[dif_pos e];exact h.uniq$ Classical.choose_spec e
theorem Nm.len{s y:List ρ}{M:ρ->Prop}(h:Nm s M)(H:∀x,M x->x∈y):s.length<=y.length:=kh h.nd λx a=>H x ((h.mem x).mp a)
noncomputable def Lf.use(M:ρ->Prop):Lf->ρ->Prop
 | .rd x _ T,y=>(M y/\y≠x)∨y∈T.vars
 | .st x _ T,y=>(M y/\y≠x)∨y∈T.vars
 | .wr _ _ T U,y=>M y∨y∈T.vars∨y∈U.vars
 | .cl x _ _ t,y=>(M y/\y≠x)∨∃c∈t,y∈c.2.vars
 | .gv _ T,y=>y∈T.vars
noncomputable def Bd.use:Bd->(ρ->Prop)->ρ->Prop
 | .nil,M=>M
 | .lf _ l r,M=>l.use (r.use M)
 | .ite _ _ T a b r,M=>λy=>(a.use (r.use M) y∨b.use (r.use M) y)∨y∈T.vars
 | .loop _ _ T a r,M=>λy=>(a.use (λ_=>False) y∨r.use M y)∨y∈T.vars
theorem J6:∀(a b:Bd) (M:ρ->Prop),(a.app b).use M=a.use (b.use M)
 | .nil,_,_=>rfl
 | .lf _ l r,b,M=>by show l.use ((r.app b).use M)=l.use (r.use (b.use M));rw[J6 r b M]
 | .ite _ _ T x y r,b,M=>by show(λz=>(x.use ((r.app b).use M) z∨y.use ((r.app b).use M) z)∨z∈T.vars)=λz=>(x.use (r.use (b.use M)) z∨y.use (r.use (b.use M)) z)∨z∈T.vars;rw[J6 r b M]
 | .loop _ _ T x r,b,M=>by show(λz=>(x.use (λ_=>False) z∨(r.app b).use M z)∨z∈T.vars)=λz=>(x.use (λ_=>False) z∨r.use (b.use M) z)∨z∈T.vars;rw[J6 r b M]
theorem Lf.use_in{M:ρ->Prop}{l:Lf}(h:l.Ok Y)(a:∀x,M x->x∈Y):∀y,l.use M y->y∈Y:=by
 intro y H;cases l with
 |rd x t T |st x t T=>exact H.elim (λz=>a y z.1) (kI h.2.1 y)
 |wr t u T U=>exact H.elim (a y) λz=>z.elim (kI h.1.1 y) (kI h.2.1 y)
 |cl x f q d=>exact H.elim (λz=>a y z.1) λ#[c,b,z]=>kI (h.2.2 c b).1 y z
 |gv t T=>exact kI h.1 y H
theorem Bd.use_in:∀{b:Bd} {M:ρ->Prop},b.Ok Y->(∀x,M x->x∈Y)->∀y,b.use M y->y∈Y
 | .nil,_,_,H,y,c=>H y c
 | .lf _ l r,_,h,H,y,c=>Lf.use_in h.1 (Bd.use_in h.2 H) y c
 | .ite _ _ T a b r,_,h,H,y,c=>c.elim (λz=>z.elim (Bd.use_in h.2.1 (Bd.use_in h.2.2.2 H) y) (Bd.use_in h.2.2.1 (Bd.use_in h.2.2.2 H) y)) (kI h.1.1 y)
 | .loop _ _ T a r,_,h,H,y,c=>c.elim (λz=>z.elim (Bd.use_in h.2.1 (λ_ w=>w.elim) y) (Bd.use_in h.2.2 H y)) (kI h.1.1 y)
end _K
namespace _K
open PySem PySem.Spec PyProof.Rows _L
variable {P:ψ}{w:bU}{K:γ}{mg:ρ->Option ζ}{base:de}
abbrev eZ:cv:=bP 14
abbrev EM:cv:=bP 39
abbrev wB:cv:=bP 40
abbrev A0:cv:=bP 41
abbrev AZ:cv:=bP 42
inductive dC(n:Nat)(c:List V)(H:Hp)(Q:VK)(b:XK):Prop
 |mk(a:η)(T:Tm)(d:List ρ)(_:c=[.ref a])(_:bn H T a)(_:T.depth < n)(_:T.Good d)(_:d.length<=21)(_:∀(r:η) (ss:List ρ) (H':Hp),H r=θ->H' r=δ (.lst (ss.map ry))->ss.Nodup->(∀x,x∈ss↔x∈T.vars)->sortedS ss=μ->aa H H'->Q (.ref r) H')
theorem wM:ai z0z z0z (ae eZ):=bN
theorem Ak{f:η}{o:hG}(F:tf K "names_in" eZ f o){n:Nat}(C:Cl P w K mg base (n+1) f o z0z (dC n) "names_in")(M:mg "set"=θ)(p:mg "sorted"=θ):ah P w K mg base aE (n+2) f o z0z (dC$ n+1):=by
 refine F.ok wM (λc0 A O s H vs Q E v h=>?_)
 let⟨a,T,Y,rfl,t,dp,g,j,q⟩:=h;refine#[_,(jd (jy (jW$ jv$ pv 0) (jg$ jm$ jK jc) jo)$ jd (jy (jW$ jv$ pv 0) (jg$ jm$ jK$ ja (jv$ pv 0) jc) jo)$ jg$ jm$ jN (ql Z) Z p Sd$ ja (jJ (qU Z) Z M VN$ ja (jx qN (C.e v$ ja (jv$ pv 0) jc)$ C.e v$ ja (jv$ pv 0) jc) jc) jc),?_];cases T with
 |num m=>have b:H a=δ (.tup [.str "num",.int m]):=t;refine(jp b Z #[Z,_,Z,cn VX ?_]);exact#[VU,λr N=>q r [] _ N jb RX (λx=>Sn) Z (je N)]
 |var x=>have b:H a=δ (.tup [.str "var",.str x]):=t;refine(jp b Z #[Z,_,Z,aT VX ?_]);refine(jp b Z #[Z,_,Z,cn VX ?_]);exact(jp b Z #[iZ,λr N=>q r [x] _ N jb VW (λy=>Sn) Z (je N)])
 |op i B D=>let⟨p1,p2,b,h1,h2⟩:=t;let d0:max B.depth D.depth+1 < n+1:=dp;refine(jp b Z #[Z,_,Z,aT VX ?_]);refine(jp b Z #[Z,_,Z,aT VX ?_]);refine(jp b Z #[p1,B,Y,Z,h1,VV,g.2.1,j,λr1 S H1 n1 e1 d1 G o1 u=>?_]);refine(jp (u _ _ b) Z #[p2,D,Y,Z,h2.same u,VV,g.2.2,j,λr2 k H2 n2 e2 d2 I o2 J=>?_]);let l1:S.length<=21:=Ng (kh d1 λx d=>kI g.2.1 x ((G x).mp d)) j;let l2:k.length<=21:=Ng (kh d2 λx d=>kI g.2.2 x ((I x).mp d)) j;let b0:=zE;refine#[r1,r2,_,_,Z,Z,J _ _ e1,e2,(by rw[MY,MY];omega),λc nc=>?_];refine#[c,S++k,Z,aI.of (by rw[jb,Nl]),(λL nd hs=>Ol (OZ$ kh nd hs) (by rw[MZ];show S.length+k.length+1 < 4096;omega)),λl L nl dL R=>?_];let lL:=kh dL λx d=>(R x).mp d;rw[MZ]at lL;refine#[l,L,Z,jb,VV,λz ss U W dz oz=>?_];let X:aa H (af (af H2 c$ .lst$ S.map ry++k.map ry) l$ IL P w l L):=(u.trans J).trans ((je nc).trans$ je nl);refine q z ss _ (X.free U) jb (W.nodup_iff.mpr dz) (λx=>?_) oz$ X.trans$ je U;rw[W.mem_iff,R x,OP,G x,I x];exact Ξ.symm
theorem y7:ah P w K mg base aE 1 f d z0z (dC 0):=by
 let n:∀v H Q E,¬dC 0 v H Q E:=λv H Q E h=>by let⟨a,T,y,_,_,c,_⟩:=h;exact absurd c$ P2 _
 exact#[λv H Q E h=>absurd h (n v H Q E),λA o s H b u v Q E _ _ _ _ h=>absurd h (n v H Q E)]
theorem Cd(F:tf K "names_in" eZ f a)(b:aC K a z0z [])(c:mg "names_in"=↑f)(m:mg "set"=θ)(M:mg "sorted"=θ):
  ∀n:Nat,ah P w K mg base aE (n+1) f a z0z (dC n)
 |0=>y7
 |n+1=>Ak F #[(Cd F b c m M n),b,F.kp,c] m M
noncomputable def Lf.own:Lf->List (η×Tm)
 | .rd _ t T=>[(t,T)]
 | .st _ t T=>[(t,T)]
 | .wr t u T U=>[(t,T),(u,U)]
 | .cl _ _ _ a=>a
 | .gv t T=>[(t,T)]
noncomputable def Bd.own:Bd->List (η×Tm)
 | .nil=>[]
 | .lf _ l _=>l.own
 | .ite _ t T _ _ _=>[(t,T)]
 | .loop _ t T _ _=>[(t,T)]
noncomputable def rT(c:η×Tm):V:=.ref c.1
inductive nO(b:List V)(H:Hp)(Q:VK)(a:XK):Prop
 |mk(v:V)(s:Bd)(_:b=[v])(_:ik H v s)(_:∀(r:η) (H':Hp),H' r=δ (.tup (s.own.map rT))->aa H H'->Q (.ref r) H')
theorem Zw:aW (a::b::r) (δ 1) (δ 2)=[b]:=by
 unfold aW;let e:(1:Int)=((1:Nat):Int):=rfl;let E:(2:Int)=((2:Nat):Int):=rfl;rw[E,e,HT.sIx_nat,HT.sIx_nat,Nz,Nz];let c:min 1 (r.length+1+1)=1:=by omega
 let d:min 2 (r.length+1+1) - 1=1:=by omega
 rw[c,d];rfl
theorem Co:ai ["statement","word"] z5z (ae EM):=bN
theorem D5{f:η}{j:hG}(F:tf K "own_terms" EM f j):ah P w K mg base aE 1 f j z5z nO:=by
 refine F.ok Co λC A o s H V Q E d h=>?_
 let⟨v,st,rfl,m,q⟩:=h;refine#[_,(jd (jB 1 Co.nd$ jv$ pv 0)$ jd (jy (jz zu (pv 1) (jl$ ja jw$ ja jw jc) Z) (jg$ jm$ jM kc (pv 0) (jL jf) jV) jo)$ jd (jy (jW$ pv 1) (jg$ jm$ jM kc (pv 0) (jL jf) jV) jo)$ jd (jy (jW$ pv 1) (jg$ jm$ jv$ pv 0) jo)$ jg$ jm$ jM kc (pv 0) (jL jf)$ jL jf),?_];cases m with
 |lf p l V c g=>
  cases l with
  |rd x t T |st x t T=>let⟨rfl,i⟩:=g;refine(jp c Z #[_,Z,cp,λl n=>#[l,_,Z,.inr$ aB.of jb,Z,Z,_,Z,cn VX ?_]]);exact#[_,Z,_,Z,p,_,Z,am c n,λr e d s=>q r e d ((je n).trans s)]
  |wr t u T U=>let⟨rfl,i,L⟩:=g;refine(jp c Z #[_,Z,cp,λl n=>#[l,_,Z,.inr$ aB.of jb,Z,Z,_,Z,aT VX ?_]]);refine#[_,Z,Z,_,Z,cn VX ?_];exact#[_,Z,_,Z,p,_,Z,am c n,λr e d s=>q r e d ((je n).trans s)]
  |cl x M y N=>let⟨rfl,z,i⟩:=g;refine(jp c Z #[_,Z,cp,λl n=>#[l,_,Z,.inr$ aB.of jb,Z,Z,_,Z,aT VX ?_]]);refine#[_,Z,Z,_,Z,aT VX ?_];refine#[_,Z,Z,_,Z,cn VX ?_];exact(jp (am c n) Z$ q y _ (am z n)$ je n)
  |gv t T=>let⟨rfl,i⟩:=g;refine(jp c Z #[_,Z,cp,λl n=>#[l,_,Z,.inr$ aB.of jb,Z,Z,_,Z,aT VX ?_]]);refine#[_,Z,Z,_,Z,aT VX ?_];refine#[_,Z,Z,_,Z,aT VX ?_];exact#[_,Z,_,Z,_,Z,p,_,Z,am c n,λr e d s=>q r e (by rw[Zw]at d;exact d) ((je n).trans s)]
 |ite p t T a b B O D R c G g I S W |loop p t T a B D c G g I=>refine(jp c Z #[_,Z,cp,λl n=>#[l,_,Z,.inr$ aB.of jb,Z,Z,_,Z,aT VX ?_]]);refine#[_,Z,Z,_,Z,aT VX ?_];refine#[_,Z,Z,_,Z,aT VX ?_];exact#[_,Z,_,Z,_,Z,p,_,Z,am c n,λr e d s=>q r e (by rw[Zw]at d;exact d) ((je n).trans s)]
theorem KM{K:γ}{a:η}{Y:List ρ}{t:TT}{T:TE}{q:List V->Hp->Prop}{b:_L.St}{H:Hp}(f:ρ->Bool)(L:Y.length<=1000)(A:H a=δ (.lst$ Y.map ry))
  (B:∀y g (Q:Bool->Hp->Prop),y∈Y->aa H g->(∀j,aa g j->Q (f y) j)->t (δ (.str y)::b) g Q)
  (C:∀y g (Q:VK),y∈Y->Q (.str y) g->T (δ (.str y)::b) g Q) (D:∀c,aa H c->q ((Y.filter f).map ry) c):eJ (xX K a) 1 b (bQ 0) t T q H:=by
 let F:=zE;refine#[λi m n c=>m=Y.length - i/\i<=Y.length/\n=((Y.take i).filter f).map ry/\aa H c,#[Y.length,VW,M6 _,VW,aa.refl H],?_];rintro i m n c ⟨rfl,M,rfl,k⟩;let d:aI K c a (Y.map ry):=aI.of (k _ _ A);by_cases h:i < Y.length
 .let o:(Y.map ry)[i]?=δ (.str Y[i]):=by rw[Ni,MV h];rfl
  refine .inr #[#[_,_,d,o],?_,λz j=>z=((Y.take$ i+1).filter f).map ry/\aa H j,λz j #[G,I]=>#[Y.length - (i+1),VV,Z,h,G,I],λv j N l y=>?_]
  .rw[MY];let:=PL f (Y.take i);rw[Nq]at this;omega
  let⟨e,y⟩:=y;subst e;let p:=y _ d;rw[o]at p;cases p;let⟨w,rfl⟩:=rF l;let r:Y[i]∈Y:=PQ h;let s:Y.take (i+1)=Y.take i++[Y[i]]:=by rw[N0,MV h];rfl
  refine#[#[[δ _],Z,Z],B Y[i] _ _ r k λJ u=>?_];cases x:f Y[i] with
  |true=>
   refine cn Z$ C Y[i] J _ r #[?_,k.trans u];rw[s,Po,Nl];let E:[Y[i]].filter f=[Y[i]]:=by simp [x]
   rw[E];rfl
  |false=>
   refine aT Z #[?_,k.trans u];rw[s,Po,Nl];let E:[Y[i]].filter f=[]:=by simp [x]
   rw[E];simp
 .let e:i=Y.length:=by omega
  subst e;refine .inl #[#[_,d,VW],?_];rw[Ou$ M0 _];exact D c k
noncomputable def Lf.bt(M:ρ->Prop):Lf->ρ->Prop
 | .rd x _ _,y=>M y/\y≠x
 | .st x _ _,y=>M y/\y≠x
 | .wr _ _ _ _,y=>M y
 | .cl x _ _ _,y=>M y/\y≠x
 | .gv _ _,_=>False
noncomputable def Bd.bt(M:ρ->Prop):Bd->ρ->Prop
 | .nil,y=>M y
 | .lf _ l _,y=>l.bt M y
 | .ite _ _ _ a b _,y=>a.use M y∨b.use M y
 | .loop _ _ _ a _,y=>a.use (λ_=>False) y∨M y
theorem xO(h:ik H v s)(M:ρ->Prop)(y:ρ):s.use M y↔s.bt M y∨∃c∈s.own,y∈c.2.vars:=by
 cases h with
 |lf p l V _ _=>
  cases l with
  |rd x t T |st x t T=>exact#[λz=>z.elim .inl λw=>.inr #[_,υ.mpr Z,w],λz=>z.elim .inl λ#[c,hc,w]=>.inr (by rw[υ.mp hc]at w;exact w)]
  |wr t u T U=>
   refine#[λz=>z.elim .inl λw=>.inr (w.elim (λw=>#[_,No ..,w]) λw=>#[_,Nv _$ υ.mpr Z,w]),λz=>z.elim .inl λ#[c,hc,w]=>.inr ?_];rcases Φ.mp hc with e |hc
   .rw[e]at w;exact .inl w
   .rw[υ.mp hc]at w;exact .inr w
  |cl x f q d=>exact Sn
  |gv t T=>exact#[λw=>.inr #[_,υ.mpr Z,w],λz=>z.elim False.elim λ#[c,hc,w]=>by rw[υ.mp hc]at w;exact w]
 |ite p t T a b Q g A B _ _ _ _ _ _ |loop p t T a Q A _ _ _ _=>exact#[λz=>z.elim .inl λw=>.inr #[_,υ.mpr Z,w],λz=>z.elim .inl λ#[c,hc,w]=>.inr (by rw[υ.mp hc]at w;exact w)]
structure NL(H:Hp)(g:η)(ss:List ρ)(M:ρ->Prop)(ys:List ρ):Prop where
 at':H g=δ (.lst$ ss.map ry)
 nm:Nm ss M
 sub:∀x,M x->x∈ys
 y20:ys.length<=21
theorem NL.len{H:Hp}{g:η}{s:List ρ}{M:ρ->Prop}{y:List ρ}(h:NL H g s M y):s.length<=21:=Ng (h.nm.len h.sub) h.y20
theorem NL.same(h:NL H g a M y)(s:aa H b):NL b g a M y:=#[s _ _ h.at',h.nm,h.sub,h.y20]
structure NU(H:Hp)(g:η)(ss:List ρ)(M:ρ->Prop)(ys:List ρ):Prop where
 at':H g=δ (.lst$ ss.map ry)
 nd:ss.Nodup
 mem:∀x,x∈ss↔M x
 sub:∀x,M x->x∈ys
 y20:ys.length<=21
theorem NL.nu(h:NL H g s M y):NU H g s M y:=#[h.at',h.nm.nd,h.nm.mem,h.sub,h.y20]
inductive xh(n:Nat)(c:List V)(H:Hp)(Q:VK)(a:XK):Prop
 |mk(v:V)(g:η)(s:Bd)(b:List ρ)(M:ρ->Prop)(d:List ρ)(_:c=[v,.ref g])(_:ik H v s)(_:NL H g b M d)(_:s.Ok d)(_:s.dep < n+1)(_:s.size<=10000000)(_:∀(r:η) (zs:List ρ) (H':Hp),H' r=δ (.lst (zs.map ry))->(∀y,y∈zs↔s.bt M y)->zs.length<=50->aa H H'->Q (.ref r) H')
inductive gM(n:Nat)(c:List V)(H:Hp)(Q:VK)(a:XK):Prop
 |mk(v:V)(g:η)(s:Bd)(b:List ρ)(M:ρ->Prop)(d:List ρ)(_:c=[v,.ref g])(_:ik H v s)(_:NL H g b M d)(_:s.Ok d)(_:s.dep < n+1)(_:s.size<=10000000)(_:∀(r:η) (zs:List ρ) (H':Hp),H r=θ->NL H' r zs (s.use M) d->aa H H'->Q (.ref r) H')
inductive iX(n:Nat)(e:List V)(H:Hp)(Q:VK)(c:XK):Prop
 |mk(a g:η)(b:Bd)(f:List V)(d:List ρ)(M:ρ->Prop)(h:List ρ)(_:e=[.ref a,.ref g])(_:H a=δ (.tup f))(_:dJ H b f)(_:NU H g d M h)(_:b.Ok h)(_:b.dep < n)(_:b.size<=10000000)(_:∀(r:η) (zs:List ρ) (H':Hp),H r=θ->NL H' r zs (b.use M) h->aa H H'->Q (.ref r) H')
theorem Nm.empty:Nm [] (λ_=>False):=#[RX,Z,λx=>#[λh=>absurd h Ny,False.elim]]
theorem Cu:ai ["statement","behind","word"] z3z (ae wB):=bN
noncomputable def wT:ir:=#[.function,[(".0",.local),("name",.local),("statement",.free)],ξ,ξ,[]]
theorem Hi:(["name","statement"]:List ρ).Nodup:=by decide+kernel
theorem Go:be ["statement","behind","word"] (ae wB) wT ["name","statement"] 1 [0]:=oR
theorem vo{L n:Nat}(F:tf K "used_behind_terms" wB f fd)(J:Cl P w K mg base L fA f0 z15z (iX n) "used_ahead"):ah P w K mg base aE (L+1) f fd z3z (xh n):=by
 refine F.ok Cu λc0 A O s H vs Q E R h=>?_
 let⟨v,g,st,G,M,Y,rfl,hs,c,W,hd,hz,q⟩:=h;refine#[_,(jd (jB 2 Cu.nd$ jv$ pv 0)$ jd (jy (jz zu (pv 2) (jl$ ja jw$ ja jw$ ja jw jc) Z) (jg$ jm$ @zK _ _ _ _ _ _ _ (["name","statement"]) (1) ([0]) _ _ _ _ Z (zc$ pv 1) Go (λ_ _ _ _ _=>(jr (i:=0) Hi Z$ ω Z)) (λ_ _ _ _ _=>(@JC _ _ _$ jz Xs (pv 0) (ju (r:=cw K) jF (pv 1) jf (λ_ _=>Z))$ aF _)) (λ_ _ _ _ _=>(pv 0)) (by intro _;rfl)) jo)$ jd (jy (jW$ pv 2) (jg$ jm$ jx qN (J.e R.m$ ja (jv$ pv 0)$ ja (pv 1) jc)$ J.e R.m$ ja (jv$ pv 0)$ ja (pv 1) jc) jo)$ jd (jy (jW$ pv 2) (jg$ jm$ jx qN (J.e R.m$ ja (jv$ pv 0)$ ja (jK jc) jc)$ pv 1) jo)$ jd (jy (jW$ pv 2) (jg$ jm$ jK jc) jo)$ jg$ jm$ pv 1),?_];let g0:=c.len;cases hs with
 |lf p l vs d B=>
  cases l with
  |rd x t T |st x t T=>
   let⟨rfl,X⟩:=B;refine(jp d Z #[_,Z,ie,λl N=>#[l,_,Z,.inr$ aB.of jb,Z,Z,_,Z,cn VX ?_]]);let S:aa H (af H l$ .tup [.str "set",.str "read",.str "call"]):=je N;refine#[_,Z,g,Z,#[_,aI.of$ S _ _ c.at'],KM (λy=>!decide (ry y=ry x)) VV (S _ _ c.at') (λy I Q' hy k C=>?_) (λy I Q' hy C=>#[_,Z,C]) λH' k r j=>?_]
   .exact#[_,Z,jp (k _ _$ S _ _ d) Z #[Z,_,Z,C _$ aa.refl _]]
   .refine q r _ _ jb (λy=>?_) (Ng (PL ..) VV) ((S.trans k).trans$ je j);rw[UG,c.nm.mem y];exact and_congr_right λ_=>by simp
  |wr t u T U=>let⟨rfl,X,hU⟩:=B;refine(jp d Z #[_,Z,ie,λl N=>#[l,_,Z,.inr$ aB.of jb,Z,Z,_,Z,aT VX ?_]]);refine#[_,Z,Z,_,Z,aT VX ?_];refine#[_,Z,Z,_,Z,aT VX ?_];refine#[_,Z,Z,_,Z,aT VX ?_];exact#[_,Z,q g G _ (am c.at' N) c.nm.mem VV$ je N]
  |cl x f' q' ts=>
   let⟨rfl,h8,X⟩:=B;refine(jp d Z #[_,Z,ie,λl N=>#[l,_,Z,.inr$ aB.of jb,Z,Z,_,Z,cn VX ?_]]);let S:aa H (af H l$ .tup [.str "set",.str "read",.str "call"]):=je N;refine#[_,Z,g,Z,#[_,aI.of$ S _ _ c.at'],KM (λy=>!decide (ry y=ry x)) VV (S _ _ c.at') (λy I Q' hy k C=>?_) (λy I Q' hy C=>#[_,Z,C]) λH' k r j=>?_]
   .exact#[_,Z,jp (k _ _$ S _ _ d) Z #[Z,_,Z,C _$ aa.refl _]]
   .refine q r _ _ jb (λy=>?_) (Ng (PL ..) VV) ((S.trans k).trans$ je j);rw[UG,c.nm.mem y];exact and_congr_right λ_=>by simp
  |gv t T=>let⟨rfl,X⟩:=B;refine(jp d Z #[_,Z,ie,λl N=>#[l,_,Z,.inr$ aB.of jb,Z,Z,_,Z,aT VX ?_]]);refine#[_,Z,Z,_,Z,aT VX ?_];refine#[_,Z,Z,_,Z,aT VX ?_];refine#[_,Z,Z,_,Z,cn VX ?_];exact#[fj,λr j=>q r [] _ jb (λy=>#[λh=>absurd h Ny,λh=>(show False from h).elim]) (M6 _) ((je N).trans$ je j)]
 |ite p t T a b qa qb as bs d h0 B h3 h4 h5=>refine(jp d Z #[_,Z,ie,λl N=>#[l,_,Z,.inr$ aB.of jb,Z,Z,_,Z,aT VX ?_]]);refine#[_,Z,Z,_,Z,cn VX ?_];let S:aa H (af H l$ .tup [.str "set",.str "read",.str "call"]):=je N;let h6:max (max a.dep b.dep+1) 0 < n+1:=hd;let h7:a.size+b.size+0+1<=10000000:=hz;refine(jp (S _ _ d) Z #[_,Z,qa,g,a,as,G,M,Y,Z,S _ _ B,h4.mono$ aa.tm S,(c.same S).nu,W.2.1,VV,VV,λr1 z1 I _ D k1=>?_]);let z:=S.trans k1;refine(jp (z _ _ d) Z #[_,Z,qb,g,b,bs,G,M,Y,Z,z _ _ h3,h5.mono$ aa.tm z,(c.same z).nu,W.2.2.1,VV,VV,λr2 z2 H2 _ n2 k2=>?_]);let l1:=D.len;let l2:=n2.len;let b0:=zE;refine#[r1,r2,_,_,Z,Z,k2 _ _ D.at',n2.at',by rw[MY,MY];omega,λr j=>q r (z1++z2) _ (by rw[jb,Nl]) (λy=>?_) (by rw[MZ];omega) ((z.trans k2).trans$ je j)];rw[OP,D.nm.mem y,n2.nm.mem y];exact Sn
 |loop p t T a qa as d h0 B h3=>refine(jp d Z #[_,Z,ie,λl N=>#[l,_,Z,.inr$ aB.of jb,Z,Z,_,Z,aT VX ?_]]);refine#[_,Z,Z,_,Z,aT VX ?_];refine#[_,Z,Z,_,Z,cn VX ?_];let S:aa H (af H l$ .tup [.str "set",.str "read",.str "call"]):=je N;let h6:max (a.dep+1) 0 < n+1:=hd;let h7:a.size+0+1<=10000000:=hz;refine(jp (S _ _ d) Z #[fj,λe ne=>?_]);let z:=S.trans (je (o:=.lst []) ne);refine#[qa,e,a,as,[],λ_=>False,Y,Z,z _ _ B,h3.mono$ aa.tm z,(NL.nu #[jb,Nm.empty,λ_ w=>w.elim,c.y20]),W.2.1,VV,VV,λr1 z1 I _ D k1=>?_];let l1:=D.len;let s3:=z.trans k1;let b0:=zE;refine#[_,Z,r1,g,_,_,Z,Z,D.at',s3 _ _ c.at',by rw[MY,MY];omega,λr j=>q r (z1++G) _ (by rw[jb,Nl]) (λy=>?_) (by rw[MZ];omega) (s3.trans$ je j)];rw[OP,D.nm.mem y,c.nm.mem y];exact Sn
theorem Ej(h:ik H v s):∀c∈s.own,bn H c.2 c.1:=by
 cases h with
 |lf p l V _ d=>
  cases l with
  |rd x t T |st x t T |gv t T=>intro c hc;rw[υ.mp hc];exact d.2
  |wr t u T U=>
   intro c hc;rcases Φ.mp hc with e |hc
   .rw[e];exact d.2.1
   .rw[υ.mp hc];exact d.2.2
  |cl x f q i=>exact d.2.2
 |ite p t T a b Q j A B _ g _ _ _ _ |loop p t T a Q A _ g _ _=>intro c hc;rw[υ.mp hc];exact g
theorem Ek(h:ik H v s)(o:s.Ok y):s.own.length<=100/\∀c∈s.own,dE y c.2:=by
 let one:∀(t:η) (T:Tm),dE y T->[(t,T)].length<=100/\∀c∈[(t,T)],dE y c.2:=λt T h=>#[by show 1<=100;omega,λc hc=>by rw[υ.mp hc];exact h];cases h with
 |lf p l V _ g=>
  cases l with
  |rd x t T |st x t T=>exact one t T o.1.2
  |wr t u T U=>
   refine#[by show 2<=100;omega,λc hc=>?_];rcases Φ.mp hc with e |hc
   .rw[e];exact o.1.1
   .rw[υ.mp hc];exact o.1.2
  |cl x f q i=>exact#[Ng o.1.2.1 VU,o.1.2.2]
  |gv t T=>exact one t T o.1
 |ite p t T a b Q j A B _ d _ _ _ _ |loop p t T a Q A _ d _ _=>exact one t T o.1
theorem app_assoc:∀(a b c:Bd),(a.app b).app c=a.app (b.app c)
 | .nil,_,_=>rfl
 | .lf p l r,b,c=>by show Bd.lf p l ((r.app b).app c)=_;rw[app_assoc r b c];rfl
 | .ite p t T x y r,b,c=>by show Bd.ite p t T x y ((r.app b).app c)=_;rw[app_assoc r b c];rfl
 | .loop p t T x r,b,c=>by show Bd.loop p t T x ((r.app b).app c)=_;rw[app_assoc r b c];rfl
theorem app_nil:∀(a:Bd),a.app .nil=a
 | .nil=>rfl
 | .lf p l r=>by show Bd.lf p l (r.app .nil)=_;rw[app_nil r]
 | .ite p t T x y r=>by show Bd.ite p t T x y (r.app .nil)=_;rw[app_nil r]
 | .loop p t T x r=>by show Bd.loop p t T x (r.app .nil)=_;rw[app_nil r]
inductive OI(v:V)(g r k:η)(s:Bd)(M:ρ->Prop)(b:Hp)(i:Nat)(n:_L.St)(a:Hp):Prop
 |mk(l:Option V)(m:List ρ)(d:n=[δ v,↑g,↑k,l])(e:a k=δ (.lst (m.map ry)))(f:∀y,y∈m↔s.bt M y∨∃c∈s.own.take i,y∈c.2.vars)(h:m.length<=50+21*i)(j:aH k b a)
theorem wQ:ai ["statement","behind","names","term"] z3z (ae A0):=bN
theorem vp{L:Nat}(F:tf K "used_ahead_of" A0 f fd)(cB:Cl P w K mg base (L+9) fB f0 z3z (xh n) "used_behind_terms")(cO:Cl P w K mg base 1 fO f2 z5z nO "own_terms")(cN:Cl P w K mg base 7 fN f3 z0z (dC 6) "names_in")(m0:mg "list"=θ)(m2:mg "set"=θ)(m3:mg "sorted"=θ):ah P w K mg base aE (L+10) f fd z3z (gM n):=by
 refine F.ok wQ λc0 A o1 s H vs Q E t h=>?_
 let⟨v,g,st,ss,M,Y,rfl,j,u,U,hd,hz,q⟩:=h;refine#[_,(jd (jB 2 wQ.nd$ jJ Js Z m0 Vb$ ja (cB.e t.m$ ja (pv 0)$ ja (pv 1) jc) jc)$ jd (jU Nu Z (qp$ cO.e t.m$ ja (pv 0) jc) (jr (i:=3) wQ.nd Z$ ω Z)$ jg$ jH$ j8 M' Oi Oh zw (pv 2)$ ja (cN.e t.m$ ja (pv 3) jc) jc)$ jg$ jm$ jN (ql Z) Z m3 Sd$ ja (jJ (qU Z) Z m2 VN$ ja (pv 2) jc) jc),?_];refine aj λF1 C=>#[_,Z,_,Z,v,g,st,ss,M,Y,Z,j,u,U,hd,hz,λr1 G H1 e1 m1 l1 k1=>#[r1,_,Z,.inl$ aI.of e1,λN I=>C _ _ ?_]];clear C;let s2:aa H (af H1 N$ .lst$ G.map ry):=k1.trans (je I);let J:=j.mono (aa.tm s2);let⟨o2,O⟩:=Ek j U;let a:af H1 N (.lst$ G.map ry) N=δ (.lst$ G.map ry):=jb;let h0:H N=θ:=k1.free I;generalize af H1 N (.lst$ G.map ry)=H2 at s2 J a;refine aj λF1 C=>?_;refine dj λF kF=>#[_,Z,v,st,Z,J,λr H3 t W=>#[r,Z,#[_,aB.of t],kF _ _ ?_]];clear kF;let r0:r≠N:=jP t (W _ _ a) (by intro z;cases z);let s3:=s2.trans W;let b0:=zE;refine Kx (K:=K) (xs:=st.own.map rT) (OI v g r N st M H3) #[_,G,Z,W _ _ a,λy=>?_,VV,aH.refl] (λi σ H' hi h=>?_) ?_ (λσ H' h=>C _ _ ?_)
 .rw[m1 y];exact#[.inl,λz=>z.elim (λw=>w) λ#[c,p,_]=>absurd p Ny]
 .let⟨_,_,_,_,_,_,k⟩:=h;exact aB.of$ k _ _ r0 t
 .clear C;intro E _ i x σ H4 B fE Gq D h;let⟨o3,X,rfl,h1,R,h3,k4⟩:=h;rw[Ni]at B;cases p:st.own[i]? with
  |none=>rw[p]at B;cases B
  |some c=>
   rw[p]at B;cases B;refine D ?_;clear D;let cm:=Nc p;let hi:i < st.own.length:=by
    rcases RN i st.own.length with z |z
    .exact z
    .rw[Ob z]at p;cases p
   let tm:ax H3 H4:=λb xs e=>k4 b _ (jP e (W _ _ a) (by intro z;cases z)) e;show xx _ E [δ v,↑g,↑N,δ$ .ref c.1] H4;refine#[_,Z,.inl #[Z,_,aI.of h1],_,Z,c.1,c.2,Y,Z,((Ej j c cm).mono$ aa.tm s3).mono tm,(O c cm).2,(O c cm).1,u.y20,λr5 s5 H5 n5 e5 d5 m5 o5 k5=>?_];let l5:s5.length<=21:=Ng (kh d5 λx B=>kI (O c cm).1 x ((m5 x).mp B)) u.y20;refine#[N,r5,_,_,Z,Z,k5 _ _ h1,e5,by rw[MY,MY];omega,fE _ _ #[_,X++s5,Z,by rw[jb,Nl],λy=>?_,by rw[MZ];omega,λb o nb e=>?_]]
   .rw[OP,R y,m5 y,N0,p];refine#[λz=>z.elim (λz=>z.elim .inl λ#[d,hd,w]=>.inr #[d,On _ hd,w]) λw=>.inr #[c,Nk _$ υ.mpr Z,w],λz=>z.elim (λw=>.inl (.inl w)) λ#[d,hd,w]=>?_];rcases Ξ.mp hd with hd |hd
    .exact .inl$ .inr #[d,hd,w]
    .let ed:d=c:=υ.mp hd;rw[ed]at w;exact .inr w
   .rw[jh nb];exact k5 _ _$ k4 b o nb e
 .let⟨o3,X,rfl,h1,R,h3,k4⟩:=h;clear C;rw[MY]at R h3;let s4:aa H H':=λb o e=>k4 b o (ji e h0) (s3 _ _ e);refine#[_,Z,N,X,Z,aI.of h1,(λL nd j=>Ol (OZ$ kh nd j) (by show X.length+1 < 4096;omega)),λl L S h4 hm=>?_];let sub:∀y∈L,y∈Y:=λy hy=>Bd.use_in U u.sub y ((xO j M y).mpr (by let:=(R y).mp ((hm y).mp hy);rwa [NJ]at this));let lL:=Ng (kh h4 sub) u.y20;refine#[l,L,Z,jb,VV,λr' s0 T pm nd so=>?_];refine q r' s0 _ ((s4.trans$ je S).free T) #[jb,#[pm.nodup_iff.mpr nd,so,λy=>?_],Bd.use_in U u.sub,u.y20] ((s4.trans$ je S).trans$ je T);rw[pm.mem_iff,hm y,R y,xO j M y,NJ]
theorem none_of(s:aa H h)(n:h r=θ):H r=θ:=by
 cases z:H r with
 |none=>rfl
 |some o=>have:=s _ _ z;rw[n]at this;cases this
inductive UI(a g:η)(b:Bd)(p:List V)(M:ρ->Prop)(q:List ρ)(H:Hp)(i:Nat)(s:_L.St)(d:Hp):Prop
 |mk(m:η)(o:Option V)(c n:Bd)(r:List ρ)(e:s=[↑a,↑g,↑m,o])(f:b=c.app n)(h:dJ H c (p.take (p.length - i)))(j:NL d m r (n.use M) q)(k:aa H d)(l:H m=θ)
theorem pF:ai ["body","behind","names","statement"] z15z (ae AZ):=bN
theorem Ec{L:Nat}(F:tf K "used_ahead" AZ f fd)(cU:Cl P w K mg base (L+10) fU f0 z3z (gM n) "used_ahead_of")(J:mg "sorted"=θ)(N:mg "reversed"=θ):ah P w K mg base aE (L+11) f fd z15z (iX$ n+1):=by
 refine F.ok pF λc0 A O s H vs Q E hr h=>?_
 let⟨a,g,b,xs,R,M,Y,rfl,ha,hb,d,ho,hd,hz,q⟩:=h;refine#[_,(jd (jB 2 pF.nd$ jN Xk Z J Sd$ ja (pv 1) jc)$ jd (jU Nu Z (@vM _ _ _ _ _ _ _ Z N TW (pv 0) VU VU VY VY) (jr (i:=3) pF.nd Z$ ω Z)$ jg$ jB 2 pF.nd$ cU.e hr.m$ ja (pv 3)$ ja (pv 2) jc)$ jg$ jm$ pv 2),?_];let g0:R.length<=21:=Ng (kh d.nd λx o=>d.sub x ((d.mem x).mp o)) d.y20;let b0:=aJ;refine aj λF1 t=>#[_,Z,g,R,Z,aI.of d.at',VV,λl c nl pm so=>t _ _ ?_];clear t;let T:Nm c M:=#[pm.nodup_iff.mpr d.nd,so,λx=>pm.mem_iff.trans (d.mem x)];let U:aa H (af H l$ .lst$ c.map ry):=je nl;let u:NL (af H l$ .lst$ c.map ry) l c M Y:=#[jb,T,d.sub,d.y20];generalize af H l (.lst$ c.map ry)=H1 at U u;let xl:=hb.len;refine aj λF1 t=>?_;refine dj λF kF=>#[_,Z,a,xs,Z,aB.of$ U _ _ ha,kF _ _ ?_];clear kF;refine XH (K:=K) (xs:=xs) (UI a g b xs M Y H) #[l,_,b,.nil,c,Z,(app_nil b).symm,by rw[RM,NJ];exact hb,u,U,nl] (λi σ H' hi h=>?_) ?_ (λσ H' h=>t _ _ ?_)
 .let⟨_,_,_,_,_,_,_,_,_,k,_⟩:=h;exact aB.of$ k _ _ ha
 .clear t;intro E _ i x σ H2 o fE Gq p h;let⟨I,o3,pre,gf,W,rfl,j,y,X,B,n2⟩:=h;let hi:i < xs.length:=by
   rcases RN i xs.length with z |z
   .exact z
   .rw[Ob (by simpa using z)]at o;cases o
  rw[PM hi]at o;let et:xs.take (xs.length - i)=xs.take (xs.length - (i+1))++[x]:=by
   let C:xs.length - i=(xs.length - 1 - i)+1:=by omega
   let e2:xs.length - (i+1)=xs.length - 1 - i:=by omega
   rw[C,e2,N0,o];rfl
  rw[et]at y;rcases y.last with ⟨e,_⟩ | ⟨ws,v,D,S,C,e2,h4,h5⟩
  .exact absurd e VW
  let⟨ew,ev⟩:=Uu C Z;cases ev;subst e2;let h0:=zN (j▸ho);let G:=zN h0.1;let a1:b.dep=max (D.app S).dep gf.dep:=by rw[j,zp]
  let a2:(D.app S).dep=max D.dep S.dep:=zp ..;let h6:S.dep<=b.dep:=by rw[a1,a2];exact Ng (Pb ..)$ Pn ..
  clear a1 a2;let h7:S.size<=b.size:=by rw[j,jY,jY];omega
  refine p ?_;clear p;show fe _ _ E [↑a,↑g,↑I,δ x] H2;refine#[_,Z,_,Z,x,I,S,W,gf.use M,Y,Z,h5.mono$ aa.tm B,X,G.2,VV,VV,λr z H3 nr n3 k3=>fE _ _ #[r,_,D,S.app gf,z,Z,by rw[j,app_assoc],?_,by rw[J6];exact n3,B.trans k3,none_of B nr]];rw[ew];exact h4
 .let⟨I,o3,pre,gf,W,rfl,j,y,X,B,n2⟩:=h;rw[P8]at y;let ep:pre= .nil:=by
   rcases y.last with ⟨_,e⟩ | ⟨ws,v,D,S,C,_⟩
   .exact e
   .exact absurd C VW
  rw[ep]at j;refine#[_,Z,q I W H' n2 ?_ B];rw[j];exact X
theorem DI:ah P w K mg base aE k f e z15z (iX 0):=by
 let n:∀v H Q E,¬iX 0 v H Q E:=λv H Q E h=>by let⟨a,g,b,x,S,M,y,_,_,_,_,_,d,_⟩:=h;exact absurd d$ P2 _
 exact#[λv H Q E h=>absurd h (n v H Q E),λA o s H c u v Q E _ _ _ _ h=>absurd h (n v H Q E)]
theorem IB(F:tf K "used_ahead" AZ f e)(FB:tf K "used_behind_terms" wB r g)(d:tf K "used_ahead_of" A0 o b)
  (B:aC K e z15z []) (i:mg "used_ahead"=↑f) (j:aC K g z3z []) (k:mg "used_behind_terms"=↑r) (p:aC K b z3z []) (q:mg "used_ahead_of"=↑o) (C:Cl P w K mg base 1 u s z5z nO "own_terms") (l:Cl P w K mg base 7 v t z0z (dC 6) "names_in") (M:mg "list"=θ) (a:mg "set"=θ) (m:mg "sorted"=θ) (c:mg "reversed"=θ):
  ∀n:Nat,ah P w K mg base aE (3*n+8) f e z15z (iX n)/\ah P w K mg base aE (3*n+10) o b z3z (gM n)
 |0=>by let h:ah P w K mg base aE 8 f e z15z (iX 0):=DI;let H:=vo (L:=8) (n:=0) FB #[h,B,F.kp,i];exact#[h,vp (L:=0) d #[H,j,FB.kp,k] C l M a m]
 |n+1=>by
  let I:=(IB F FB d B i j k p q C l M a m c n).2;let h:=Ec (L:=3*n) F #[I,p,d.kp,q] m c;let E:3*n+11=3*(n+1)+8:=by omega
  rw[E]at h;let H:=vo (L:=3*(n+1)+8) (n:=n+1) FB #[h,B,F.kp,i];exact#[h,vp (L:=3*(n+1)) d #[H,j,FB.kp,k] C l M a m]
abbrev EE:cv:=bP 44
abbrev wm:cv:=bP 47
abbrev v9:cv:=bP 48
abbrev mv:cv:=bP 49
abbrev wq:cv:=bP 50
noncomputable def Lf.cut:Lf->Nat
 | .st _ _ _=>0
 | .gv _ _=>0
 |_=>1
noncomputable def Bd.cuts:Bd->Nat
 | .nil=>0
 | .lf _ l r=>l.cut+r.cuts
 | .ite _ _ _ a b r=>1+a.cuts+b.cuts+r.cuts
 | .loop _ _ _ a r=>1+a.cuts+r.cuts
noncomputable def Bd.inn:Bd->Bd
 | .ite _ _ _ a b _=>a.app b
 | .loop _ _ _ a _=>a
 |_=>.nil
theorem zS:∀(a b:Bd),(a.app b).cuts=a.cuts+b.cuts
 | .nil,b=>by show b.cuts=0+b.cuts;omega
 | .lf _ l r,b=>by let:=zS r b;show l.cut+(r.app b).cuts=l.cut+r.cuts+b.cuts;omega
 | .ite _ _ _ x y r,b=>by let:=zS r b;show 1+x.cuts+y.cuts+(r.app b).cuts=1+x.cuts+y.cuts+r.cuts+b.cuts;omega
 | .loop _ _ _ x r,b=>by let:=zS r b;show 1+x.cuts+(r.app b).cuts=1+x.cuts+r.cuts+b.cuts;omega
inductive nF(b:List V)(H:Hp)(Q:VK)(a:XK):Prop
 |mk(v:V)(s:Bd)(_:b=[v])(_:ik H v s)(_:s.size<=10000000)(_:∀(r:η) (xs:List V) (H':Hp),H' r=δ (.tup xs)->dJ H' s.inn xs->aa H H'->Q (.ref r) H')
inductive gY(d:List V)(H:Hp)(Q:VK)(c:XK):Prop
 |mk(a:η)(b:Bd)(e:List V)(_:d=[.ref a])(_:H a=δ (.tup e))(_:dJ H b e)(_:b.size<=10000000)(_:∀H',aa H H'->Q (.int (b.cuts:Int)) H')
theorem HS:ai z5z z5z (ae EE):=bN
theorem DQ(F:tf K "bodies_in" EE f y):ah P w K mg base aE 1 f y z5z nF:=by
 refine F.ok HS λC A o s H V Q E j h=>?_
 let⟨v,st,rfl,z,B,q⟩:=h;refine#[_,(jd (jy (jW$ jv$ pv 0) (jg$ jm$ jx ki (jv$ pv 0)$ jv$ pv 0) jo)$ jd (jy (jW$ jv$ pv 0) (jg$ jm$ jv$ pv 0) jo)$ jg$ jm$ jl jc),?_];let D:=aJ;cases z with
 |lf p l V c d=>
  cases l with
  |rd x t T |st x t T |wr t u T U |cl x f R S |gv t T=>let⟨rfl,_⟩:=d;refine(jp c Z #[Z,_,Z,aT VX ?_]);refine(jp c Z #[Z,_,Z,aT VX ?_]);exact#[fj,λr N=>q r [] _ jb Z (je N)]
 |ite p t T a b e G g I c J d i m n=>refine(jp c Z #[Z,_,Z,cn VX ?_]);let L:a.size+b.size+0+1<=10000000:=B;let W:=m.len;let X:=n.len;exact(jp c Z$ jp c Z #[e,G,g,I,Z,Z,d,i,VV,λr M j s=>q r _ M j ((n.mono$ aa.tm s).app$ m.mono$ aa.tm s) s])
 |loop p t T a e g c J d i=>refine(jp c Z #[Z,_,Z,aT VX ?_]);refine(jp c Z #[Z,_,Z,cn VX ?_]);exact(jp c Z$ q e g H d i$ aa.refl H)
theorem Bi(h:ik H v s):s.inn.size < s.size/\∃(p:η) (w:ρ) (r:List V),v= .ref p/\H p=δ (.tup (.str w::r))/\s.cuts=(if oX (.str w) [.str "set",.str "give"]=μ then 0 else 1)+s.inn.cuts:=by
 cases h with
 |lf p l i c d=>
  refine#[Nat.zero_lt_succ _,?_];cases l with
  |rd x t T |wr t u T U |cl x f Q j=>let⟨rfl,_⟩:=d;exact#[p,_,_,Z,c,by rw[Na VX];rfl]
  |st x t T |gv t T=>let⟨rfl,_⟩:=d;exact#[p,_,_,Z,c,by rw[M7 VX];rfl]
 |ite p t T a b q k A B c e d g m n=>refine#[by show(a.app b).size < a.size+b.size+0+1;rw[jY];omega,p,_,_,Z,c,?_];rw[Na VX];show 1+a.cuts+b.cuts+0=1+(a.app b).cuts;rw[zS];omega
 |loop p t T a q A c e d g=>refine#[by show a.size < a.size+0+1;omega,p,_,_,Z,c,?_];rw[Na VX];show 1+a.cuts+0=1+a.cuts;omega
theorem eQ:eU (v::y) 0=δ v:=jG (j:=0) Z
inductive MI(a n:η)(b:Bd)(H:Hp)(m:Nat)(p:_L.St)(c:Hp):Prop
 |mk(l:Option V)(W:Bd)(o:List V)(k:Nat)(d:m=W.size)(e:p=[↑a,δ (.int (k:Int)),↑n,l])(f:c n=δ (.lst o))(g:dJ c W o)(h:k+W.cuts=b.cuts)(i:W.size<=10000000)(j:aH n H c)
theorem iI:ai ["body","many","todo","statement"] ["body"] (ae wm):=bN
theorem Aj(F:tf K "many_cuts" wm f fd)(cB:Cl P w K mg base 1 fB f0 z5z nF "bodies_in")(m0:mg "list"=θ):ah P w K mg base aE 2 f fd ["body"] gY:=by
 refine F.ok iI λc0 A o1 s H vs Q E hr h=>?_
 let⟨a,b,xs,rfl,ha,hb,hz,q⟩:=h;refine#[_,(jd (jB 1 iI.nd jf)$ jd (jB 2 iI.nd$ jJ Js Z m0 Vb$ ja (pv 0) jc)$ jd (Ku Nu (@vQ _ _ _ (pv 2) (λ_=>Z))$ jd (jB 3 iI.nd$ Ep M' PySem.F.slot_list_pop PySem.F.type_list_pop Dw$ pv 2)$ jd (zb$ jy (jz Jr (jv$ pv 3) (jl$ ja jw$ ja jw jc) Z) (jg$ Eu (i:=1) iI.nd Z (ω Z) jf Dj) jo)$ jg$ jH$ j8 M' Oi Oh YX (pv 2)$ ja (cB.e hr.m$ ja (pv 3) jc) jc)$ jg$ jm$ pv 1),?_];let b0:=aJ;refine aj λU d=>d _ _ ?_;clear d;refine aj λU d=>#[_,Z,a,_,Z,.inr$ aB.of ha,λt C=>d _ _ ?_];clear d;let s0:aa H (af H t$ .lst xs):=je C;refine aj λU d=>?_;refine oO (MI a t b H) b.size #[_,b,xs,0,Z,Z,jb,hb.mono$ aa.tm s0,VV,hz,λc o N e=>s0 _ _ e] ?_;intro m σ D E _ fE F X Y Gq y h;let⟨o3,W,zs,k,rfl,rfl,x,h2,h3,h4,h5⟩:=h;refine y #[_,Z,!zs.isEmpty,.inl #[zs,aI.of x,Z],?_];clear y;rcases h2.last with ⟨e1,e2⟩ | ⟨g,v,B,n,e1,e2,g1,g2⟩
 .rw[e1];refine Y _$ d _ _ #[_,Z,?_];rw[e2]at h3;let e3:k=b.cuts:=by let:k+0=b.cuts:=h3;omega
  rw[e3];exact q _ λc o e=>h5 c o (ji e C) e
 .rw[e1];let ne:(!(g++[v]).isEmpty)=μ:=by cases g<;>rfl
  rw[ne];refine X _ ?_;clear Y X d;let h6:W.size=B.size+n.size:=by rw[e2,jY]
  let h7:W.cuts=B.cuts+n.cuts:=by rw[e2,zS]
  let⟨h8,p,w',r,rfl,hp,hc⟩:=Bi g2;rw[e1]at x;refine aj λU d=>#[_,Z,.inl #[Z,_,aI.of x],t,_,.ref p,Z,Z,x,VW,d _ _ ?_];clear d;rw[List.dropLast_concat];let T:ax D (af D t$ .lst g):=λc ys e=>by rw[jh$ jP e x (by intro z;cases z)];exact e
  let t2:af D t (.lst g) t=δ (.lst g):=jb;let u:=g1.mono T;let I:=g2.mono T;let J:=T _ _ hp;let k2:aH t H (af D t$ .lst g):=λc o N e=>by rw[jh N];exact h5 c o N e
  generalize af D t (.lst g)=H2 at t2 u I J k2;clear T x h2 h5 g1 g2 hp;let R:∀(j:Nat) (H3:Hp),aa H2 H3->j+B.cuts+n.inn.cuts=b.cuts->xx (Mt K "list" (iE K) (bK 2)$ ar (ff nF [] E0$ ar (bK 3) bh) bh) E [↑a,δ$ .int (j:Int),↑t,↑p] H3:=λj H3 L hk=>by
   let g0:=I.mono (aa.tm L);refine#[_,Z,.inl #[Z,_,aI.of$ L _ _ t2],_,Z,.ref p,n,Z,g0,VV,λr' ys H4 h0 hy s4=>?_];let S:=L.trans s4;let l1:=u.len;let l2:=hy.len;refine#[t,r',g,ys,Z,Z,S _ _ t2,aB.of h0,VV,fE (B.app n.inn).size _ _ (by rw[jY];omega) #[_,B.app n.inn,g++ys,j,Z,Z,jb,?_,by rw[zS];omega,by rw[jY];omega,λc o N e=>?_]]
   .let M:ax H4 (af H4 t$ .lst$ g++ys):=λc z0 e=>by rw[jh$ jP e (S _ _ t2) (by intro z;cases z)];exact e
    exact(hy.mono M).app ((u.mono$ aa.tm S).mono M)
   .rw[jh N];exact S _ _$ k2 c o N e
  refine aj λU d=>gA (λO H'=>∃j:Nat,O=[↑a,δ$ .int (j:Int),↑t,↑p]/\aa H2 H'/\j+B.cuts+n.inn.cuts=b.cuts) (λE2 _ fm=>?_) λO H' h=>?_
  .clear d fE;refine lH λG X Y=>(jp J eQ #[cp,λl nl=>#[l,_,Z,.inr$ aB.of jb,Z,Z,_,Z,?_]]);cases hv:oX (.str w') [.str "set",.str "give"] with
   |true=>rw[hv,M7 Z]at hc;exact Y _$ fm _ _ #[k,Z,je nl,VV]
   |false=>rw[hv,Na M8]at hc;refine X _ #[_,Z,_,_,Z,Z,fm _ _ #[k+1,?_,je nl,VV]];show [_,δ$ rz ((k:Int)+1),_,_]=[_,δ$ rz ((k+1:Nat):Int),_,_];rfl
  .let⟨j,rfl,L,hk⟩:=h;exact d _ _$ R j H' L hk
end _K
namespace _K
open PySem PySem.Spec PyProof.Rows _L
variable {P:ψ}{w:bU}{K:γ}{mg:ρ->Option ζ}{base:de}
inductive IG where
 |go (n:Int) |give (t:η)
structure Wy where
 sets:List (ρ×η)
 goal:IG
inductive Dd where
 |st (p:η) |ask (t:η)
structure Ct where
 M:ρ->Prop
 d:Dd
 ws:List Wy
structure Pc where
 M:ρ->Prop
 w:Wy
def aR(H:Hp):Tr->V->List V->Prop
 | .lf v,x,_=>x=v/\MF v=μ
 | .tp l,x,_=>l.isL=μ/\∃a X,x= .ref a/\H a=δ (.tup X)/\aR H l .non X
 | .nil,_,X=>X=[]
 | .cons h t,_,X=>h.isL=ξ/\t.isL=μ/\∃y Y,X=y::Y/\aR H h y []/\aR H t .non Y
theorem aR.mono(k:ax H d):∀{t:Tr} {x:V} {X:List V},aR H t x X->aR d t x X:=by
 intro t;induction t with
 |lf v |nil=>exactλh=>h
 |tp l f=>rintro x X ⟨h,a,Y,e,b,c⟩;exact#[h,a,Y,e,k _ _ b,f c]
 |cons h t i I=>rintro x X ⟨E,g,y,Y,e,b,c⟩;exact#[E,g,y,Y,e,i b,I c]
noncomputable def ay:List Tr->Tr
 | []=>.nil
 |t::T=>.cons t (ay T)
theorem QM:∀t:List Tr,(ay t).isL=μ
 | []=>rfl
 |_::_=>rfl
def aA(t:List Tr):Tr:=.tp (ay t)
noncomputable def aK(x:ρ):Tr:=.lf (.str x)
noncomputable def sj(a:η):Tr:=.lf (.ref a)
noncomputable def aq(n:Int):Tr:=.lf (.int n)
section
variable {H:Hp}
theorem jA:aR H (ay []) .non []:=rfl
theorem jk{t:Tr}(h:t.isL=ξ)(a:aR H t y [])(b:aR H (ay T) .non Y):aR H (ay (t::T)) .non (y::Y):=#[h,QM T,y,Y,Z,a,b]
theorem jC(h:H a=δ (.tup x))(b:aR H (ay t) .non x):aR H (aA t) (.ref a) []:=#[QM t,a,x,Z,h,b]
theorem jS:aR H (aK x) (.str x) []:=#[Z,Z]
theorem JD:aR H (sj a) (.ref a) []:=#[Z,Z]
theorem jT:aR H (aq n) (.int n) []:=#[Z,Z]
theorem J7(a:aR H (ay s) .non Y):∀{T:List Tr} {x:List V},aR H (ay T) .non x->aR H (ay$ T++s) .non (x++Y)
 | [],x,h=>by let e:x=[]:=h;rw[e];exact a
 |t::T,x,h=>by let⟨E,_,y,z,e,b,c⟩:=h;rw[e];exact jk E b (J7 a c)
theorem zi:∀{T:List Tr} {x:List V},aR H (ay T) .non x->x.length=T.length
 | [],x,h=>by let e:x=[]:=h;rw[e];rfl
 |t::T,x,h=>by let⟨_,_,y,z,e,_,a⟩:=h;rw[e,Nz,Nz,zi a]
theorem XO:∀(S:List ρ),aR H (ay$ S.map aK) .non (S.map ry)
 | []=>rfl
 |s::S=>jk Z jS (XO S)
theorem Zx:∀{T:List Tr} {x:List V},aR H (ay T) .non x->aR H (ay T.reverse) .non x.reverse
 | [],x,h=>by let e:x=[]:=h;rw[e];rfl
 |t::T,x,h=>by let⟨E,_,y,z,e,a,b⟩:=h;rw[e,Ri,Ri];exact J7 (jk E a jA)$ Zx b
theorem qP:∀{T:List Tr} {X:List V},aR H (ay T) .non X->∀(i:Nat) (x:V),X[i]?=δ x->∃t,T[i]?=δ t/\aR H t x []
 | [],X,h,i,x,a=>by let e:X=[]:=h;rw[e]at a;simp at a
 |t::T,X,h,0,x,a=>by let⟨_,_,y,z,e,b,c⟩:=h;rw[e]at a;cases a;exact#[t,Z,b]
 |t::T,X,h,i+1,x,a=>by let⟨_,_,y,z,e,b,c⟩:=h;rw[e]at a;simpa using qP c i x (by simpa using a)
end
noncomputable def setT(s:ρ×η):Tr:=aA [aK s.1,sj s.2]
noncomputable def yK:IG->Tr
 | .go n=>aA [aK "go",aq n]
 | .give t=>aA [aK "give",sj t]
noncomputable def ij(w:Wy):Tr:=aA [aA$ w.sets.map setT,yK w.goal]
noncomputable def IP:Dd->Tr
 | .st p=>sj p
 | .ask t=>aA [aK "ask",sj t]
def Gp(c:Ct):Tr:=aA [aA ((canon c.M).map aK),IP c.d,aA$ c.ws.map ij]
theorem De(g:IG):(yK g).isL=ξ:=by cases g<;>rfl
theorem Gv(d:Dd):(IP d).isL=ξ:=by cases d<;>rfl
def nY(H:Hp)(p:Pc)(v:V)(g:η)(y:List ρ):Prop:=∃(r:η) (s:List ρ) (W:V),v= .ref r/\H r=δ (.tup [.ref g,W])/\NL H g s p.M y/\aR H (ij p.w) W []
theorem nY.same(h:nY H p v g y)(s:aa H a):nY a p v g y:=by let⟨r,S,W,e,b,c,d⟩:=h;exact#[r,S,W,e,s _ _ b,c.same s,d.mono$ aa.tm s]
theorem nY.but(h:nY H p v g y)(k:aH f H c)(d:H f=δ (.lst C))(n:g≠f):nY c p v g y:=by let⟨r,s,W,e,i,a,j⟩:=h;let t:ax H c:=λb x e=>k b _ (jP e d (by intro z;cases z)) e;exact#[r,s,W,e,t _ _ i,#[k _ _ n a.at',a.nm,a.sub,a.y20],j.mono t]
noncomputable def Lf.isCut:Lf->Bool
 | .st _ _ _=>ξ
 | .gv _ _=>ξ
 |_=>μ
noncomputable def Bd.deed:Bd->Dd
 | .lf p _ _=>.st p
 | .ite _ t _ _ _ _=>.ask t
 | .loop _ t _ _ _=>.ask t
 | .nil=>.st 0
inductive iN(b:List V)(H:Hp)(Q:VK)(a:XK):Prop
 |mk(v:V)(s:Bd)(_:b=[v])(_:ik H v s)(_:∀(d:V) (H':Hp),aR H' (IP s.deed) d []->aa H H'->Q d H')
inductive gL(b:List V)(H:Hp)(Q:VK)(a:XK):Prop
 |mk(t:η)(T:Tm)(c:List ρ)(_:b=[.ref t])(_:bn H T t)(_:dE c T)(_:c.length<=21)(_:∀(v:V) (g:η) (H':Hp),nY H' #[λx=>x∈T.vars,#[[],.give t]] v g c->H g=θ->aa H H'->Q v H')
inductive pQ(K:γ)(c:List V)(H:Hp)(Q:VK)(b:XK):Prop
 |mk(a:η)(_:c=[.ref a])(_:aB K H a [.str "num",.int 0])(_:∀(r:η),H r=θ->Q (.ref r) (af H r (.lst [])))
inductive pR(K:γ)(b:List V)(H:Hp)(Q:VK)(a:XK):Prop
 |mk(t:η)(c:List ρ)(_:b=[.ref t])(_:aB K H t [.str "num",.int 0])(_:c.length<=21)(_:∀(v:V) (g:η) (H':Hp),nY H' #[λx=>x∈(Tm.num 0).vars,#[[],.give t]] v g c->H g=θ->aa H H'->Q v H')
open Classical in
def iK(x:ρ)(t:η)(p:Pc):Wy:=if p.M x then #[(x,t)::p.w.sets,p.w.goal] else p.w
inductive iU(d:List V)(H:Hp)(Q:VK)(a:XK):Prop
 |mk(v b:V)(p t:η)(x:ρ)(T:Tm)(c:Pc)(g:η)(e:List ρ)(_:d=[v,b])(_:ik H v (.lf p (.st x t T) .nil))(_:nY H c b g e)(_:x∈e)(_:dE e T)(_:c.w.sets.length<=10000000)(_:∀(v':V) (g':η) (H':Hp),nY H' #[(Lf.st x t T).use c.M,iK x t c] v' g' e->H g'=θ->aa H H'->Q v' H')
theorem ES:ai z5z z5z (ae v9):=bN
theorem Ac(F:tf K "deed_of" v9 f e):ah P w K mg base aE 1 f e z5z iN:=by
 refine F.ok ES λC A o s H V Q E z h=>?_
 let⟨v,st,rfl,g,q⟩:=h;refine#[_,(jd (jy (jz zu (jv$ pv 0) (jl$ ja jw$ ja jw jc) Z) (jg$ jm$ jl$ ja jw$ ja (jv$ pv 0) jc) jo)$ jg$ jm$ pv 0),?_];cases g with
 |lf p l V c d=>
  cases l with
  |rd x t T |st x t T |wr t u T U |cl x f B D |gv t T=>let⟨rfl,_⟩:=d;refine(jp c Z #[cp,λl n=>#[l,_,Z,.inr$ aB.of jb,Z,Z,_,Z,aT VX ?_]]);exact#[_,Z,q _ _ JD$ je n]
 |ite p t T a b i I j J c m d y L M |loop p t T a i j c m d y=>refine(jp c Z #[cp,λl n=>#[l,_,Z,.inr$ aB.of jb,Z,Z,_,Z,cn VX ?_]]);refine(jp (am c n) Z #[cp,λr N=>?_]);exact q _ _ (jC jb$ jk Z jS$ jk Z JD jA) ((je n).trans$ je N)
theorem D4{fN:η}{fdN:hG}(F:tf K "names_in" eZ f b)(c:Cl P w K mg base (n+1) f b z0z (dC n) "names_in")(m:mg "set"=θ)(M:mg "sorted"=θ):ah P w K mg base aE (n+2) f b z0z (pQ K):=by
 refine F.ok wM (λC A o s H v Q E d h=>?_)
 let⟨a,rfl,g,q⟩:=h;refine#[_,(jd (jy (jW$ jv$ pv 0) (jg$ jm$ jK jc) jo)$ jd (jy (jW$ jv$ pv 0) (jg$ jm$ jK$ ja (jv$ pv 0) jc) jo)$ jg$ jm$ jN (ql Z) Z M Sd$ ja (jJ (qU Z) Z m VN$ ja (jx qN (c.e d$ ja (jv$ pv 0) jc)$ c.e d$ ja (jv$ pv 0) jc) jc) jc),?_];refine#[_,Z,a,_,_,_,Z,Z,g,Z,Z,_,Z,cn VX ?_];exact#[fj,λr N=>q r N]
theorem pE:ai z0z z0z (ae mv):=bN
theorem vk(F:tf K "place_of_give" mv f d)(C:Cl P w K mg base 7 U i z0z (dC 6) "names_in"):ah P w K mg base aE 8 f d z0z gL:=by
 refine F.ok pE λj A o s H V Q E l h=>?_
 let⟨t,T,y,rfl,p,O,b,q⟩:=h;refine#[_,(jg$ jm$ jl$ ja (C.e l.m$ ja (pv 0) jc)$ ja (jl$ ja (jl jc)$ ja (jl$ ja jw$ ja (pv 0) jc) jc) jc),?_];refine#[_,Z,t,T,y,Z,p,O.2,O.1,b,λg v a z B D M G I=>?_];let J:NL a g v (λx=>x∈T.vars) y:=#[B,#[D,G,M],kI O.1,b];refine#[fj,λe L=>#[_,Z,cp,λu c=>#[cp,λx N=>#[cp,λr n=>?_]]]];let S:aa a (af (af (af (af a e$ .tup []) u$ .tup [.str "give",.ref t]) x$ .tup [.ref e,.ref u]) r$ .tup [.ref g,.ref x]):=(((je L).trans$ je c).trans$ je N).trans (je n);refine q _ g _ #[r,_,.ref x,Z,jb,J.same S,?_] z (I.trans S);exact jC (am jb n)$ jk Z (jC (am (am (am jb c) N) n) jA)$ jk Z (jC (am (am jb N) n)$ jk Z jS$ jk Z JD jA) jA
theorem D7(F:tf K "place_of_give" mv f j)(C:Cl P w K mg base 7 G l z0z (pQ K) "names_in"):ah P w K mg base aE 8 f j z0z (pR K):=by
 refine F.ok pE λp A o s H V Q E v h=>?_
 let⟨t,y,rfl,z,B,q⟩:=h;refine#[_,(jg$ jm$ jl$ ja (C.e v.m$ ja (pv 0) jc)$ ja (jl$ ja (jl jc)$ ja (jl$ ja jw$ ja (pv 0) jc) jc) jc),?_];refine#[_,Z,t,Z,z,λg a=>?_];let b:aa H (af H g$ .lst []):=je a;let c:NL (af H g$ .lst []) g [] (λx=>x∈(Tm.num 0).vars) y:=#[jb,#[RX,Z,λx=>Sn],λx h=>absurd h Ny,B];generalize af H g (.lst [])=d at b c;refine#[fj,λe D=>#[_,Z,cp,λu i=>#[cp,λx N=>#[cp,λr n=>?_]]]];let S:aa d (af (af (af (af d e$ .tup []) u$ .tup [.str "give",.ref t]) x$ .tup [.ref e,.ref u]) r$ .tup [.ref g,.ref x]):=(((je D).trans$ je i).trans$ je N).trans (je n);refine q _ g _ #[r,_,.ref x,Z,jb,c.same S,?_] a (b.trans S);exact jC (am jb n)$ jk Z (jC (am (am (am jb i) N) n) jA)$ jk Z (jC (am (am jb N) n)$ jk Z jS$ jk Z JD jA) jA
end _K
namespace _K
open PySem PySem.Spec PyProof.Rows _L
variable {P:ψ}{w:bU}{K:γ}{mg:ρ->Option ζ}{base:de}
theorem yL{Y:List ρ}:oX (.str x) (Y.map ry)=decide (x∈Y):=by
 by_cases h:x∈Y
 .rw[M9 h];unfold oX;rw[Uv];exact#[.str x,dN.mpr #[x,h,Z],by simp [nZ]]
 .rw[M5 h];unfold oX;rw[Um];intro z;rw[Uv]at z;let⟨v,a,e⟩:=z;let⟨y,H,rfl⟩:=dN.mp a;let E:x=y∨y=x:=by
   first
    |exact .inl (by simpa [nZ] using e)
    |exact .inr (by simpa [nZ] using e)
  rcases E with rfl |rfl
  .exact h H
  .exact h H
theorem Fp{H:Hp}{w:Wy}{v:V}(h:aR H (ij w) v []):∃(W s:η) (S:List V) (y:V),v= .ref W/\H W=δ (.tup [.ref s,y])/\H s=δ (.tup S)/\aR H (ay$ w.sets.map setT) .non S/\aR H (yK w.goal) y []:=by obtain⟨_,W,x,rfl,a,_,_,l,b,e,⟨_,s,S,c,d,f⟩,_,_,g,Y,E,i,j⟩:=h;let k:Y=[]:=j;rw[k]at E;rw[E]at e;rw[e,c]at a;exact#[W,s,S,g,Z,a,d,f,i]
theorem oI:ai ["statement","behind","way"] z3z (ae wq):=bN
theorem An(F:tf K "place_of_set" wq f fd)(cU:Cl P w K mg base 10 fU f0 z3z (gM 0) "used_ahead_of"):ah P w K mg base aE 11 f fd z3z iU:=by
 refine F.ok oI λc0 A O s H vs Q E hr h=>?_
 let⟨v,bv,p,t,x,T,C,g,Y,rfl,X,hp,hx,ok,hl,q⟩:=h;refine#[_,(jd (jB 2 oI.nd$ jv$ pv 1)$ jd (zb$ jy (jz zu (jv$ pv 0) (jv$ pv 1) Z) (jg$ jB 2 oI.nd$ jl$ ja (jx ki (jl$ ja (jM kc (pv 0) (jL jf) jV) jc)$ jv$ pv 2)$ ja (jv$ pv 2) jc) jo)$ jg$ jm$ jl$ ja (cU.e hr.m$ ja (pv 0)$ ja (jv$ pv 1) jc)$ ja (pv 2) jc),?_];let b0:=aJ;let⟨r,ss,wv,rfl,b,B,hW⟩:=hp;let h0:=X;cases X with
 |lf _ _ vs h1 h2=>
  let⟨rfl,hT⟩:=h2;let⟨wa,sa,sx,y,rfl,i,D,j,hy⟩:=Fp hW;refine aj λF1 d=>(jp b Z$ d _ _ ?_);clear d;let sl:=zi j;rw[MY]at sl;refine aj λF1 d=>gA (λl I=>∃W:V,l=[↑p,↑r,δ W]/\aR I (ij$ iK x t C) W []/\aa H I) (λE2 _ fm=>?_) λl I h=>?_
  .clear d;refine lH λG kT kF=>(jp h1 Z$ jp b Z #[g,_,Z,.inl$ aI.of B.at',Z,QJ _,_,Z,?_]);rw[yL];by_cases a:x∈ss
   .rw[M9 a];refine kT _ #[_,Z,_,Z,p,_,Z,h1,λs1 H1 J k1=>#[iZ,λu nu=>?_]];let L:=k1.trans (je (o:=.tup [.ref s1]) nu);refine(jp (L _ _ i) Z #[u,sa,_,_,Z,Z,jb,L _ _ D,by show 1+sx.length<=_;omega,λc H2 hc z=>?_]);let R:=L.trans z;refine(jp (R _ _ i) Z #[cp,λnw n=>fm _ _ #[.ref nw,Z,?_,R.trans$ je n]]);let tm:=aa.tm (R.trans$ je (o:=.tup [.ref c,y]) n);unfold iK;rw[M7 ((B.nm.mem x).mp a)];refine jC jb$ jk Z (jC (am hc n)$ jk Z ?_$ j.mono tm)$ jk (De _) (hy.mono tm) jA;exact jC (am (z _ _$ am J nu) n)$ jk Z jS$ jk Z JD jA
   .rw[M5 a];refine kF _$ fm _ _ #[_,Z,?_,aa.refl _];unfold iK;rw[Na λw=>a ((B.nm.mem x).mpr w)];exact hW
  .let⟨W,rfl,S,k⟩:=h;refine d _ _ ?_;clear d;refine#[_,Z,jp (k _ _ b) Z #[.ref p,g,.lf p (.st x t T) .nil,ss,C.M,Y,Z,h0.mono$ aa.tm k,B.same k,#[#[hx,ok],trivial],(by show 0 < 1;decide),(by show 0+1<=10000000;decide),λg' zs H3 n3 N3 z=>?_]];refine#[_,Z,cp,λr' N=>q _ g' _ #[r',zs,W,Z,jb,N3.same$ je N,S.mono$ aa.tm$ z.trans$ je N] (k.free n3) ((k.trans z).trans$ je N)]
noncomputable abbrev AQ:cv:=bp (bP 51) 1
noncomputable abbrev AY:cv:=bp (bP 51) 2
noncomputable abbrev AR:cv:=bp (bP 51) 3
noncomputable abbrev A1:cv:=bp (bP 51) 4
noncomputable abbrev wc:cv:=bp (bP 51) 0
def pL(m:Int)(p:η)(l:Lf)(q:Pc×List Ct):Pc×List Ct:=match l with
 | .gv t T=>(#[λx=>x∈T.vars,#[[],.give t]],q.2)
 | .st x t T=>(#[(Lf.st x t T).use q.1.M,iK x t q.1],q.2)
 | .rd x t T=>(#[(Lf.rd x t T).use q.1.M,#[[],.go (m - (q.2.length:Int) - 1)]],q.2++[#[(Lf.rd x t T).use q.1.M,.st p,[q.1.w]]])
 | .wr t u T U=>(#[(Lf.wr t u T U).use q.1.M,#[[],.go (m - (q.2.length:Int) - 1)]],q.2++[#[(Lf.wr t u T U).use q.1.M,.st p,[q.1.w]]])
 | .cl x f a b=>(#[(Lf.cl x f a b).use q.1.M,#[[],.go (m - (q.2.length:Int) - 1)]],q.2++[#[(Lf.cl x f a b).use q.1.M,.st p,[q.1.w]]])
def pB(m:Int):Bd->Pc->List Ct->Pc×List Ct
 | .nil,c,f=>(c,f)
 | .lf p l r,c,f=>pL m p l (pB m r c f)
 | .ite p t T a b r,c,f=>
  let q:=pB m r c f
  let o:=pB m b q.1 q.2
  let s:=pB m a q.1 o.2
  (#[(Bd.ite p t T a b .nil).use q.1.M,#[[],.go$ m - (q.2.length:Int) - ((Bd.ite p t T a b .nil).cuts:Int)]],s.2++[#[(Bd.ite p t T a b .nil).use q.1.M,.ask t,[s.1.w,o.1.w]]])
 | .loop p t T a r,c,f=>
  let q:=pB m r c f
  let d:Pc:=#[(Bd.loop p t T a .nil).use q.1.M,#[[],.go$ m - (q.2.length:Int) - ((Bd.loop p t T a .nil).cuts:Int)]]
  let s:=pB m a d q.2
  (d,s.2++[#[(Bd.loop p t T a .nil).use q.1.M,.ask t,[s.1.w,q.1.w]]])
theorem Kq(m:Int):∀(a b:Bd) (c:Pc) (f:List Ct),pB m (a.app b) c f=pB m a (pB m b c f).1 (pB m b c f).2
 | .nil,_,_,_=>rfl
 | .lf p l r,b,c,f=>by show pL m p l (pB m (r.app b) c f)=pL m p l (pB m r _ _);rw[Kq m r b c f]
 | .ite p t T x y r,b,c,f=>by let e:=Kq m r b c f;show pB m (.ite p t T x y$ r.app b) c f=_;unfold pB;rw[e]
 | .loop p t T x r,b,c,f=>by let e:=Kq m r b c f;show pB m (.loop p t T x$ r.app b) c f=_;unfold pB;rw[e]
theorem kj(m:Int):∀(b:Bd) (c:Pc) (F:List Ct),(pB m b c F).2.length=F.length+b.cuts
 | .nil,_,_=>rfl
 | .lf p l r,c,F=>by
  let e:=kj m r c F;show(pL m p l$ pB m r c F).2.length=F.length+(l.cut+r.cuts);cases l with
  |rd x t T |wr t u T U |cl x f a d=>show((pB m r c F).2++[_]).length=F.length+(1+r.cuts);rw[MZ,e];show _+1=_;omega
  |st x t T |gv t T=>show(pB m r c F).2.length=F.length+(0+r.cuts);omega
 | .ite p t T x y r,c,F=>by let e:=kj m r c F;show((pB m x _ (pB m y _ _).2).2++[_]).length=_;rw[MZ,kj m x,kj m y,e];show _+1=F.length+(1+x.cuts+y.cuts+r.cuts);omega
 | .loop p t T x r,c,F=>by let e:=kj m r c F;show((pB m x _ _).2++[_]).length=_;rw[MZ,kj m x,e];show _+1=F.length+(1+x.cuts+r.cuts);omega
theorem XQ(x:ρ)(t:η)(p:Pc):(iK x t p).sets.length<=p.w.sets.length+1:=by
 unfold iK;split
 .exact M0 _
 .exact NW _
theorem Zy(m:Int):∀(b:Bd) (a:Pc) (f:List Ct),(pB m b a f).1.w.sets.length<=a.w.sets.length+b.size
 | .nil,_,_=>M0 _
 | .lf p l r,a,f=>by
  let e:=Zy m r a f;show(pL m p l$ pB m r a f).1.w.sets.length<=a.w.sets.length+(r.size+1);cases l with
  |st x t T=>have:=XQ x t (pB m r a f).1;show(iK x t (pB m r a f).1).sets.length<=_;omega
  |_=>exact M6 _
 | .ite p t T x y r,a,f=>M6 _
 | .loop p t T x r,a,f=>M6 _
theorem kW:∀b:Bd,b.cuts<=b.size
 | .nil=>M0 _
 | .lf _ l r=>by
  let:=kW r;let h:l.cut<=1:=by cases l<;>first |exact M0 _ |exact M6 _
  show l.cut+r.cuts<=r.size+1;omega
 | .ite _ _ _ a b r=>by let:=kW a;let:=kW b;let:=kW r;show 1+a.cuts+b.cuts+r.cuts<=a.size+b.size+r.size+1;omega
 | .loop _ _ _ a r=>by let:=kW a;let:=kW r;show 1+a.cuts+r.cuts<=a.size+r.size+1;omega
structure CK(K:γ)(C:η):Prop where
 cl:oQ K C
 nm:a7 K C "many"
 nf:a7 K C "found"
structure Cg(H:Hp)(C ia dx fa:η)(m:Int)(cts:List Ct)(cs:List V):Prop where
 ins:H ia=δ (.ins C dx [("many",.int m),("found",.ref fa)])
 fd:H fa=δ (.lst cs)
 tr:aR H (ay$ cts.map Gp) .non cs
theorem Cg.same(h:Cg H C i d f m c a)(s:aa H b):Cg b C i d f m c a:=#[s _ _ h.ins,s _ _ h.fd,h.tr.mono$ aa.tm s]
theorem Cg.len(h:Cg H C i d f m c a):a.length=c.length:=by rw[zi h.tr,MY]
theorem Cg.tm{H H':Hp}(h:Cg H C i d f m c a)(k:aH f H H'):ax H H':=λb x e=>k b _ (jP e h.fd (by intro z;cases z)) e
structure yf(H:Hp)(C ia dx fa:η)(m:Int)(cts:List Ct)(cs:List V)(pc:Pc)(bv:V)(g:η)(ys:List ρ)(b:Bd):Prop where
 c:Cg H C ia dx fa m cts cs
 p:nY H pc bv g ys
 ng:g≠fa
 ok:b.Ok ys
 sz:cts.length+pc.w.sets.length+b.size<=10000000
def sY(H:Hp)(C i d f:η)(m:Int)(y:List ρ)(q:Pc×List Ct)(Q:VK):Prop:=∀(v:V) (g:η) (c:List V) (h:Hp),nY h q.1 v g y->g≠f->Cg h C i d f m q.2 c->aH f H h->Q v h
inductive nP(C:η)(n:Nat)(l:List V)(H:Hp)(Q:VK)(c:XK):Prop
 |mk(j h i a g:η)(m:Int)(d:List Ct)(f o:List V)(k:Pc)(e:V)(p:List ρ)(b:Bd)(_:l=[.ref j,.ref a,e])(_:yf H C j h i m d f k e g p b)(_:H a=δ (.tup o))(_:dJ H b o)(_:b.dep < n)(_:sY H C j h i m p (pB m b k d) Q)
inductive Fb(C:η)(n:Nat)(j:List V)(H:Hp)(Q:VK)(a:XK):Prop
 |mk(h e f g:η)(m:Int)(b:List Ct)(d:List V)(i:Pc)(v c:V)(k:List ρ)(s:Bd)(_:j=[.ref h,v,c])(_:yf H C h e f m b d i c g k s)(_:ik H v s)(_:s.dep < n+1)(_:sY H C h e f m k (pB m s i b) Q)
noncomputable def Bd.isCut:Bd->Bool
 | .lf _ l _=>l.isCut
 | .nil=>ξ
 |_=>μ
inductive Bg(C:η)(n:Nat)(j:List V)(H:Hp)(Q:VK)(a:XK):Prop
 |mk(h e f g:η)(m:Int)(b:List Ct)(d:List V)(i:Pc)(v c:V)(k:List ρ)(s:Bd)(_:j=[.ref h,v,c])(_:yf H C h e f m b d i c g k s)(_:ik H v s)(_:s.dep < n+1)(_:s.isCut=μ)(_:sY H C h e f m k (pB m s i b) Q)
def hV(m:Int)(c:Pc)(p:Pc)(f:List Ct):Bd->List Wy×List Ct
 | .ite _ _ _ a b _=>([(pB m a p (pB m b p f).2).1.w,(pB m b p f).1.w],(pB m a p (pB m b p f).2).2)
 | .loop _ _ _ a _=>([(pB m a c f).1.w,p.w],(pB m a c f).2)
 |_=>([p.w],f)
inductive Fc(C:η)(n:Nat)(o:List V)(H:Hp)(Q:VK)(a:XK):Prop
 |mk(i e f g h:η)(m:Int)(b:List Ct)(d:List V)(j k:Pc)(v c l:V)(p:List ρ)(s:Bd)(_:o=[.ref i,v,l,c])(_:yf H C i e f m b d j c g p s)(_:nY H k l h p)(_:h≠f)(_:k.w.sets=[])(_:ik H v s)(_:s.dep < n+1)(_:∀(wv:V) (cs':List V) (H':Hp),aR H' (aA ((hV m k j b s).1.map ij)) wv []->Cg H' C i e f m (hV m k j b s).2 cs'->aH f H H'->Q wv H')
theorem Ym(h:ik H v s)(g:s.isCut=μ)(m:Int)(c:Pc)(F:List Ct):
  pB m s c F=(#[s.use c.M,#[[],.go$ m - (F.length:Int) - (s.cuts:Int)]],(hV m #[s.use c.M,#[[],.go$ m - (F.length:Int) - (s.cuts:Int)]] c F s).2++[#[s.use c.M,s.deed,(hV m #[s.use c.M,#[[],.go$ m - (F.length:Int) - (s.cuts:Int)]] c F s).1]]):=by
 cases h with
 |lf p l V d e=>
  cases l with
  |rd x t T |wr t u T U |cl x f a k=>rfl
  |st x t T |gv t T=>cases g
 |ite p t T a b q Q A B d i e j n o |loop p t T a q A d i e j=>rfl
theorem xR(h:nY H p v g y):∃(r:η) (W:V),v= .ref r/\H r=δ (.tup [.ref g,W])/\aR H (ij p.w) W []:=by let⟨r,s,W,e,a,c,b⟩:=h;exact#[r,W,e,a,b]
theorem HZ:ai ["self","statement","place","behind","other"] z21z (ae A1):=bN
theorem Hs(F:aQ K "ways_of" "Cutting.ways_of" A1 f fd)(X:CK K C)(GB:ah P w K mg base aE (4*n+31) fB f0 z12z (nP C n))(bB:aC K f0 z12z [])(hB:bj K C "place_of_body" fB):ah P w K mg base aE (4*n+32) f fd z21z (Fc C n):=by
 refine F.ok HZ λc3 A o1 s H vs Q E hr h=>?_
 let⟨i,D,R,g,g2,m,d,S,y,pl,v,bv,G,Y,st,rfl,I,h6,n0,h7,hs,hd,q⟩:=h;refine#[_,(jd (jy (jW$ jv$ pv 1) (jd (jB 4 HZ.nd$ j7 (pv 0) X.cl hB GB hr.m bB .nil a8$ ja (jv$ pv 1)$ ja (pv 3) jc)$ jg$ jm$ jl$ ja (ju jF (j7 (pv 0) X.cl hB GB hr.m bB .nil a8$ ja (jv$ pv 1)$ ja (pv 3) jc) jf (λ_ _=>Z))$ ja (jv$ pv 4) jc) jo)$ jd (jy (jW$ jv$ pv 1) (jg$ jm$ jl$ ja (ju jF (j7 (pv 0) X.cl hB GB hr.m bB .nil a8$ ja (jv$ pv 1)$ ja (pv 2) jc) jf (λ_ _=>Z))$ ja (jv$ pv 3) jc) jo)$ jg$ jm$ jl$ ja (jv$ pv 3) jc),?_];let b0:=aJ;let⟨br,bw,rfl,J,L⟩:=xR I.p;cases hs with
 |lf p l vs e M=>
  let f2:gg (cY$ ar (g9 (cw K) (bK 3)$ tC$ rz 1) bh) { nx:=λx H'=>Q V.non H',rt:=Q } [↑i,↑p,δ G,↑br,θ] H:=by refine(jp J Z #[iZ,λr N=>q (.ref r) S _ (jC jb$ jk Z (L.mono$ aa.tm$ je N) jA) (I.c.same$ je N) (aH.of_same$ je N)])
  cases l with
  |rd x t T |st x t T |wr t u T U |cl x f q2 ts |gv t T=>let⟨rfl,_⟩:=M;refine(jp e Z #[Z,_,Z,aT VX ?_]);refine(jp e Z #[Z,_,Z,aT VX ?_]);exact f2
 |ite p t T a b qa qb as bs e h0 M h3 h4 h5=>refine(jp e Z #[Z,_,Z,cn VX ?_]);let h8:max (max a.dep b.dep+1) 0 < n+1:=hd;let hz:d.length+y.w.sets.length+(a.size+b.size+0+1)<=10000000:=I.sz;let W:=I.ok;refine aj λF1 f1=>#[_,Z,i,D,_,Z,I.c.ins,Z,jp e Z #[_,Z,i,D,R,qb,g,m,d,S,bs,y,.ref br,Y,b,Z,#[I.c,I.p,I.ng,W.2.2.1,VV],h3,h5,VV,λv1 g1 j H1 p1 n1 O z=>f1 _ _ ?_]];clear f1;let B:=I.c.tm z;let lc:=kj m b y d;let cb:=kW b;refine#[_,Z,i,D,_,Z,O.ins,Z,jp (B _ _ e) Z #[_,Z,i,D,R,qa,g,m,_,j,as,y,.ref br,Y,a,Z,#[O,I.p.but z I.c.fd I.ng,I.ng,W.2.1,VV],B _ _ M,h4.mono B,VV,λv2 g2 c0 H2 p2 n2 c2 k2=>?_]];let⟨r2,w2,rfl,h',a0⟩:=xR p2;let⟨r1,w1,rfl,k,o⟩:=xR (p1.but k2 O.fd n1);refine#[r2,_,_,_,Z,Z,aB.of h',Z,jp k Z #[cp,λr N=>q (.ref r) c0 _ (jC jb$ jk Z (a0.mono$ aa.tm$ je N)$ jk Z (o.mono$ aa.tm$ je N) jA) (c2.same$ je N) ((z.trans k2).trans$ aH.of_same$ je N)]]
 |loop p t T a qa as e h0 M h3=>refine(jp e Z #[Z,_,Z,aT VX ?_]);refine(jp e Z #[Z,_,Z,cn VX ?_]);let h8:max (a.dep+1) 0 < n+1:=hd;let hz:d.length+y.w.sets.length+(a.size+0+1)<=10000000:=I.sz;let W:=I.ok;refine#[_,Z,i,D,_,Z,I.c.ins,Z,jp e Z #[_,Z,i,D,R,qa,g2,m,d,S,as,pl,G,Y,a,Z,#[I.c,h6,n0,W.2.1,by rw[h7];show d.length+0+a.size<=_;omega],M,h3,VV,λv1 g1 j H1 p1 n1 O z=>?_]];let⟨r1,w1,rfl,k,o⟩:=xR p1;let B:=I.c.tm z;refine#[r1,_,_,_,Z,Z,aB.of k,Z,jp (B _ _ J) Z #[cp,λr N=>q (.ref r) j _ (jC jb$ jk Z (o.mono$ aa.tm$ je N)$ jk Z ((L.mono B).mono$ aa.tm$ je N) jA) (O.same$ je N) (z.trans$ aH.of_same$ je N)]]
theorem wD:ai ["self","statement","behind","n","names","place","ways"] z8z (ae AR):=bN
theorem Ho(F:aQ K "place_of_cut" "Cutting.place_of_cut" AR f fd)(y:CK K C)(h7:n<=7)(GW:ah P w K mg base aE (4*n+32) fW f0 z21z (Fc C n))(bW:aC K f0 z21z [])(hW:bj K C "ways_of" fW)(cM:Cl P w K mg base 2 fM f2 ["body"] gY "many_cuts")(cU:Cl P w K mg base 31 fU f3 z3z (gM 7) "used_ahead_of")(cD:Cl P w K mg base 1 fD f4 z5z iN "deed_of")(ml:mg "len"=θ)(m0:mg "tuple"=θ):ah P w K mg base aE (4*n+33) f fd z8z (Bg C n):=by
 refine F.ok wD λc0 A o1 s H vs Q E Y h=>?_
 let⟨z,L,l,g,m,a,cs,j,v,bv,ys,st,rfl,I,B,hd,hc,q⟩:=h;refine#[_,(jd (jB 3 wD.nd$ jx kP (jx kP (j6 (pv 0) Z)$ jN jI Z ml NO$ ja (j6 (pv 0) Z) jc)$ cM.e Y.m$ ja (jl$ ja (pv 1) jc) jc)$ jd (jB 4 wD.nd$ cU.e Y.m$ ja (pv 1)$ ja (jv$ pv 2) jc)$ jd (jB 5 wD.nd$ jl$ ja (pv 4)$ ja (jl$ ja (jl jc)$ ja (jl$ ja jw$ ja (pv 3) jc) jc) jc)$ jd (jB 6 wD.nd$ j7 (pv 0) y.cl hW GW Y.m bW .nil a8$ ja (pv 1)$ ja (pv 5)$ ja (pv 2) jc)$ jd (jH$ j8 M' Nt Nr jR (j6 (pv 0) Z)$ ja (jl$ ja (jJ jO Z m0 OG$ ja (pv 4) jc)$ ja (cD.e Y.m$ ja (pv 1) jc)$ ja (pv 6) jc) jc)$ jg$ jm$ pv 5),?_];let b0:=aJ;let⟨br,ss,bw,rfl,h0,hN,h1⟩:=id I.p;let hz:=I.sz;let lc:=I.c.len;refine aj λF1 i=>#[_,Z,z,C,L,_,_,Z,I.c.ins,y.cl,y.nm,Z,_,Z,z,C,L,_,_,Z,I.c.ins,y.cl,y.nf,Z,l,_,Z,.inl$ aI.of I.c.fd,_,_,Z,Z,_,Z,iZ,λu nu=>?_];let s1:aa H (af H u$ .tup [v]):=je nu;refine#[u,st,_,Z,jb,(B.mono$ aa.tm s1).bd,VV,λH1 k1=>#[_,_,Z,Z,i _ _ ?_]];clear i;let S:=s1.trans k1;rw[lc];refine aj λF1 i=>#[_,Z,jp (S _ _ h0) Z #[v,g,st,ss,j.M,ys,Z,B.mono$ aa.tm S,hN.same S,I.ok,VV,VV,λG zs H2 n2 N2 k2=>i _ _ ?_]];clear i;let s3:=S.trans k2;let N:G≠l:=λe=>by rw[e,S _ _ I.c.fd]at n2;cases n2
 refine aj λF1 i=>#[_,Z,fj,λe ne=>#[_,Z,cp,λU O=>#[cp,λx nx=>#[cp,λr nr=>i _ _ ?_]]]];clear i;let s4:aa H2 (af (af (af (af H2 e$ .tup []) U$ .tup [.str "go",.int$ m - (a.length:Int) - (st.cuts:Int)]) x$ .tup [.ref e,.ref U]) r$ .tup [.ref G,.ref x]):=(((je ne).trans$ je O).trans$ je nx).trans (je nr);let P4:nY (af (af (af (af H2 e$ .tup []) U$ .tup [.str "go",.int$ m - (a.length:Int) - (st.cuts:Int)]) x$ .tup [.ref e,.ref U]) r$ .tup [.ref G,.ref x]) #[st.use j.M,#[[],.go$ m - (a.length:Int) - (st.cuts:Int)]] (.ref r) G ys:=
  #[r,zs,.ref x,Z,jb,N2.same s4,jC (am jb nr)$ jk Z (jC (am (am (am jb O) nx) nr) jA)$ jk Z (jC (am (am jb nx) nr)$ jk Z jS$ jk Z jT jA) jA]
 generalize af (af (af (af H2 e$ .tup []) U$ .tup [.str "go",.int$ m - (a.length:Int) - (st.cuts:Int)]) x$ .tup [.ref e,.ref U]) r (.tup [.ref G,.ref x])=H4 at s4 P4;let R:=s3.trans s4;let c5:=I.c.same R;refine aj λF1 i=>#[_,Z,z,L,_,Z,c5.ins,Z,_,Z,_,Z,_,Z,z,L,l,g,G,m,a,cs,j,_,v,.ref br,.ref r,ys,st,Z,#[c5,I.p.same R,I.ng,I.ok,I.sz],P4,N,Z,B.mono$ aa.tm R,hd,λwv D H6 w6 c6 k6=>i _ _ ?_];clear i;let t0:=c5.tm k6;let p6:=P4.but k6 c5.fd N;let z6:H6 G=δ (.lst$ zs.map ry):=k6 _ _ N (s4 _ _ N2.at');let ez:=N2.nm.canon;let l6:=c6.len;let lw:(hV m #[st.use j.M,#[[],.go$ m - (a.length:Int) - (st.cuts:Int)]] j a st).2.length+1=a.length+st.cuts:=by let:=kj m st j a;rw[Ym B hc m j a,MZ]at this;exact this
 let cl:=kW st;refine aj λF1 i=>#[_,Z,z,C,L,_,_,Z,c6.ins,y.cl,y.nf,Z,.inl #[Z,_,aI.of c6.fd],_,Z,G,_,Z,.inl #[aI.of z6,λnt n0=>?_]];let s7:aa H6 (af H6 nt$ .tup$ zs.map ry):=je n0;refine#[_,Z,v,st,Z,((B.mono$ aa.tm R).mono t0).mono$ aa.tm s7,λd H8 d8 k8=>#[_,Z,ie,λW J=>?_]];let X:=(s7.trans k8).trans (je (o:=.tup [.ref nt,d,wv]) J);let t:=c6.same X;refine#[l,D,_,Z,Z,t.fd,VV,i _ _ ?_];clear i;let T9:aR (af H8 W$ .tup [.ref nt,d,wv]) (Gp #[st.use j.M,st.deed,(hV m #[st.use j.M,#[[],.go$ m - (a.length:Int) - (st.cuts:Int)]] j a st).1]) (.ref W) []:=by refine jC jb$ jk Z (jC (am (k8 _ _ jb) J) ?_)$ jk (Gv _) (d8.mono$ aa.tm$ je J)$ jk Z (w6.mono$ aa.tm X) jA;rw[<- ez];exact XO zs
 let p9:=p6.same X;generalize af H8 W (.tup [.ref nt,d,wv])=H9 at X t T9 p9;let k:aH l H9 (af H9 l$ .lst$ D++[.ref W]):=λb o nb e=>by rw[jh nb];exact e
 let T:=t.tm k;let n1:z≠l:=λe=>by let:=t.ins;rw[e,t.fd]at this;cases this
 refine#[_,Z,q (.ref r) G (D++[.ref W]) _ ?_ N ?_ (λb o nb e=>k b o nb (X _ _$ k6 b o nb$ R _ _ e))]
 .rw[Ym B hc m j a];exact p9.but k t.fd N
 .rw[Ym B hc m j a];refine#[k _ _ n1 t.ins,jb,?_];rw[Nl];exact J7 (jk Z (T9.mono T) jA)$ t.tr.mono T
inductive BI(C u j s a:η)(m:Int)(c:List Ct)(x:Pc)(f:V)(z:List ρ)(b:Bd)(y:List V)(H:Hp)(i:Nat)(A:_L.St)(e:Hp):Prop
 |mk(d t:Bd)(v:V)(g:η)(h:List V)(w:Option V)(k:A=[↑u,↑a,δ f,δ v,w])(l:b=d.app t)(n:dJ H d (y.take (y.length - i)))(o:nY e (pB m t x c).1 v g z)(p:g≠s)(q:Cg e C u j s m (pB m t x c).2 h)(r:aH s H e)
theorem J8(m:Int):∀(b:Bd) (c:Pc) (F:List Ct),(pB m b c F).2.length+(pB m b c F).1.w.sets.length<=F.length+c.w.sets.length+b.size
 | .nil,_,_=>M0 _
 | .lf p l r,c,F=>by
  let e:=J8 m r c F;show(pL m p l$ pB m r c F).2.length+(pL m p l$ pB m r c F).1.w.sets.length<=F.length+c.w.sets.length+(r.size+1);cases l with
  |st x t T=>have:=XQ x t (pB m r c F).1;show(pB m r c F).2.length+(iK x t (pB m r c F).1).sets.length<=_;omega
  |gv t T=>show(pB m r c F).2.length+0<=_;omega
  |rd x t T |wr t u T U |cl x f a d=>show((pB m r c F).2++[_]).length+0<=_;rw[MZ];show _+1+0<=_;omega
 | .ite p t T x y r,c,F=>by let e:=J8 m r c F;let h:=kW x;let H:=kW y;show((pB m x _ (pB m y _ _).2).2++[_]).length+0<=F.length+c.w.sets.length+(x.size+y.size+r.size+1);rw[MZ,kj m x,kj m y];show _+1+0<=_;omega
 | .loop p t T x r,c,F=>by let e:=J8 m r c F;let h:=kW x;show((pB m x _ _).2++[_]).length+0<=F.length+c.w.sets.length+(x.size+r.size+1);rw[MZ,kj m x];show _+1+0<=_;omega
theorem LC:ai z8z z8z (ae AY):=bN
theorem Hr(F:aQ K "place_of" "Cutting.place_of" AY f fd)(ck:CK K C)(GC:ah P w K mg base aE (4*n+33) fC D z8z (Bg C n))(bC:aC K D z8z [])(hC:bj K C "place_of_cut" fC)(cG:Cl P w K mg base 8 fG f0 z0z gL "place_of_give")(cS:Cl P w K mg base 11 fS f1 z3z iU "place_of_set"):ah P w K mg base aE (4*n+34) f fd z8z (Fb C n):=by
 refine F.ok LC λc0 A O s H vs Q E G h=>?_
 let⟨r,J,fa,g,m,j,z,L,v,B,y,st,rfl,I,M,hd,q⟩:=h;refine#[_,(jd (jy (jW$ jv$ pv 1) (jg$ jm$ cG.e G.m$ ja (jv$ pv 1) jc) jo)$ jd (jy (jW$ jv$ pv 1) (jg$ jm$ cS.e G.m$ ja (pv 1)$ ja (pv 2) jc) jo)$ jg$ jm$ j7 (pv 0) ck.cl hC GC G.m bC .nil a8$ ja (pv 1)$ ja (pv 2) jc),?_];let hz:=I.sz;let R:=M;let i:st.isCut=μ->gg (xA C "place_of_cut" (Bg C n) [] E0 (bK 0)$ ar (bK 1)$ ar (bK 2) bh) { nx:=λx k=>Q V.non k,rt:=Q } [↑r,δ v,δ B] H:=λhc=>
  #[_,Z,r,J,_,Z,I.c.ins,Z,_,Z,_,Z,r,J,fa,g,m,j,z,L,v,B,y,st,Z,I,M,hd,hc,q]
 cases M with
 |lf p l vs d o=>
  cases l with
  |rd x t T |wr t u T U |cl x f q2 ts=>let⟨rfl,_⟩:=o;refine(jp d Z #[Z,_,Z,aT VX ?_]);refine(jp d Z #[Z,_,Z,aT VX ?_]);exact i Z
  |gv t T=>
   let⟨rfl,hT⟩:=o;refine(jp d Z #[Z,_,Z,cn VX ?_]);clear i;let Y:y.length<=21:=by let⟨_,_,_,_,_,hN,_⟩:=I.p;exact hN.y20
   exact(jp d Z #[t,T,y,Z,hT,I.ok.1,Y,λW X k p' N S=>q W X z k p' (λe=>by rw[e,I.c.fd]at N;cases N) (I.c.same S) (aH.of_same S)])
  |st x t T=>let⟨rfl,hT⟩:=o;refine(jp d Z #[Z,_,Z,aT VX ?_]);refine(jp d Z #[Z,_,Z,cn VX ?_]);clear i;exact#[_,Z,_,Z,.ref p,B,p,t,x,T,L,g,y,Z,R,I.p,I.ok.1.1,I.ok.1.2,VV,λW X k p' N S=>q W X z k p' (λe=>by rw[e,I.c.fd]at N;cases N) (I.c.same S) (aH.of_same S)]
 |ite p t T a b qa qb as bs d h0 o h3 h4 h5 |loop p t T a qa as d h0 o h3=>refine(jp d Z #[Z,_,Z,aT VX ?_]);refine(jp d Z #[Z,_,Z,aT VX ?_]);exact i Z
theorem A4:ai ["self","body","behind","place","statement"] z12z (ae AQ):=bN
theorem Hn(F:aQ K "place_of_body" "Cutting.place_of_body" AQ f fd)(ck:CK K C)(GO:ah P w K mg base aE (4*n+34) fO T z8z (Fb C n))(bO:aC K T z8z [])(hO:bj K C "place_of" fO)(R:mg "reversed"=θ):ah P w K mg base aE (4*n+35) f fd z12z (nP C$ n+1):=by
 refine F.ok A4 λc1 A U s H vs Q E hr h=>?_
 let⟨r,J,V,a,g,m,d,cs,xs,l,L,Y,b,rfl,I,ha,hb,hd,q⟩:=h;refine#[_,(jd (jB 3 A4.nd$ pv 2)$ jd (jU Nu Z (@vM _ _ _ _ _ _ _ Z R TW (pv 1) VU VU VY VY) (jr (i:=4) A4.nd Z$ ω Z)$ jg$ jB 3 A4.nd$ j7 (pv 0) ck.cl hO GO hr.m bO .nil a8$ ja (pv 4)$ ja (pv 3) jc)$ jg$ jm$ pv 3),?_];let b0:=aJ;let hz:=I.sz;let xl:=hb.len;refine aj λF1 u=>#[_,Z,u _ _ ?_];clear u;refine aj λF1 u=>?_;refine dj λF kF=>#[_,Z,a,xs,Z,aB.of ha,kF _ _ ?_];clear kF;refine XH (K:=K) (xs:=xs) (BI C r J V a m d l L Y b xs H) #[b,.nil,L,g,cs,_,Z,(app_nil b).symm,by rw[RM,NJ];exact hb,I.p,I.ng,I.c,aH.refl] (λi σ H' hi h=>?_) ?_ (λσ H' h=>u _ _ ?_)
 .let⟨_,_,_,_,_,_,_,_,_,_,_,_,k⟩:=h;exact aB.of$ I.c.tm k _ _ ha
 .clear u;intro E _ i x σ H2 M fE Gq t h;let⟨pre,gf,v,W,o,o4,rfl,j,y,X,h4,N,O⟩:=h;let hi:i < xs.length:=by
   rcases RN i xs.length with z |z
   .exact z
   .rw[Ob (by simpa using z)]at M;cases M
  rw[PM hi]at M;let et:xs.take (xs.length - i)=xs.take (xs.length - (i+1))++[x]:=by
   let D:xs.length - i=(xs.length - 1 - i)+1:=by omega
   let e2:xs.length - (i+1)=xs.length - 1 - i:=by omega
   rw[D,e2,N0,M];rfl
  rw[et]at y;rcases y.last with ⟨e,_⟩ | ⟨ws,v',B,S,D,e2,h6,h7⟩
  .exact absurd e VW
  let⟨ew,ev⟩:=Uu D Z;cases ev;subst e2;let h0:=zN (j▸I.ok);let G:=zN h0.1;let a1:b.dep=max (B.app S).dep gf.dep:=by rw[j,zp]
  let a2:(B.app S).dep=max B.dep S.dep:=zp ..;let h8:S.dep<=b.dep:=by rw[a1,a2];exact Ng (Pb ..)$ Pn ..
  clear a1 a2;let h':b.size=B.size+S.size+gf.size:=by rw[j,jY,jY]
  let hl:=kj m gf l d;let a0:=kW gf;let a3:=Zy m gf l d;let a4:(pB m gf l d).1.w.sets.length+(pB m gf l d).2.length+S.size<=10000000:=by let:=J8 m gf l d;omega
  refine t ?_;clear t;let tm:=I.c.tm O;show fe _ _ E [↑r,↑a,δ L,δ v,δ x] H2;refine#[_,Z,r,J,_,Z,N.ins,Z,_,Z,_,Z,r,J,V,W,m,_,o,_,x,v,Y,S,Z,#[N,X,h4,G.2,VV],h7.mono tm,VV,λv3 g3 c0 H3 p3 n3 c3 k3=>fE _ _ #[B,S.app gf,v3,g3,c0,_,Z,by rw[j,app_assoc],?_,by rw[Kq];exact p3,n3,by rw[Kq];exact c3,O.trans k3]];rw[ew];exact h6
 .let⟨pre,gf,v,W,o,o4,rfl,j,y,X,h4,N,O⟩:=h;rw[P8]at y;let ep:pre= .nil:=by
   rcases y.last with ⟨_,e⟩ | ⟨ws,v,B,S,D,_⟩
   .exact e
   .exact absurd D VW
  rw[ep]at j;refine#[_,Z,q v W o H' ?_ h4 ?_ O]
  .rw[j];exact X
  .rw[j];exact N
theorem Hl:ah P w K mg base aE k f i z12z (nP C 0):=by
 let n:∀v H Q E,¬nP C 0 v H Q E:=λv H Q E h=>by let⟨I,D,F,a,g,m,d,j,x,p,B,y,b,_,_,_,_,e,_⟩:=h;exact absurd e$ P2 _
 exact#[λv H Q E h=>absurd h (n v H Q E),λA o s H c u v Q E _ _ _ _ h=>absurd h (n v H Q E)]
theorem Mq(c:CK K C)(FB:aQ K "place_of_body" "Cutting.place_of_body" AQ g f)(F:aQ K "place_of" "Cutting.place_of" AY A a)(i:aQ K "place_of_cut" "Cutting.place_of_cut" AR D b)(j:aQ K "ways_of" "Cutting.ways_of" A1 E d)
  (B:aC K f z12z []) (H:bj K C "place_of_body" g) (k:aC K a z8z []) (l:bj K C "place_of" A) (o:aC K b z8z []) (p:bj K C "place_of_cut" D) (q:aC K d z21z []) (r:bj K C "ways_of" E)
  (s:Cl P w K mg base 2 T G ["body"] gY "many_cuts") (t:Cl P w K mg base 31 U I z3z (gM 7) "used_ahead_of") (u:Cl P w K mg base 1 Y J z5z iN "deed_of") (v:Cl P w K mg base 8 fG L z0z gL "place_of_give") (x:Cl P w K mg base 11 fS N z3z iU "place_of_set") (y:mg "len"=θ) (m:mg "tuple"=θ) (M:mg "reversed"=θ):
  ∀n:Nat,n<=8->ah P w K mg base aE (4*n+31) g f z12z (nP C n)
 |0,_=>Hl
 |n+1,h=>by
  let O:=Mq c FB F i j B H k l o p q r s t u v x y m M n VV;let Q:=Hs j c O B H;let R:=Ho i c VV Q q r s t u y m;let S:=Hr F c R o p v x;let z:=Hn FB c S k l M;let e:4*n+35=4*(n+1)+31:=by omega
  rw[e]at z;exact z
theorem Zz{X:Cx}{K:γ}{n:Nat}(a:X.K=K)(b:X.calm=μ)(h:FH X e t)
  (c:(assignEach e X.env).length=n) (H:(assignEach e X.env).findIdx? (·.1)=θ):PG X (.Tuple e k p) (uB K n t):=by
 subst a;exact zz b h c H
abbrev g3(K:γ)(i j k:Nat):TG:=uB K 3 (eL (bQ i)$ eL (bQ j)$ eL (bQ k) yH)
theorem Ls{t:_L.St}(h:t.length=3):∃a b c,t=[a,b,c]:=by
 cases t with
 |nil=>cases h
 |cons a r=>
  cases r with
  |nil=>cases h
  |cons b R=>
   cases R with
   |nil=>cases h
   |cons c d=>
    cases d with
    |nil=>exact#[a,b,c,Z]
    |cons _ _=>cases h
abbrev wn:cv:=bP 52
abbrev pi:cv:=bP 53
structure Df where
 f:ρ
 p:η
 pa:η
 pb:η
 b:Bd
def Bx(H:Hp)(d:Df)(v:V):Prop:=∃B,v= .ref d.p/\H d.p=δ (.tup [.str d.f,.ref d.pa,.ref d.pb])/\H d.pb=δ (.tup B)/\dJ H d.b B
def cQ(H:Hp):List Df->List V->Prop
 | [],a=>a=[]
 |d::D,a=>∃v r,a=v::r/\Bx H d v/\cQ H D r
theorem Bx.mono(k:ax H a)(h:Bx H d v):Bx a d v:=by let⟨b,e,c,f,g⟩:=h;exact#[b,e,k _ _ c,k _ _ f,g.mono k]
theorem cQ.mono(k:ax H b):∀{a:List V},cQ H D a->cQ b D a:=by
 induction D with
 |nil=>exactλh=>h
 |cons d D i=>rintro a ⟨v,r,e,c,f⟩;exact#[v,r,e,c.mono k,i f]
theorem cQ.snoc{d:Df}(a:Bx H d v):∀{D:List Df} {b:List V},cQ H D b->cQ H (D++[d]) (b++[v])
 | [],_,h=>by let e:_=[]:=h;rw[e];exact#[v,[],Z,a,Z]
 |_::_,_,z=>by let⟨u,r,e,c,f⟩:=z;exact #[u,r++[v],by rw[e];rfl,c,cQ.snoc a f]
theorem cQ.len:∀{d:List Df} {v:List V},cQ H d v->v.length=d.length
 | [],_,h=>by let e:_=[]:=h;rw[e];rfl
 |_::_,_,z=>by let⟨u,r,e,b,a⟩:=z;rw[e,Nz,Nz,cQ.len a]
theorem cQ.at:∀{D:List Df} {b:List V},cQ H D b->∀(i:Nat) (v:V),b[i]?=δ v->∃d,D[i]?=δ d/\Bx H d v
 | [],_,h,i,v,a=>by let e:_=[]:=h;rw[e]at a;simp at a
 |d::_,_,q,0,v,a=>by let⟨u,r,e,c,f⟩:=q;rw[e]at a;cases a;exact#[d,Z,c]
 |_::D,_,q,i+1,v,a=>by let⟨u,r,e,c,f⟩:=q;rw[e]at a;simpa using cQ.at f i v (by simpa using a)
def mX(d:Df):Prop:=(∃y:List ρ,y.length<=20/\d.b.Ok y)/\d.b.dep < 8/\d.b.size<=3000
noncomputable def Lw(n:η):Pc:=#[λx=>x∈(Tm.num 0).vars,#[[],.give n]]
def hZ(n:η)(d:Df):Pc×List Ct:=pB (d.b.cuts:Int) d.b (Lw n) []
def fz(n:η)(d:Df):Tr:=aA [aK d.f,sj d.pa,ij (hZ n d).1.w,aA ((hZ n d).2.reverse.map Gp)]
def oi(K:γ)(n:η):Prop:=∀H:Hp,aB K H n [.str "num",.int 0]
inductive pN(C:η)(f:List V)(H:Hp)(Q:VK)(c:XK):Prop
 |mk(e d a:η)(b:Bd)(g:List V)(_:f=[.ref e,.ref a])(_:H e=δ (.ins C d []))(_:H a=δ (.tup g))(_:dJ H b g)(_:b.size<=10000000)(_:∀(fa:η) (H':Hp),H fa=θ->Cg H' C e d fa (b.cuts:Int) [] []->aH e H H'->Q .non H')
inductive mK(K:γ)(c:η)(e:List V)(H:Hp)(Q:VK)(a:XK):Prop
 |mk(d:Df)(b:List V)(_:e=[.str d.f,.ref d.pa,.ref d.pb])(_:H d.pb=δ (.tup b))(_:dJ H d.b b)(_:mX d)(_:∀(v:V) (H':Hp),aR H' (fz c d) v []->aa H H'->Q v H')
inductive mH(K:γ)(e:η)(f:List V)(H:Hp)(Q:VK)(b:XK):Prop
 |mk(a:η)(c:List Df)(g:List V)(_:f=[.ref a])(_:H a=δ (.tup g))(_:cQ H c g)(_:c.length<=1000)(_:∀d∈c,mX d)(_:∀(v:V) (H':Hp),aR H' (aA (c.map (fz e))) v []->aa H H'->Q v H')
theorem rg{K:γ}{t:TE}{Q:List V->Hp->Prop}{H:Hp}(x:H a=δ (.tup g))(u:cQ H D g)(R:D.length<=1000)
  (Pv:Nat->List V->Hp->Prop) (z:Pv 0 [] H) (A:∀i Y h,Pv i Y h->aa H h/\Y.length<=i)
  (C:∀i d B Y h,D[i]?=δ d->h d.pb=δ (.tup B)->dJ h d.b B->Pv i Y h->t (δ (.str d.f)::δ (.ref d.pa)::δ (.ref d.pb)::l) h λy j=>Pv (i+1) (Y++[y]) j)
  (E:∀Y h,Pv D.length Y h->Q Y h):eJ (yg K a) 3 l (g3 K 0 1 2) mN t Q H:=by
 let F:=aJ;let S:=u.len;refine#[λi m Y h=>m=D.length - i/\i<=D.length/\Pv i Y h,#[D.length,VW,M6 _,z],?_];intro i m Y h c;let⟨rfl,T,p⟩:=c;let⟨s,U⟩:=A i Y h p;let c:aB K h a g:=aB.of (s _ _ x);by_cases n:i < D.length
 .let I:i < g.length:=by omega
  refine .inr #[#[g,g[i],c,MV I],VV,Pv$ i+1,λJ j L=>#[D.length - (i+1),VV,Z,n,L],λv j W o y=>?_];let⟨e,y⟩:=y;subst e;let q:=y g c;let⟨d,r,B,rfl,M,N,O⟩:=(u.mono$ aa.tm s).at i v q;let⟨X,t2,t3,rfl⟩:=Ls o;refine#[d.p,_,Z,aB.of M,Z,_,_,Z,_,_,Z,_,_,Z,Z,#[[δ _,δ _,δ _],Z,Z],?_];exact C i d B Y j r N O p
 .let e:i=D.length:=by omega
  subst e;exact .inl #[#[g,c,VV],E Y h p]
theorem HV:ai ["self","body"] ["self","body"] (ae wc):=bN
theorem DW(F:aQ K "__init__" "Cutting.__init__" wc f t)(d:CK K C)(u:Cl P w K mg base 2 M v ["body"] gY "many_cuts"):ah P w K mg base aE 3 f t ["self","body"] (pN C):=by
 refine F.ok HV λy A O s H V Q E B h=>?_
 let⟨i,D,a,b,x,rfl,G,I,J,L,q⟩:=h;refine#[_,(jd (@zB _ _ _ _ _ _ _ _ (pv 0) (u.e B.m$ ja (pv 1) jc) Z)$ jg$ @zB _ _ _ _ _ _ _ _ (pv 0) (jK jc) Z),?_];refine aj λS l=>#[_,Z,a,b,x,Z,I,J,L,λT k=>#[_,Z,i,C,D,_,Z,k _ _ G,d.cl,d.nm,VU,l _ _ ?_]];clear l;refine#[fj,λg n=>#[_,Z,i,C,D,_,Z,am jb n,d.cl,d.nf,(by show 1 < 1000;decide),?_]];let N:g≠i:=λe=>by rw[e,jb]at n;cases n
 let p:H g=θ:=by
  cases e:H g with
  |none=>rfl
  |some o=>rw[jh N,k _ _ e]at n;cases n
 refine q g _ p #[jb,by rw[jh N,jb],Z] λc o r e=>?_;rw[jh r,jh (λz=>by rw[z,p]at e;cases e),jh r];exact k _ _ e
theorem oH:ai ["name","params","body","cutting","first"] z18z (ae wn):=bN
theorem Al(F:tf K "part_made" wn f fd)(t:CK K C)(mk:Mk K C fI)(GI:ah P w K mg base aE 3 fI u ["self","body"] (pN C))(bI:aC K u ["self","body"] [])(mC:mg "Cutting"=↑C)(M:mg "NOUGHT"=↑n)(no:oi K n)(GB:ah P w K mg base aE 63 fB x z12z (nP C 8))(bB:aC K x z12z [])(hB:bj K C "place_of_body" fB)(cG:Cl P w K mg base 8 fG f0 z0z (pR K) "place_of_give")(y:mg "tuple"=θ)(z:mg "reversed"=θ):ah P w K mg base aE 64 f fd z18z (mK K n):=by
 refine F.ok oH λc0 A O s H vs Q E B h=>?_
 let⟨d,G,rfl,hb,a,I,q⟩:=h;refine#[_,(jd (jB 3 oH.nd$ Zo mk GI B.m Z mC bI .nil a8$ ja (pv 2) jc)$ jd (jB 4 oH.nd$ j7 (pv 3) t.cl hB GB B.m bB .nil a8$ ja (pv 2)$ ja (cG.e B.m$ ja (qY (v:=.ref n) Z M Z) jc) jc)$ jg$ jm$ jl$ ja (pv 0)$ ja (pv 1)$ ja (jv$ pv 4)$ ja (@si _ _ _ _ _ _ _ _ _ Z Z y OG Z z TW (j6 (pv 3) Z) VU VU VU VU VY VY VY VY) jc),?_];let b0:=aJ;obtain⟨⟨ys,y0,ok⟩,J,hz⟩:=I;refine aj λF1 j=>#[_,Z,λi D N L n0=>?_];let S:aa H (af (af H D$ .own i) i$ .ins C D []):=λc o e=>by rw[jh$ ji e N,jh$ ji e L];exact e
 refine#[i,D,d.pb,d.b,G,Z,jb,S _ _ hb,a.mono$ aa.tm S,VV,λp H1 nf R k1=>#[Z,j _ _ ?_]];clear j;let s1:aa H H1:=λc o e=>k1 c o (ji e N) (S _ _ e);let T:H p=θ:=S.free nf;refine aj λF1 j=>#[_,Z,i,D,_,Z,R.ins,Z,_,Z,n,ys,Z,no _,VV,λv g H2 p2 n2 k2=>?_];let ng:g≠p:=λe=>by rw[e,R.fd]at n2;cases n2
 let U:=s1.trans k2;refine#[i,D,p,d.pb,g,_,[],[],G,Lw n,v,ys,d.b,Z,#[R.same k2,p2,ng,ok,by show 0+0+d.b.size<=_;omega],U _ _ hb,a.mono$ aa.tm U,J,λv3 g3 k V p3 n3 W k3=>j _ _ ?_];clear j;let⟨r3,w3,rfl,X,Y⟩:=xR p3;let s3:aa H V:=λc o e=>k3 c o (ji e T) (U _ _ e);refine#[_,Z,_,Z,jp X Z #[_,Z,i,C,D,_,_,Z,W.ins,t.cl,t.nf,Z,p,k,Z,aI.of W.fd,λl nl=>#[pU,λr nr=>?_]]];let s5:aa V (af (af V l$ .tup k.reverse) r$ .tup [.str d.f,.ref d.pa,w3,.ref l]):=(je nl).trans (je nr);refine q (.ref r) _ ?_$ s3.trans s5;refine jC jb$ jk Z jS$ jk Z JD$ jk Z (Y.mono$ aa.tm s5)$ jk Z (jC (am jb nr) ?_) jA;let e:=Zx (W.tr.mono$ aa.tm s5);rw[<- List.map_reverse]at e;exact e
theorem EU:ai ["program"] ["program"] (ae pi):=bN
noncomputable def wS:ir:=#[.function,[(".0",.local),("name",.local),("params",.local),("body",.local),("part_made",.globalImplicit)],ξ,ξ,[]]
theorem uW:(z18z:List ρ).Nodup:=by decide+kernel
theorem Gn:be ["program"] (ae pi) wS z18z 3 []:=oR
theorem Ai(F:tf K "made" pi f p)(C:Cl P w K mg base 64 U t z18z (mK K N) "part_made")(M:mg "tuple"=θ):ah P w K mg base aE 65 f p ["program"] (mH K N):=by
 refine F.ok EU λu A o s H V Q E x h=>?_
 let⟨a,D,X,rfl,g,y,B,O,q⟩:=h;refine#[_,(jg$ jm$ jJ jO Z M OG$ ja (@zK _ _ _ _ _ _ _ (z18z) (3) ([]) _ _ _ _ Z (qp$ pv 0) Gn (λ_ _ _ _ _=>(Zz (K:=K) (n:=3) Z Z (jE (jr (i:=0) uW Z$ ω Z)$ jE (jr (i:=1) uW Z$ ω Z)$ jE (jr (i:=2) uW Z$ ω Z) kH) Z Z)) (λ_ _ _ _ _=>(@zZ _)) (λ_ _ _ _ _=>(C.e x.m$ ja (pv 0)$ ja (pv 1)$ ja (pv 2) jc)) (by intro _;rfl)) jc),?_];refine#[_,Z,a,Z,#[_,aB.of g],?_];refine rg g y B (λi V b=>aR b (ay ((D.take i).map$ fz N)) .non V/\aa H b/\i<=D.length) #[Z,aa.refl _,M6 _] (λi V b h=>#[h.2.1,?_]) (λi d G V b c I J h=>?_) (λV b h l L=>?_)
 .rw[zi h.1,MY,Nq];exact SM ..
 .let R:i < D.length:=by
   rcases RN i D.length with z |z
   .exact z
   .rw[Ob z]at c;cases c
  refine#[_,Z,_,Z,_,Z,d,G,Z,I,J,O d$ Nc c,λv Y T j=>#[?_,h.2.1.trans j,R]];rw[N0,c,Nl];exact J7 (jk Z T jA)$ h.1.mono$ aa.tm j
 .refine#[l,V,Z,.inl #[aI.of jb,λr S=>?_]];let s:aa b (af (af b l$ .lst V) r$ .tup V):=(je L).trans (je S);refine q (.ref r) _ (jC jb ?_)$ h.2.1.trans s;let e:=h.1;rw[NJ]at e;exact e.mono$ aa.tm s
abbrev wt:cv:=bP 63
abbrev wu:cv:=bP 64
abbrev ph:cv:=bP 65
def aM(p q:η)(H h:Hp):Prop:=∀b o,b≠p->b≠q->H b=δ o->h b=δ o
theorem aM.refl:aM p q H H:=λ_ _ _ _ h=>h
theorem aM.trans(a:aM p q H d)(b:aM p q d e):aM p q H e:=λc o n m h=>b c o n m (a c o n m h)
theorem aH.two(a:aH p H b):aM p q H b:=λc o n _ h=>a c o n h
theorem aM.of_same(a:aa H b):aM p q H b:=λc o _ _ h=>a c o h
theorem aM.at:aM p q H (af H q o):=λb u _ m e=>by rw[jh m];exact e
def dH(H:Hp)(q:η):Prop:=∃k:Int,H q=δ (.lst [.int k])
theorem dH.new{o:HO}(h:dH H q)(n:H r=θ):dH (af H r o) q:=let #[k,e]:=h;#[k,am e n]
theorem dH.ne(h:dH H q)(B:ap H p):q≠p:=by let⟨k,e⟩:=h;let⟨a,b,_,_,_,d⟩:=B.ob;exact jP e d (by intro z;cases z)
theorem dH.but(h:dH H q)(B:ap H p)(k:aH p H a):dH a q:=by let n:=h.ne B;let⟨z,e⟩:=h;exact#[z,k _ _ n e]
theorem aM.tm{p:η}{H H':Hp}(k:aM p q H H')(B:ap H p)(s:dH H q):ax H H':=λb x e=>by let⟨a,c,_,_,_,h⟩:=B.ob;let⟨z,f⟩:=s;exact k b _ (jP e h (by intro w;cases w)) (jP e f (by intro w;cases w)) e
noncomputable def gU(H:Hp)(q:η):Int:=match H q with
 |some (.lst [.int k])=>k
 |_=>0
theorem JE{H:Hp}(e:H q=δ (.lst [.int k])):gU H q=k:=by unfold gU;rw[e]
theorem Yn{h:Hp}(s:dH H q)(k:∀o,H q=δ o->h q=δ o):gU h q=gU H q:=by let⟨z,e⟩:=s;rw[JE e,JE$ k _ e]
theorem kK(B:ap H p)(s:dH H q)(k:aH p H h):gU h q=gU H q:=Yn s λo e=>k _ _ (s.ne B) e
theorem ky(s:dH H q)(k:aa H h):gU h q=gU H q:=Yn s λo e=>k _ _ e
def IH(H:Hp)(c:ρ×List ρ)(v:V):Prop:=∃p t,v= .ref p/\H p=δ (.tup [.str c.1,.ref t])/\H t=δ (.tup$ c.2.map ry)
def dW(H:Hp):List (ρ×List ρ)->List V->Prop
 | [],a=>a=[]
 |c::C,a=>∃v r,a=v::r/\IH H c v/\dW H C r
theorem dW.mono(k:ax H b):∀{c:List (ρ×List ρ)} {a:List V},dW H c a->dW b c a
 | [],_,h=>h
 |_::_,_,z=>by obtain⟨v,r,e,⟨p,t,E,d,f⟩,g⟩:=z;exact #[v,r,e,#[p,t,E,k _ _ d,k _ _ f],dW.mono k g]
theorem dW.snoc(a:IH H c v):∀{C:List (ρ×List ρ)} {b:List V},dW H C b->dW H (C++[c]) (b++[v])
 | [],_,h=>by let e:_=[]:=h;rw[e];exact#[v,[],Z,a,Z]
 |_::_,_,z=>by let⟨u,r,e,d,f⟩:=z;exact #[u,r++[v],by rw[e];rfl,d,dW.snoc a f]
theorem dW.len:∀{c:List (ρ×List ρ)} {v:List V},dW H c v->v.length=c.length
 | [],_,h=>by let e:_=[]:=h;rw[e];rfl
 |_::_,_,z=>by let⟨u,r,e,b,a⟩:=z;rw[e,Nz,Nz,dW.len a]
theorem dW.at:∀{C:List (ρ×List ρ)} {b:List V},dW H C b->∀(i:Nat) (v:V),b[i]?=δ v->∃c,C[i]?=δ c/\IH H c v
 | [],_,h,i,v,a=>by let e:_=[]:=h;rw[e]at a;simp at a
 |c::_,_,q,0,v,a=>by let⟨u,r,e,d,f⟩:=q;rw[e]at a;cases a;exact#[c,Z,d]
 |_::C,_,q,i+1,v,a=>by let⟨u,r,e,d,f⟩:=q;rw[e]at a;simpa using dW.at f i v (by simpa using a)
theorem EA(h:dW H C a)(i:0<=k)(j:k < (a.length:Int)):∃v c,eU a k=δ v/\c∈C/\IH H c v:=by
 let b:k.toNat < a.length:=by omega
 let d:k=((k.toNat:Nat):Int):=by omega
 let E:a[k.toNat]?=δ a[k.toNat]:=MV b;let e:eU a ((k.toNat:Nat):Int)=δ a[k.toNat]:=jG E;rw[<- d]at e;let⟨c,f,g⟩:=h.at _ _ E;exact#[_,c,e,Nc f,g]
noncomputable def Bd.fit(h:List (ρ×List ρ))(y:List ρ)(d:Nat)(b:Bd):Prop:=(b.Ok y/\b.Cs (h.map λc=>(c.1,c.2.length)))/\b.dep<=d
theorem ZA:Bd.fit h y d .nil:=#[#[trivial,trivial],M6 _]
theorem Db{H:List (ρ×List ρ)}{l:Lf}(h:l.Ok y)(k:l.Cs (H.map λc=>(c.1,c.2.length))):Bd.fit H y d (.lf p l .nil):=#[#[#[h,trivial],k,trivial],M6 _]
theorem ZB{a b:Bd}(h:a.fit H y d)(k:b.fit H y d):(a.app b).fit H y d:=#[#[Ko h.1.1 k.1.1,Kn h.1.2 k.1.2],by rw[zp];let:=h.2;let:=k.2;omega]
theorem yE{a b:Bd}(c:dE y T)(h:a.fit H y d)(k:b.fit H y d):Bd.fit H y (d+1) (.ite p t T a b .nil):=#[#[#[c,h.1.1,k.1.1,trivial],h.1.2,k.1.2,trivial],by show max (max a.dep b.dep+1) 0<=d+1;let:=h.2;let:=k.2;omega]
theorem uo{a:Bd}(H:dE y T)(h:a.fit b y d):Bd.fit b y (d+1) (.loop p t T a .nil):=#[#[#[H,h.1.1,trivial],h.1.2,trivial],by show max (a.dep+1) 0<=d+1;let:=h.2;omega]
noncomputable def Ms:Nat->Nat
 |0=>1
 |d+1=>1+2*(5*Ms d)
inductive iV(b:List V)(H:Hp)(Q:VK)(a:XK):Prop
 |mk(p g:η)(c:List ρ)(_:b=[.ref p,.ref g])(_:ap H p)(_:H g=δ (.lst (c.map ry)))(_:1<=c.length)(_:c.length<=20)(_:∀(r:η) (T:Tm) (H':Hp),bn H' T r->dE c T->ap H' p->aH p H H'->Q (.ref r) H')
structure nW(H:Hp)(p g h sp:η)(ys:List ρ)(hs:List (ρ×List ρ)):Prop where
 B:ap H p
 g:H g=δ (.lst$ ys.map ry)
 y1:1<=ys.length
 y2:ys.length<=20
 h:∃hv,H h=δ (.lst hv)/\dW H hs hv
 h1:1<=hs.length
 h2:hs.length<=20
 h3:∀c∈hs,c.2.length<=6
 s:dH H sp
theorem nW.gsp{H:Hp}{p g h S:η}{y:List ρ}{b:List (ρ×List ρ)}(G:nW H p g h S y b):g≠S:=by
 let⟨k,e⟩:=G.s;refine jP G.g e λz=>?_;injection z with z;let c:=G.y1
 match y,c,z with
 |a::r,_,z=>injection z with d _;cases d
theorem nW.hsp{H:Hp}{p g h S:η}{y:List ρ}{f:List (ρ×List ρ)}(G:nW H p g h S y f):h≠S/\h≠p:=by
 let⟨k,e⟩:=G.s;let⟨j,E,l⟩:=G.h;let⟨a,b,_,_,_,m⟩:=G.B.ob;let n:=G.h1;let:∃q r,j= .ref q::r:=by
  match f,n,l with
  |c::C,_,#[v,r,e,#[q,t,o,_],_]=>exact#[q,r,by rw[e,o]]
 let⟨q,r,rfl⟩:=this;refine#[jP E e λz=>?_,jP E m λz=>?_]
 .injection z with z;injection z with d _;cases d
 .injection z with z;injection z with d _;cases d
theorem nW.but2{H a:Hp}{p g h S:η}{y:List ρ}{b:List (ρ×List ρ)}(G:nW H p g h S y b)(B:ap a p)(s:dH a S)(k:aM p S H a):nW a p g h S y b:=by let⟨c,e,E⟩:=G.h;exact#[B,k _ _ (qO G.B G.g) G.gsp G.g,G.y1,G.y2,#[c,k _ _ G.hsp.2 G.hsp.1 e,E.mono$ k.tm G.B G.s],G.h1,G.h2,G.h3,s]
theorem nW.but{H a:Hp}{p g h S:η}{y:List ρ}{b:List (ρ×List ρ)}(G:nW H p g h S y b)(B:ap a p)(k:aH p H a):nW a p g h S y b:=G.but2 B (G.s.but G.B k) k.two
inductive lP(n:Nat)(f:List V)(H:Hp)(Q:VK)(a:XK):Prop
 |mk(p g h e:η)(d:Nat)(i:List ρ)(c:List (ρ×List ρ))(_:f=[.ref p,.ref g,.ref h,.ref e,.int (d:Int)])(_:nW H p g h e i c)(_:d < n)(_:0 < gU H e)(_:∀(r:η) (b:Bd) (H':Hp),dJ H' b [.ref r]->(b.size:Int)+gU H' e<=gU H e->0<=gU H' e->b.fit c i d->ap H' p->dH H' e->aM p e H H'->Q (.ref r) H')
inductive gX(n:Nat)(f:List V)(H:Hp)(Q:VK)(a:XK):Prop
 |mk(p g h e:η)(d:Nat)(i:List ρ)(c:List (ρ×List ρ))(_:f=[.ref p,.ref g,.ref h,.ref e,.int (d:Int)])(_:nW H p g h e i c)(_:d < n)(_:0<=gU H e)(_:∀(r:η) (b:Bd) (bs:List V) (H':Hp),H' r=δ (.tup bs)->dJ H' b bs->(b.size:Int)+gU H' e<=gU H e->0<=gU H' e->b.fit c i d->ap H' p->dH H' e->aM p e H H'->Q (.ref r) H')
theorem wP:ai ["_law_box_here","_law_names_here","_law_kind"] z26z (ae wt):=bN
theorem Ao(F:tf K "_law_spot" wt f M)(C:Cl P w K mg base 1 Y N z1z bq "_law_take")(O:Cl P w K mg base 6 fM R z11z (db 4) "_law_term"):ah P w K mg base aE 7 f M z26z iV:=by
 refine F.ok wP λS A o s H vs Q E a h=>?_
 let⟨p,g,y,rfl,B,I,i,j,q⟩:=h;refine#[_,(jd (jB 2 wP.nd$ C.e a.m$ ja (pv 0)$ ja jf jc)$ jd (jy (jz Ql (pv 2) jf$ aF _) (jg$ jm$ O.e a$ ja (pv 0)$ ja (pv 1)$ ja jf jc) jo)$ jd (jy (zY$ pv 2) (jg$ jm$ jl$ ja jw$ ja (jx kP (jx kP (jx JB jf jf) jf)$ C.e a.m$ ja (pv 0)$ ja jf jc) jc) jo)$ jg$ jm$ jl$ ja jw$ ja (C.e a.m$ ja (pv 0)$ ja jf jc) jc),?_];let k:g≠p:=qO B I;refine#[_,Z,p,8,Z,B,VU,VU,λkd J k0 k1 l L=>?_];let t:J g=δ (.lst$ y.map ry):=by rw[L g k];exact I
 let u:aH p H J:=aH.of_eq L;refine#[_,Z,_,_,Z,Z,_,Z,?_];refine bZ (λc=>?_) (λc=>?_)
 .exact#[_,Z,_,Z,p,g,1,y,Z,l,t,i,j,VU,VU,λr T v U dT W b X=>q r T v U #[W,VV] b (u.trans X)]
 refine#[_,Z,Z,_,Z,?_];refine bZ (λc=>?_) (λc=>?_)
 .refine#[_,_,Z,Z,#[VU,VU,VU],_,_,Z,Z,_,Z,p,4,Z,l,VU,VU,λD v d x b z=>#[_,_,Z,Z,cp,λr n=>?_]];exact q r (.num (1000000000000000000 - 1 - D)) _ jb #[#[VV,VV],(by show 0 < 6;decide)] (b.upd_new n) ((u.trans$ aH.of_eq z).upd_new n)
 .refine#[_,Z,p,12,Z,l,VU,VU,λD v d x b z=>#[cp,λr n=>?_]];exact q r (.num D) _ jb #[#[d,VV],(by show 0 < 6;decide)] (b.upd_new n) ((u.trans$ aH.of_eq z).upd_new n)
theorem lM:ai z39z z6z (ae wu):=bN
noncomputable def sN:ir:=#[.function,[(".0",.local),("_law_one",.local),("_law_term",.globalImplicit),("_law_box_here",.free),("_law_names_here",.free)],ξ,ξ,[]]
theorem DA:(z33z:List ρ).Nodup:=by decide+kernel
theorem C0:be z39z (ae wu) sN z33z 1 [0,1]:=oR
def RH(p g h s:η)(d:Nat)(k:Int)(y:ρ)(H:Hp)(a:_L.St)(b:Hp):Prop:=a=[↑p,↑g,↑h,↑s,δ$ .int (d:Int),δ$ .int k,δ$ .str y,θ,θ,θ]/\b=H
theorem D9(F:tf K "_law_statement" wu f fd)(cT:Cl P w K mg base 1 fT f0 z1z bq "_law_take")(cM:Cl P w K mg base 6 fM f3 z11z (db 4) "_law_term")(cP:Cl P w K mg base 7 fP f4 z26z iV "_law_spot"){L:Nat}(cB:Cl P w K mg base (L+9) fB f5 z6z (gX n) "_law_body")(ml:mg "len"=θ)(m0:mg "tuple"=θ):ah P w K mg base aE (L+10) f fd z6z (lP$ n+1):=by
 refine F.ok lM λc3 A o2 s H vs Q E U h=>?_
 let⟨p,g,h,S,d,ys,hs,rfl,G0,hd,b5,q⟩:=h;refine#[_,(jd (jB 5 lM.nd$ cT.e U.m$ ja (pv 0)$ ja jf jc)$ jd (jB 6 lM.nd$ ju jD (pv 1) (cT.e U.m$ ja (pv 0)$ ja (jN jI Z ml NO$ ja (pv 1) jc) jc) (λ_ _=>Z))$ jd (zk (jx kP (ju jD (pv 3) jf (λ_ _=>Z)) jf)$ qM (pv 3) jf zD)$ jd (jy (jz Ql (pv 5) jf$ aF _) (jg$ jm$ jl$ ja jw$ ja (pv 6)$ ja (cP.e U.m$ ja (pv 0)$ ja (pv 1) jc) jc) jo)$ jd (jy (PW.pt$ Xr (zY$ pv 5)$ Kk$ zY$ pv 5) (jg$ jm$ jl$ ja jw$ ja (cP.e U.m$ ja (pv 0)$ ja (pv 1) jc)$ ja (cM.e U.m$ ja (pv 0)$ ja (pv 1)$ ja jf jc) jc) jo)$ jd (jy (PW.pt$ Xr (zY$ pv 5)$ Kk$ zY$ pv 5) (jd (zk (ju jD (pv 2) (cT.e U.m$ ja (pv 0)$ ja (jN jI Z ml NO$ ja (pv 2) jc) jc) (λ_ _=>Z))$ zz (n:=2) Z$ jE (jr (i:=7) lM.nd Z$ ω Z)$ jE (jr (i:=8) lM.nd Z$ ω Z) kH)$ jg$ jm$ jl$ ja jw$ ja (pv 6)$ ja (pv 7)$ ja (jJ jO Z m0 OG$ ja (@zK _ _ _ _ _ _ _ (z33z) (1) ([0,1]) _ _ _ _ Z (qp$ pv 8) C0 (λ_ _ _ _ _=>(jr (i:=0) DA Z$ ω Z)) (λ_ _ _ _ _=>(@zZ _)) (λ_ _ _ _ _=>(cM.e U.m$ ja (pv 1)$ ja (pv 2)$ ja jf jc)) (by intro _;rfl)) jc) jc) jo)$ jd (zb$ jy (PW.pt$ qL (zY$ pv 5)$ qd$ jz qo (pv 4) jf$ aF _) (jd (jB 9 lM.nd$ cB.e U$ ja (pv 0)$ ja (pv 1)$ ja (pv 2)$ ja (pv 3)$ ja (jx kP (pv 4) jf) jc)$ jg$ jm$ jl$ ja jw$ ja (cM.e U.m$ ja (pv 0)$ ja (pv 1)$ ja jf jc)$ ja (pv 9)$ ja (cB.e U$ ja (pv 0)$ ja (pv 1)$ ja (pv 2)$ ja (pv 3)$ ja (jx kP (pv 4) jf) jc) jc) jo)$ jd (zb$ jy (PW.pt$ qL (zY$ pv 5)$ qd$ jz qo (pv 4) jf$ aF _) (jg$ jm$ jl$ ja jw$ ja (cM.e U.m$ ja (pv 0)$ ja (pv 1)$ ja jf jc)$ ja (cB.e U$ ja (pv 0)$ ja (pv 1)$ ja (pv 2)$ ja (pv 3)$ ja (jx kP (pv 4) jf) jc) jc) jo)$ jd (jy (zY$ pv 5) (jg$ jm$ jl$ ja jw$ ja (cM.e U.m$ ja (pv 0)$ ja (pv 1)$ ja jf jc) jc) jo)$ jg$ jm$ jl$ ja jw$ ja (pv 6)$ ja (cM.e U.m$ ja (pv 0)$ ja (pv 1)$ ja jf jc) jc),?_];let b7:=aJ;let B:=G0.B;let b8:g≠p:=qO B G0.g;refine aj λF1 u=>#[_,Z,p,10,Z,B,VU,VU,λkd H1 k0 k1 B1 e1=>u _ _ ?_];clear u;let G1:=G0.but B1 (aH.of_eq e1);let y1:=G0.y1;let y2:=G0.y2;refine aj λF1 u=>#[_,Z,_,Z,_,Z,g,_,Z,.inl$ aI.of G1.g,p,_,Z,B1,by rw[MY];omega,by rw[MY];omega,λd2 H2 d1 d0 B2 e2=>?_];rw[MY]at d0;let G2:=G1.but B2 (aH.of_eq e2);let⟨y,hy,a2⟩:=QT (ys:=ys) d1 d0;refine#[g,_,_,_,Z,Z,aI.of G2.g,a2,u _ _ ?_];clear u;let⟨k,hk⟩:=G2.s;let ek:gU H S=k:=((kK B1 G1.s$ aH.of_eq e2).trans$ kK B G0.s$ aH.of_eq e1).symm.trans (JE hk);refine aj λF1 u=>#[_,Z,S,_,_,_,Z,Z,aI.of hk,Z,_,_,Z,Z,_,Z,S,_,_,0,Z,Z,hk,Z,u _ _ ?_];clear u;let s0:=G2.s.ne B2;let B3:ap (af H2 S$ .lst ([.int k].set 0 (.int$ k - 1))) p:=B2.eq (jh$ NA s0);let s3:dH (af H2 S$ .lst ([.int k].set 0 (.int$ k - 1))) S:=#[k - 1,jb];let K3:aM p S H (af H2 S$ .lst ([.int k].set 0 (.int$ k - 1))):=((aH.of_eq e1).trans$ aH.of_eq e2).two.trans aM.at;let G:=G0.but2 B3 s3 K3;let e3:gU (af H2 S$ .lst ([.int k].set 0 (.int$ k - 1))) S=k - 1:=JE jb;generalize af H2 S (.lst ([.int k].set 0 (.int$ k - 1)))=H3 at B3 s3 K3 G e3;let l0:∀(l:Lf) (M:List V) (j:Hp) (r:η),yh j l M->l.Ok ys->l.Cs (hs.map λc=>(c.1,c.2.length))->nW j p g h S ys hs->aM p S H j->gU j S=k - 1->j r=θ->Q (.ref r) (af j r$ .tup M):=λl M j r hl ok cs C K4 e4 nr=>
  q r (.lf r l .nil) _ #[M,[],Z,jb,hl.mono$ aa.tm$ je nr,Z] (by rw[ky C.s$ je nr];show((0+1:Nat):Int)+_<=_;omega) (by rw[ky C.s$ je nr];omega) (Db ok cs) (C.B.upd_new nr) (C.s.new nr) (K4.trans$ aM.of_same$ je nr)
 refine aj λF1 u=>oW λG' D=>#[_,Z,_,_,Z,Z,_,Z,D _ _ ?_];clear D;refine bZ (λc=>?_) (λc=>u _ _ ?_)
 .refine#[_,Z,_,Z,_,Z,p,g,ys,Z,G.B,G.g,y1,y2,λr T j W oT B4 J=>#[ie,λt N=>?_]];exact l0 (.rd y r T) _ j t #[Z,W] #[hy,oT] trivial (G.but B4 J) (K3.trans J.two) ((kK G.B G.s J).trans e3) N
 let wr:∀(r:η) (T0:Tm) (j:Hp),bn j T0 r->dE ys T0->ap j p->aH p H3 j->ff (db 4) [] E0 (ar (bK 0)$ ar (bK 1)$ ar (tC$ .int 2) bh) [↑p,↑g,↑h,↑S,δ$ .int (d:Int),δ$ .int kd,δ$ .str y,θ,θ,θ] j (λv o=>3<=τ/\∀t,o t=θ->Q (.ref t) (af o t$ .tup [.str "write",.ref r,v])):=λr T0 j h4 o1 B4 J=>by refine#[_,Z,_,Z,p,g,2,ys,Z,B4,(G.but B4 J).g,y1,y2,VU,VU,λX T o W dT gT R a=>#[VU,λt N=>?_]];exact l0 (.wr r X T0 T) _ o t #[Z,h4.but B4 a,W] #[o1,gT,VV] trivial (G.but R$ J.trans a) (K3.trans (J.trans a).two) ((kK G.B G.s$ J.trans a).trans e3) N
 refine aj λF1 u=>oW λG' D=>?_;let Y:G' μ H3:=D _ _ (i8 #[_,Z,_,Z,p,g,ys,Z,G.B,G.g,y1,y2,λr T0 j h4 o1 B4 J=>wr r T0 j h4 o1 B4 J]);refine#[_,Z,Z,_,Z,bZ (λc=>Y) (λc=>#[_,Z,Z,_,Z,BG Y λc2=>D _ _ (aT c2$ u _ _ ?_)])];clear Y D u;let⟨hv,hh,hH⟩:=G.h;let hl:=hH.len;let h1:=G0.h1;let h2:=G0.h2;let c1:∀(f':ρ) (ps:List ρ) (h':(f',ps.length)∈hs.map λc=>(c.1,c.2.length)) (t:η) (j:Hp),nW j p g h S ys hs->aM p S H j->gU j S=k - 1->j t=δ (.tup$ ps.map ry)->ps.length<=6->
   eJ (yg K t) 1 [↑p,↑g] (bQ 0) mN (ff (db 4) [] E0$ ar (bK 1)$ ar (bK 2)$ ar (tC$ .int 1) bh) (λM o=>∀l,o l=θ->∃p' y0,[sn l]=[.ref p']/\((aI K (af o l$ .lst M) p' y0/\∀l2,af o l (.lst M) l2=θ->4<=τ/\∀r,af (af o l$ .lst M) l2 (.tup y0) r=θ->Q (.ref r) (af (af (af o l$ .lst M) l2$ .tup y0) r$ .tup [.str "call",.str y,.str f',.ref l2]))∨(aB K (af o l$ .lst M) p' y0/\4<=τ/\∀r,af o l (.lst M) r=θ->Q (.ref r) (af (af o l$ .lst M) r$ .tup [.str "call",.str y,.str f',.ref p'])))) j:=λf' ps h' t j C K4 e4 ht b9=>by
  refine qE (K:=K) (xs:=ps.map ry) (by rw[MY];omega) (λi M o=>∃ts:List (η×Tm),M=ts.map (λc=>sn c.1)/\ts.length=i/\(∀c∈ts,bn o c.2 c.1/\dE ys c.2)/\ap o p/\aH p j o) #[[],Z,Z,(λ_ h=>absurd h Ny),C.B,aH.refl] (λi M o h5=>?_) ?_ ?_
  .let⟨ts,rfl,e5,_,_,a⟩:=h5;exact#[aB.of$ a.tm C.B _ _ ht,by rw[MY,e5];exact M0 _]
  .intro i x M o hx a3;let⟨ts,rfl,e5,h5,R,a⟩:=a3;refine#[_,Z,_,Z,p,g,1,ys,Z,R,(C.but R a).g,y1,y2,VU,VU,λX T H6 W dT gT B6 k6=>#[ts++[(X,T)],by rw[Nl];rfl,by rw[MZ,e5];rfl,λc hc=>?_,B6,a.trans k6]];rcases Ξ.mp hc with hc |hc
   .exact#[(h5 c hc).1.but R k6,(h5 c hc).2]
   .rw[υ.mp hc];exact#[W,gT,(by show T.depth < 6;omega)]
  .rintro M o ⟨ts,rfl,e5,h5,R,a⟩ l nl;refine#[l,_,Z,.inl #[aI.of jb,λl2 n0=>#[VU,λr nr=>?_]]];let O:=C.but R a;let s6:aa o (af (af o l$ .lst$ ts.map λc=>sn c.1) l2$ .tup$ ts.map λc=>sn c.1):=(je nl).trans (je n0);rw[MY]at e5;exact l0 (.cl y f' l2 ts) _ _ r #[Z,jb,λc hc=>(h5 c hc).1.same s6] #[hy,VV,λc hc=>(h5 c hc).2] (by show(f',ts.length)∈_;rw[e5];exact h') (O.but2 ((O.B.upd_new nl).upd_new n0) ((O.s.new nl).new n0)$ aM.of_same s6) ((K4.trans a.two).trans$ aM.of_same s6) ((ky O.s s6).trans ((kK C.B C.s a).trans e4)) nr
 refine aj λF1 u=>oW λG' D=>?_;let Y:G' μ H3:=by refine D _ _$ i8 ?_;clear u D;refine aj λF2 f2=>#[_,Z,_,Z,_,Z,h,_,Z,.inl$ aI.of hh,p,_,Z,G.B,VV,VV,λd4 j d3 d5 B4 e4=>?_];let C:=G.but B4 (aH.of_eq e4);let J:aH p H3 j:=aH.of_eq e4;let a4:=hH.mono (J.tm G.B);let⟨v,c0,a5,a0,p4,t4,rfl,z1,z2⟩:=EA a4 d3 d5;refine#[h,_,_,_,Z,Z,aI.of$ J _ _ G.hsp.2 hh,a5,p4,_,Z,aB.of z1,Z,_,_,Z,_,_,Z,Z,f2 _ _ ?_];clear f2;refine#[_,Z,_,Z,_,Z,t4,Z,#[_,aB.of z2],?_];exact c1 c0.1 c0.2 (dN.mpr #[c0,a0,Z]) t4 j C (K3.trans J.two) ((kK G.B G.s J).trans e3) z2$ G0.h3 c0 a0
 refine#[_,Z,Z,_,Z,bZ (λc=>Y) (λc=>#[_,Z,Z,_,Z,BG Y λc2=>D _ _ (aT c2$ u _ _ ?_)])];clear Y D u;let l1:∀(c:(0:Int) < (d:Int)),∃d':Nat,d=d'+1:=λc=>#[d - 1,VV];refine aj λF1 u=>gA (RH p g h S d kd y H3) (λE6 eR f6=>?_) λσ0 H' z=>?_
 .clear u;refine oW λG' D=>#[_,Z,Z,_,Z,?_];refine bZ (λc=>?_) (λc=>D _ _ (lU$ f6 _ _ #[Z,Z]));refine#[_,Z,_,_,Z,Z,_,Z,D _ _ ?_];clear D;refine bZ (λc2=>?_) (λc2=>f6 _ _ #[Z,Z]);clear f6;let⟨d',rfl⟩:=l1 (NV c2);let ed:(((d'+1:Nat):Int) - 1)=((d':Nat):Int):=by omega
  refine#[_,Z,_,Z,_,Z,_,Z,_,Z,_,_,Z,Z,p,g,h,S,d',ys,hs,(by show [sn p,sn g,sn h,sn S,rz (((d'+1:Nat):Int) - 1)]=_;rw[ed]),G,VV,VV,λr b bs j a' b1 c4 b2 b4 B4 s4 J=>?_];let C:=G.but2 B4 s4 J;refine#[_,Z,_,Z,p,g,2,ys,Z,C.B,C.g,y1,y2,VU,VU,λX T o W dT gT R a=>?_];let O:=C.but R a;refine#[_,Z,_,Z,_,Z,_,Z,_,Z,_,Z,_,_,Z,Z,p,g,h,S,d',ys,hs,(by show [sn p,sn g,sn h,sn S,rz (((d'+1:Nat):Int) - 1)]=_;rw[ed]),O,VV,(by rw[kK C.B C.s a];exact b2),λr3 b3 b0 H6 h6 h7 a1 h8 h0 B6 s6 k6=>#[pU,λt N=>?_]];let G6:=O.but2 B6 s6 k6;let tm:ax j H6:=λb' xs e=>k6.tm O.B O.s _ _ (a.tm C.B _ _ e);let I:ax H6 (af H6 t$ .tup [.str "if",.ref X,.ref r,.ref r3]):=aa.tm (je N);rw[eR];refine q t (.ite t X T b b3 .nil) _ #[r,r3,bs,b0,[],Z,jb,(W.mono$ k6.tm O.B O.s).mono I,I _ _$ tm _ _ a',I _ _ h6,(b1.mono tm).mono I,h7.mono I,Z] (by let x1:=kK C.B C.s a;rw[ky G6.s$ je N];show((b.size+b3.size+0+1:Nat):Int)+_<=_;omega) (by rw[ky G6.s$ je N];exact h8) (yE #[gT,VV] b4 h0) (G6.B.upd_new N) (G6.s.new N) (((K3.trans J).trans$ a.two.trans k6).trans$ aM.of_same$ je N)
 let⟨rfl,e⟩:=z;rw[e];refine u _ _ ?_;clear u;refine aj λF1 u=>gA (RH p g h S d kd y H3) (λE6 eR f6=>?_) λσ0 H' z=>?_
 .clear u;refine oW λG' D=>#[_,Z,Z,_,Z,?_];refine bZ (λc=>?_) (λc=>D _ _ (lU$ f6 _ _ #[Z,Z]));refine#[_,Z,_,_,Z,Z,_,Z,D _ _ ?_];clear D;refine bZ (λc2=>?_) (λc2=>f6 _ _ #[Z,Z]);clear f6;let⟨d',rfl⟩:=l1 (NV c2);let ed:(((d'+1:Nat):Int) - 1)=((d':Nat):Int):=by omega
  refine#[_,Z,_,Z,p,g,2,ys,Z,G.B,G.g,y1,y2,VU,VU,λX T o W dT gT R a=>?_];let O:=G.but R a;refine#[_,Z,_,Z,_,Z,_,Z,_,Z,_,_,Z,Z,p,g,h,S,d',ys,hs,(by show [sn p,sn g,sn h,sn S,rz (((d'+1:Nat):Int) - 1)]=_;rw[ed]),O,VV,(by rw[kK G.B G.s a];omega),λr3 b3 b0 H6 h6 h7 a1 h8 h0 B6 s6 k6=>#[ie,λt N=>?_]];let G6:=O.but2 B6 s6 k6;let I:ax H6 (af H6 t$ .tup [.str "while",.ref X,.ref r3]):=aa.tm (je N);rw[eR];refine q t (.loop t X T b3 .nil) _ #[r3,b0,[],Z,jb,(W.mono$ k6.tm O.B O.s).mono I,I _ _ h6,h7.mono I,Z] (by let x1:=kK G.B G.s a;rw[ky G6.s$ je N];show((b3.size+0+1:Nat):Int)+_<=_;omega) (by rw[ky G6.s$ je N];exact h8) (uo #[gT,VV] h0) (G6.B.upd_new N) (G6.s.new N) ((K3.trans$ a.two.trans k6).trans$ aM.of_same$ je N)
 let⟨rfl,e⟩:=z;rw[e];refine u _ _ ?_;clear u;refine aj λF1 u=>oW λG' D=>#[_,Z,Z,_,Z,D _ _ ?_];clear D;refine bZ (λc=>?_) (λc=>u _ _ ?_)
 .refine#[_,Z,_,Z,p,g,2,ys,Z,G.B,G.g,y1,y2,VU,VU,λX T o W dT gT R a=>#[cp,λt N=>?_]];exact l0 (.gv X T) _ o t #[Z,W] #[gT,VV] trivial (G.but R a) (K3.trans a.two) ((kK G.B G.s a).trans e3) N
 .refine#[_,Z,_,Z,_,Z,p,g,3,ys,Z,G.B,G.g,y1,y2,VU,VU,λX T o W dT gT R a=>#[ie,λt N=>?_]];exact l0 (.st y X T) _ o t #[Z,W] #[hy,gT,VV] trivial (G.but R a) (K3.trans a.two) ((kK G.B G.s a).trans e3) N
theorem oG:ai ["_law_box_here","_law_names_here","_law_heads","_law_spare","_law_deep","_law_body_here","_law_k"] z6z (ae ph):=bN
theorem ZC(F:tf K "_law_body" ph f fd)(cT:Cl P w K mg base 1 fT f0 z1z bq "_law_take"){L:Nat}(cS:Cl P w K mg base (L+8) fS f1 z6z (lP n) "_law_statement")(mr:mg "range"=θ)(m2:mg "tuple"=θ):ah P w K mg base aE (L+9) f fd z6z (gX n):=by
 refine F.ok oG λc0 A o1 s H v Q E hr h=>?_
 let⟨p,g,h,S,d,ys,hs,rfl,G,hd,h0,q⟩:=h;refine#[_,(jd (jB 5 oG.nd$ jK jc)$ jd (jU Nu Z (kM Z mr$ ja (cT.e hr.m$ ja (pv 0)$ ja jf jc) jc) (jr (i:=6) oG.nd Z$ ω Z)$ jg$ jy (jz qo (ju jD (pv 3) jf (λ_ _=>Z)) jf$ aF _) (jg$ jH$ j8 M' Nt Nr jR (pv 5)$ ja (cS.e hr$ ja (pv 0)$ ja (pv 1)$ ja (pv 2)$ ja (pv 3)$ ja (pv 4) jc) jc) jo)$ jg$ jm$ jJ jO Z m2 OG$ ja (pv 5) jc),?_];let b0:=aJ;refine#[M6 _,λl N=>?_];let s0:aa H (af H l$ .lst []):=je N;let O:nW (af H l$ .lst []) p g h S ys hs:=G.but2 (G.B.upd_new N) (G.s.new N) (aM.of_same s0);let l1:af H l (.lst []) l=δ (.lst []):=jb;let lp:l≠p:=G.B.ne N;let D:l≠S:=λe=>by let⟨k,z⟩:=G.s;rw[<- e,N]at z;cases z
 let k1:aM p S H (af H l$ .lst []):=aM.of_same s0;let R:gU (af H l$ .lst []) S=gU H S:=ky G.s s0;generalize af H l (.lst [])=H1 at O l1 k1 R;refine#[_,Z,p,6,Z,O.B,VU,VU,λm H2 m0 m1 B2 e2=>#[_,Z,VV,VV,?_]];let G2:=O.but B2 (aH.of_eq e2);refine Qt (lo:=0) (λi σ I=>∃(o6:Option V) (v:List V) (b:Bd),σ=[↑p,↑g,↑h,↑S,δ$ .int (d:Int),↑l,o6]/\I l=δ (.lst v)/\dJ I b v/\((b.size:Int)+gU I S<=gU H S/\0<=gU I S)/\b.fit hs ys d/\v.length<=i/\ap I p/\dH I S/\aM p S H I)
  #[θ,[],.nil,Z,by rw[e2 l lp];exact l1,Z,(by rw[kK O.B O.s$ aH.of_eq e2,R];exact#[by show((0:Nat):Int)+_<=_;omega,h0]),ZA,M6 _,B2,G2.s,k1.trans (aH.of_eq e2).two] ?_ ?_
 .intro i σ H3 hi J;let⟨o6,v,b,rfl,a,u,j,x,h1,T,C,U⟩:=J;let G3:=G.but2 T C U;let⟨kk,W⟩:=id C;refine#[_,Z,S,_,_,_,Z,Z,aI.of W,Z,_,_,Z,Z,_,Z,?_];refine bZ (λc=>?_) (λc=>?_)
  .refine#[_,Z,.inl #[Z,_,aI.of a],_,Z,_,Z,_,Z,_,Z,_,Z,p,g,h,S,d,ys,hs,Z,G3,hd,(by rw[JE W];exact NV c),λr b4 H4 h2 h5 h3 h4 B4 s4 k4=>?_];let X:H4 l=δ (.lst v):=k4 _ _ lp D a;refine#[l,_,_,Z,Z,X,VV,?_];let tm:ax H4 (af H4 l$ .lst$ v++[.ref r]):=λb' xs e=>by rw[jh$ jP e X (by intro z;cases z)];exact e
   let Y:ax H3 H4:=k4.tm T C;refine#[_,_,b.app b4,Z,jb,(h2.mono tm).app ((u.mono Y).mono tm),?_,ZB x h4,by rw[MZ];show v.length+1<=i+1;omega,B4.eq$ jh$ NA lp,?_,λb' o n1 n2 e=>?_]
   .rw[jY,Yn s4 λo e=>by rw[jh$ NA D];exact e];let⟨z1,z2⟩:=j;exact#[VV,h3]
   .let⟨z,hz⟩:=s4;exact#[z,by rw[jh$ NA D];exact hz]
   .rw[jh$ ji e N];exact k4 _ _ n1 n2$ U _ _ n1 n2 e
  .exact#[_,v,b,Z,a,u,j,x,VV,T,C,U]
 .intro σ H3 J;let⟨o6,v,b,rfl,a,u,j,x,h1,T,C,U⟩:=J;refine#[_,Z,l,v,Z,.inl #[aI.of a,λt M=>?_]];let hm:(m).toNat<=5:=by omega
  refine q t b v _ jb (u.mono$ aa.tm$ je M) (by rw[ky C$ je M];exact j.1) (by rw[ky C$ je M];exact j.2) x (T.upd_new M) (C.new M)$ U.trans$ aM.of_same$ je M
theorem u4:ah P w K mg base aE 8 f c z6z (lP 0):=by
 let n:∀v H Q E,¬lP 0 v H Q E:=λv H Q E h=>by let⟨p,g,h,S,d,y,e,_,_,b,_⟩:=h;exact absurd b$ P2 _
 exact#[λv H Q E h=>absurd h (n v H Q E),λA o s H a u v Q E _ _ _ _ h=>absurd h (n v H Q E)]
theorem Ii(F:tf K "_law_statement" wu f e)(FB:tf K "_law_body" ph g a)(c:Cl P w K mg base 1 r k z1z bq "_law_take")(C:Cl P w K mg base 6 s l z11z (db 4) "_law_term")(h:Cl P w K mg base 7 t o z26z iV "_law_spot")(b:aC K e z6z [])(M:mg "_law_statement"=↑f)(B:aC K a z6z [])(i:mg "_law_body"=↑g)(j:mg "len"=θ)(m:mg "tuple"=θ)(d:mg "range"=θ):
  ∀n:Nat,ah P w K mg base aE (n+n+8) f e z6z (lP n)/\ah P w K mg base aE (n+n+9) g a z6z (gX n)
 |0=>#[u4,ZC (L:=0) FB c #[u4,b,F.kp,M] d m]
 |n+1=>by
  let I:=Ii F FB c C h b M B i j m d n;let E:n+n+10=n+1+(n+1)+8:=by omega
  let p:n+n+2+9=n+1+(n+1)+9:=by omega
  let H:=D9 (L:=n+n) F c C h #[I.2,B,FB.kp,i] j m;let q:=ZC (L:=n+n+2) FB c #[H,b,F.kp,M] d m;rw[<- E,<- p];exact#[H,q]
theorem Lh{x:List V}(h:k<=x.length):aW x θ (δ (k:Int))=x.take k:=by
 unfold aW;rw[HT.sIx_nat,HT.sIx_none];let e:min k x.length=k:=by omega
 rw[e];simp
abbrev ED:cv:=bP 66
theorem yA(h:0<=d)(H:d < 4):∃D:Nat,eU [rz 3,.int 3,.int 3,.int 5] d=δ (.int (D:Int))/\D < 6/\Ms D<=111111/\D<=5:=by
 rcases(by omega:d=0∨d=1∨d=2∨d=3) with rfl |rfl |rfl |rfl
 .exact#[3,Z,VU,VU,VU]
 .exact#[3,Z,VU,VU,VU]
 .exact#[3,Z,VU,VU,VU]
 .exact#[5,Z,VU,VU,VU]
theorem tP{ys:List ρ}{k:Int}(h:ys.length=20)(H:14<=k)(a:k<=20):1<=(bM ys (δ 8)$ δ k).length/\(bM ys (δ 8)$ δ k).length<=20:=by
 refine#[?_,by let:=qv ys (δ 8) (δ k);omega];let e:(8:Int)=((8:Nat):Int):=rfl;let E:k=((k.toNat:Nat):Int):=by omega
 unfold bM;rw[e,E,HT.sIx_nat,HT.sIx_nat,Nq,NN];omega
theorem yx{ss:List ρ}(h:0<=k):(bM ss θ$ δ k).length<=k.toNat:=by
 let e:k=((k.toNat:Nat):Int):=by omega
 unfold bM;rw[e,HT.sIx_nat,HT.sIx_none,Nq];omega
theorem gI{t u:TS}(h:∀E:bV,(∀a b,u D a b->E.nx a b)->t E c H):cy t u D c H:=h { D with nx:=u D } λ_ _ h=>h
def FV(h:List (ρ×List ρ)):Prop:=∀c∈h,c.1.length<=20/\c.2.length<=6
def My(H:Hp)(D:List Df):Prop:=∀d∈D,∃p:List ρ,H d.pa=δ (.tup$ p.map ry)/\p.length<=100
theorem Jn{a:Type}{P:a->Prop}{X:List a}{x:a}(h:∀c∈X,P c)(H:P x):∀c∈X++[x],P c:=λc b=>by
 rcases Ξ.mp b with h1 |h1
 .exact h c h1
 .rw[υ.mp h1];exact H
def mP(H:Hp)(D:List Df)(N:List Nat):Prop:=D.length=N.length/\∀(i:Nat) (d:Df) (n:Nat),D[i]?=δ d->N[i]?=δ n->∃p:List ρ,H d.pa=δ (.tup$ p.map ry)/\p.length=n/\n<=100
theorem mP.mono(h:mP H D N)(k:ax H a):mP a D N:=#[h.1,λi d n b c=>let #[p,e,l]:=h.2 i d n b c;#[p,k _ _ e,l]]
theorem mP.snoc{d:Df}{p:List ρ}(h:mP H D N)(e:H d.pa=δ (.tup$ p.map ry))(l:p.length<=100):mP H (D++[d]) (N++[p.length]):=by
 refine#[by rw[MZ,MZ,h.1];rfl,λi c n a b=>?_];by_cases f:i < D.length
 .rw[ON f]at a;rw[ON (by rw[<- h.1];exact f)]at b;exact h.2 i c n a b
 .let g:i < (D++[d]).length:=(ν.mp a).1;rw[MZ]at g;let E:i=D.length:=by let:i < D.length+1:=g;omega
  subst E;rw[OJ$ M0 _,P8]at a;rw[h.1,OJ$ M0 _,P8]at b;cases a;cases b;exact#[p,e,Z,l]
theorem mP.v(h:mP H D n):My H D:=λd b=>by
 let⟨i,a,e⟩:=jq.mp b;let c:D[i]?=δ d:=by rw[<- e];exact MV a
 let⟨p,e,l,k⟩:=h.2 i d _ c (MV (by rw[<- h.1];exact a));exact#[p,e,VV]
def sW(D:List Df)(n:List Nat):Prop:=(∀d∈D,mX d/\d.b.Cs ((D.map Df.f).zip n))/\(D.map Df.f).Nodup/\∀y∈D.map Df.f,y.length<=20
inductive pI(c:List V)(H:Hp)(Q:VK)(a:XK):Prop
 |mk(p:η)(T b:Int)(_:c=[.ref p,.int T,.int b])(_:ap H p)(_:1<=T)(_:T<=8)(_:0<=b)(_:b<=40)(_:∀(r:η) (ds:List Df) (xs:List V) (H':Hp),H' r=δ (.tup xs)->cQ H' ds xs->(ds.length:Int)=T->∀ns:List Nat,sW ds ns->mP H' ds ns->ap H' p->aH p H H'->Q (.ref r) H')
theorem di:ai ["_law_box_here","_law_total","_law_room","_law_words","_law_most","_law_heads","_law_k","_law_turn","_law_row","_law_some","_law_deep","_law_defs","_law_f","_law_params","_law_spare","_law_body_here"] z34z (ae ED):=bN
inductive AJ(p k:η)(T j:Int)(H:Hp)(b:_L.St)(c:Hp):Prop
 |mk(a:List ρ)(d:b=[↑p,δ (.int T),δ (.int j),↑k,θ,θ,θ,θ,θ,θ,θ,θ,θ,θ,θ,θ])(e:c k=δ (.lst (a.map ry)))(f:a.length=20)(g:(∀y∈a,y.length<=20)/\(a.take 8).Nodup)(h:ap c p)(i:aH p H c)
inductive AI(p t k:η)(T s m:Int)(u:List ρ)(H:Hp)(i:Nat)(v:_L.St)(a:Hp):Prop
 |mk(o q r:Option V)(l:List (ρ×List ρ))(n:List V)(b:v=[↑p,δ (.int T),δ (.int s),↑t,δ (.int m),↑k,o,q,r,θ,θ,θ,θ,θ,θ,θ])(c:a k=δ (.lst n))(d:dW a l n)(e:l.length=i)(f:FV l/\l.map (·.1)=u.take i)(g:a t=δ (.lst (u.map ry)))(h:ap a p)(j:aH p H a)
inductive AK(p G y F h:η)(T E m:Int)(j:Nat)(I:List ρ)(z:List (ρ×List ρ))(A:List V)(H:Hp)(i:Nat)(J:_L.St)(g:Hp):Prop
 |mk(B C D b c e f:Option V)(k:List Df)(l:List V)(n:J=[↑p,δ (.int T),δ (.int E),↑G,δ (.int m),↑y,B,C,D,↑F,δ (.int (j:Int)),↑h,b,c,e,f])(o:g h=δ (.lst l))(q:cQ g k l)(r:k.length=i)(s:(∀d∈k,mX d/\d.b.Cs (z.map λc=>(c.1,c.2.length)))/\k.map Df.f=(z.map (·.1)).take i)(t:g y=δ (.lst A))(u:dW g z A)(v:g F=δ (.lst (I.map ry)))(w:ap g p)(x:aH p H g)(a:mP g k ((z.map λc=>c.2.length).take i))
inductive AL(v:List (ρ×List ρ))(D:List ρ)(p C u z h B A:η)(T y m:Int)(i:Nat)(w x:Option V)(c:ρ×List ρ)(e:Hp)(j:Nat)(E:_L.St)(d:Hp):Prop
 |mk(a:Option V)(f:η)(b:Bd)(g:List V)(k:E=[↑p,δ (.int T),δ (.int y),↑C,δ (.int m),↑u,a,w,x,↑z,δ (.int (i:Int)),↑h,δ (.str c.1),↑B,↑A,↑f])(l:d f=δ (.tup g))(n:dJ d b g)(o:(b.size:Int)+gU d A<=y/\0<=gU d A)(q:b.fit v D i)(r:ap d p)(s:dH d A)(t:aM p A e d)
theorem DN(F:tf K "_law_any" ED f fd)(cT:Cl P w K mg base 1 fT i' z1z bq "_law_take")(cA:Cl P w K mg base 2 fA j0 z25z gJ "_law_names")(cB:Cl P w K mg base 21 fB j1 z6z (gX 6) "_law_body")(ml:mg "len"=θ)(mr:mg "range"=θ)(m0:mg "tuple"=θ)(mi:mg "int"=θ):ah P w K mg base aE 22 f fd z34z pI:=by
 refine F.ok di λj2 A o5 s H vs Q E hr h=>?_
 let⟨p,T,X,rfl,B,j3,j4,f4,j5,q⟩:=h;refine#[_,(jd (jB 3 di.nd$ cA.e hr.m$ ja (pv 0)$ ja jf jc)$ jd (zb$ jy (zY$ cT.e hr.m$ ja (pv 0)$ ja jf jc) (jg$ zk (jM zo (pv 3) jV$ jL jf)$ @vK _ _ _ _ _ _ _ _ _ (pv 3) jf jf (by intro _;rfl)) jo)$ jd (jB 4 di.nd$ ju jD (jK$ ja jf$ ja jf jc) (jJ JI Z mi VO$ ja (qZ qW (cT.e hr.m$ ja (pv 0)$ ja jf jc) jf$ aF _) jc) (λ_ _=>Z))$ jd (jB 5 di.nd$ jK jc)$ jd (jU Nu Z (kM Z mr$ ja (pv 1) jc) (jr (i:=6) di.nd Z$ ω Z)$ jd (jB 7 di.nd$ jx jX jf$ cT.e hr.m$ ja (pv 0)$ ja jf jc)$ jd (jB 8 di.nd$ jx qN (jM zo (pv 3) (jL$ pv 7)$ jL jf)$ jM zo (pv 3) (jL jf)$ jL$ pv 7)$ jg$ jH$ j8 M' Nt Nr jR (pv 5)$ ja (jl$ ja (ju jD (pv 3) (pv 6) (λ_ _=>Z))$ ja (jJ jO Z m0 OG$ ja (jM zo (pv 8) jV$ jL$ cT.e hr.m$ ja (pv 0)$ ja (pv 4) jc) jc) jc) jc)$ jd (jB 9 di.nd$ jM zo (pv 3) (jL jf)$ jL$ jx jX jf$ cT.e hr.m$ ja (pv 0)$ ja jf jc)$ jd (jB 10 di.nd$ ju jD (jK$ ja jf$ ja jf$ ja jf$ ja jf jc) (cT.e hr.m$ ja (pv 0)$ ja jf jc) (λ_ _=>Z))$ jd (jB 11 di.nd$ jK jc)$ jd (jU Nu Z (zc$ pv 5) (zz (n:=2) Z$ jE (jr (i:=12) di.nd Z$ ω Z)$ jE (jr (i:=13) di.nd Z$ ω Z) kH)$ jd (jB 14 di.nd$ jK$ ja (pv 2) jc)$ jd (jB 15 di.nd$ jl jc)$ jd (jU Nu Z (kM Z mr$ ja jf jc) (jr (i:=6) di.nd Z$ ω Z)$ jg$ jB 15 di.nd$ jx ki (pv 15)$ cB.e hr$ ja (pv 0)$ ja (pv 9)$ ja (pv 5)$ ja (pv 14)$ ja (pv 10) jc)$ jg$ jH$ j8 M' Nt Nr jR (pv 11)$ ja (jl$ ja (pv 12)$ ja (pv 13)$ ja (pv 15) jc) jc)$ jg$ jm$ jJ jO Z m0 OG$ ja (pv 11) jc),?_];let j':=aJ;refine gI λE1 m1=>?_;refine#[_,Z,p,20,Z,B,VU,VU,λW ys H1 c2 f5 c3 C B1 k1=>?_];refine m1 _ _ ?_;refine gI λE2 m2=>?_;let wp:W≠p:=B.ne c2;refine gA (AJ p W T X H) (λE0 _ fm=>?_) λσ0 H2 l=>?_
 .clear m2;refine oW λG' g'=>#[_,Z,p,2,Z,B1,VU,VU,λd1 H2 l4 l5 B2 e2=>?_];let Y:H2 W=δ (.lst$ ys.map ry):=by rw[e2 W wp];exact f5
  let k2:=k1.trans (aH.of_eq e2);refine#[Z,_,Z,g' _ _ ?_];clear g';refine bZ (λc=>?_) (λc=>fm _ _ #[ys,Z,Y,VV,#[C.1,C.2.sublist$ Px _ _],B2,k2]);refine#[_,Z,_,Z,W,_,Z,aI.of Y,λsl n0=>?_];let f7:W≠sl:=λe=>by rw[<- e,Y]at n0;cases n0
  let l6:=B2.ne n0;refine#[_,Z,W,sl,_,_,_,_,Z,Z,Z,Z,am Y n0,jb,f7,VU,VU,by rw[MY];omega,?_,?_]
  .let:=zj (ys.map ry) θ (δ 2);rw[MY]at this ⊢;omega
  let e2:aW (ys.map ry) θ (δ 2)=(ys.take 2).map ry:=by rw[show(2:Int)=((2:Nat):Int) from Z,Lh (by rw[MY];omega),PV]
  refine fm _ _ #[ys.take 8++ys.take 2++ys.drop 10,Z,?_,?_,?_,(B2.upd_new n0).eq$ jh$ NA wp,?_]
  .rw[jb,e2,Nl,Nl,PV,Tj,PV];rfl
  .rw[MZ,MZ,Nq,Nq,NN];omega
  .refine#[λy hy=>?_,?_]
   .rcases Ξ.mp hy with h |h
    .rcases Ξ.mp h with h |h
     .exact C.1 y$ Om h
     .exact C.1 y$ Om h
    .exact C.1 y$ RY h
   .rw[OB,List.take_append_of_le_length (by rw[Nq];omega),SV];exact C.2.sublist$ Px _ _
  .exact(k2.upd_new n0).upd_own c2
 let⟨ys,rfl,Y,c3,C,B2,k2⟩:=l;refine m2 _ _ ?_;clear m1 m2;refine gI λE3 m3=>?_;refine#[cp,λl1 n7=>?_];refine#[_,Z,p,3,Z,B2.upd_new n7,VU,VU,λd2 H3 l8 l9 B3 e3=>?_];let k3:aH p H2 H3:=((aH.refl).upd_new n7).trans (aH.of_eq e3);let l0:=B2.ne n7;let f8:H3 l1=δ (.lst [.int 4,.int 7]):=by rw[e3 l1 l0];exact jb
 refine#[Z,.inr #[_,Z,?_]];let a4:∀c:Bool,∃m:Int,eU [rz 4,rz 7] (if c then 1 else 0)=δ (.int m)/\4<=m/\m<=7:=λc=>by
  cases c
  .exact#[4,Z,VU,VU]
  .exact#[7,Z,VU,VU]
 let⟨m,hm,m4,m7⟩:=a4 _;refine#[l1,_,_,_,Z,Z,aI.of f8,hm,?_];refine m3 _ _ ?_;refine gI λE4 m4=>?_;let c4:H3 W=δ (.lst$ ys.map ry):=k3 _ _ wp Y;let k0:=k2.trans k3;refine#[M6 _,λhl n1=>?_];refine m4 _ _ ?_;refine gI λE5 m5=>?_;let h0:=B3.ne n1;let n5:H hl=θ:=by
  cases z:H hl with
  |none=>rfl
  |some o=>have:=k0 _ _ h0 z;rw[n1]at this;cases this
 let wh:W≠hl:=λe=>by rw[<- e,c4]at n1;cases n1
 refine dj λJ j=>#[_,Z,T,Z,VV,VV,j _ _ ?_];clear j;refine ke (lo:=0) (AI p W hl T X m ys H)
  #[θ,θ,θ,[],[],Z,jb,Z,Z,#[(λc hc=>nomatch hc),Z],am c4 n1,B3.upd_new n1,k0.upd_own n5] ?_ ?_
 .intro D' _ i σ H4 hi f0 Gq u l;let⟨o6,o7,o8,hs,hv,rfl,a5,h5,c5,h6,a',B4,k4⟩:=l;refine u ?_;clear u m5 m3 m4;show cy (fe _ _) _ D' _ _;refine gI λF1 f1=>?_;refine#[_,Z,p,6,Z,B4,VU,VU,λD H5 f' g0 B5 e5=>?_];let k5:aH p H4 H5:=aH.of_eq e5;let h7:=k5 _ _ wp a';let b1:=k5 _ _ h0 a5;let b2:=h5.mono (k5.tm B4);refine#[_,_,Z,Z,?_];refine f1 _ _ ?_;show cy (fe _ _) _ D' _ _;refine gI λF2 f2=>?_;refine#[_,Z,_,Z,_,Z,_,Z,W,_,Z,aI.of h7,λs1 n'=>?_];refine#[_,Z,_,Z,_,Z,_,Z,W,_,Z,aI.of$ am h7 n',λs2 b3=>?_];let L1:=qv ys (δ (8+D)) (δ 14);let L0:=qv ys (δ 8) (δ (8+D));let L3:=zj (ys.map ry) (δ (8+D)) (δ 14);let L4:=zj (ys.map ry) (δ 8) (δ (8+D));rw[MY]at L3 L4;refine#[s1,s2,_,_,Z,Z,am jb b3,jb,VV,λrl c6=>?_];refine f2 _ _ ?_;let er:aW (ys.map ry) (δ (8+D)) (δ 14)++aW (ys.map ry) (δ 8) (δ (8+D))=(bM ys (δ (8+D)) (δ 14)++bM ys (δ 8) (δ (8+D))).map ry:=by rw[zQ,zQ,Nl]
  let s6:aa H5 (af (af (af H5 s1$ .lst$ aW (ys.map ry) (δ (8+D))$ δ 14) s2$ .lst$ aW (ys.map ry) (δ 8)$ δ (8+D)) rl$ .lst$ aW (ys.map ry) (δ (8+D)) (δ 14)++aW (ys.map ry) (δ 8) (δ (8+D))):=((je n').trans$ je b3).trans (je c6);let r6:af (af (af H5 s1$ .lst$ aW (ys.map ry) (δ (8+D))$ δ 14) s2$ .lst$ aW (ys.map ry) (δ 8)$ δ (8+D)) rl (.lst$ aW (ys.map ry) (δ (8+D)) (δ 14)++aW (ys.map ry) (δ 8) (δ (8+D))) rl=δ (.lst ((bM ys (δ (8+D)) (δ 14)++bM ys (δ 8) (δ (8+D))).map ry)):=by rw[jb,er]
  let B6:ap (af (af (af H5 s1$ .lst$ aW (ys.map ry) (δ (8+D))$ δ 14) s2$ .lst$ aW (ys.map ry) (δ 8)$ δ (8+D)) rl$ .lst$ aW (ys.map ry) (δ (8+D)) (δ 14)++aW (ys.map ry) (δ 8) (δ (8+D))) p:=((B5.upd_new n').upd_new b3).upd_new c6;generalize af (af (af H5 s1$ .lst$ aW (ys.map ry) (δ (8+D))$ δ 14) s2$ .lst$ aW (ys.map ry) (δ 8)$ δ (8+D)) rl (.lst$ aW (ys.map ry) (δ (8+D)) (δ 14)++aW (ys.map ry) (δ 8) (δ (8+D)))=H6 at s6 r6 B6;let LR:(bM ys (δ (8+D)) (δ 14)++bM ys (δ 8) (δ (8+D))).length<=40:=by rw[MZ];omega
  generalize bM ys (δ (8+D)) (δ 14)++bM ys (δ 8) (δ (8+D))=r0 at r6 LR;let c9:=s6 _ _ h7;let h8:=s6 _ _ b1;let ei:(0:Int)+(i:Int)=(i:Int):=Int.zero_add _;rw[ei];obtain⟨y,b4⟩:∃y,ys[i]?=δ y:=#[_,MV (by omega:i < ys.length)];let hy:=Nc b4;let a4:eU (ys.map ry) (i:Int)=δ (.str y):=jG (by rw[Ni,b4];rfl);let rp:rl≠p:=qO B6 r6;refine#[_,Z,.inl #[Z,_,aI.of h8],_,Z,_,Z,W,_,_,_,Z,Z,aI.of c9,a4,_,Z,_,Z,_,Z,p,m,Z,B6,VV,VV,λd7 H7 d0 d4 B7 e7=>?_];let k7:aH p H6 H7:=aH.of_eq e7;refine#[_,Z,rl,_,Z,aI.of$ k7 _ _ rp r6,λs3 c'=>?_];refine#[s3,_,Z,.inl #[aI.of jb,λt nt=>#[cp,λr nr=>?_]]];rw[zQ]at nt nr ⊢;let L8:=yx (ss:=r0) d0;generalize bM r0 θ (δ d7)=ps at*;let s8:aa H7 (af (af (af H7 s3$ .lst$ ps.map ry) t$ .tup$ ps.map ry) r$ .tup [.str y,.ref t]):=((je c').trans$ je nt).trans (je nr);let t8:af (af (af H7 s3$ .lst$ ps.map ry) t$ .tup$ ps.map ry) r (.tup [.str y,.ref t]) t=δ (.tup$ ps.map ry):=am jb nr;let r8:af (af (af H7 s3$ .lst$ ps.map ry) t$ .tup$ ps.map ry) r (.tup [.str y,.ref t]) r=δ (.tup [.str y,.ref t]):=jb;let B8:ap (af (af (af H7 s3$ .lst$ ps.map ry) t$ .tup$ ps.map ry) r$ .tup [.str y,.ref t]) p:=((B7.upd_new c').upd_new nt).upd_new nr;generalize af (af (af H7 s3$ .lst$ ps.map ry) t$ .tup$ ps.map ry) r (.tup [.str y,.ref t])=R at s8 t8 r8 B8;let d6:=s8 _ _ (k7 _ _ h0 h8);let g1:=s8 _ _ (k7 _ _ wp c9);let h4:=h5.len;refine#[hl,_,_,Z,Z,d6,VV,?_];let tm:ax R (af R hl$ .lst$ hv++[.ref r]):=λb xs e=>by rw[jh$ jP e d6 (by intro z;cases z)];exact e
  let g2:=((b2.mono$ aa.tm s6).mono$ k7.tm B6).mono (aa.tm s8);refine f0 _ _ #[_,_,_,hs++[(y,ps)],_,Z,jb,(g2.mono tm).snoc #[r,t,Z,tm _ _ r8,tm _ _ t8],by rw[MZ,c5];rfl,#[Jn h6.1 #[C.1 y hy,by show ps.length<=6;omega],by rw[Nl,h6.2,RW,b4];rfl],by rw[jh wh];exact g1,B8.eq$ jh$ NA h0,?_];refine aH.upd_own (λb o n e=>?_) n5;exact s8 _ _$ k7 _ _ n$ s6 _ _$ k5 _ _ n$ k4 _ _ n e
 intro σ H4 l;obtain⟨o6,o7,o8,hs,hv,rfl,a5,h5,c5,⟨h6,d8⟩,a',B4,k4⟩:=l;refine m5 _ _ ?_;refine gI λE6 m6=>?_;refine#[_,Z,_,Z,_,Z,p,7,Z,B4,VU,VU,λD H5 f' g0 B5 e5=>?_];let k5:aH p H4 H5:=aH.of_eq e5;let h7:=k5 _ _ wp a';let b1:=k5 _ _ h0 a5;let b2:=h5.mono (k5.tm B4);refine#[_,_,Z,Z,_,Z,W,_,Z,aI.of h7,λsm n3=>?_];refine m6 _ _ ?_;refine gI λE7 m7=>?_;let⟨z1,z2⟩:=tP (ys:=ys) (k:=14+D) c3 VV VV;let m6:af H5 sm (.lst$ aW (ys.map ry) (δ 8)$ δ (14+D)) sm=δ (.lst ((bM ys (δ 8)$ δ (14+D)).map ry)):=by rw[jb,zQ]
 let k6:aH p H (af H5 sm$ .lst$ aW (ys.map ry) (δ 8)$ δ (14+D)):=(k4.trans k5).upd_new n3;let h8:=am (o:=.lst (aW (ys.map ry) (δ 8)$ δ (14+D))) b1 n3;let d':=b2.mono (aa.tm$ je (o:=.lst (aW (ys.map ry) (δ 8)$ δ (14+D))) n3);let B6:=B5.upd_new (o:=.lst (aW (ys.map ry) (δ 8)$ δ (14+D))) n3;generalize af H5 sm (.lst$ aW (ys.map ry) (δ 8)$ δ (14+D))=H6 at m6 k6 h8 d' B6;generalize bM ys (δ 8) (δ (14+D))=zs at m6 z1 z2;let s':=qO B6 m6;refine#[pU,λl2 b5=>?_];refine#[_,Z,p,4,Z,B6.upd_new b5,VU,VU,λd7 H7 d0 d4 B7 e7=>?_];let k7:aH p H6 H7:=((aH.refl).upd_new b5).trans (aH.of_eq e7);let l3:=B6.ne b5;let g4:H7 l2=δ (.lst [.int 3,.int 3,.int 3,.int 5]):=by rw[e7 l2 l3];exact jb
 let⟨dp,g5,g6,l',m'⟩:=yA d0 d4;refine#[l2,_,_,_,Z,Z,aI.of g4,g5,?_];refine m7 _ _ ?_;refine gI λE8 m8=>?_;let m7:=k7 _ _ s' m6;let b7:=k7 _ _ h0 h8;let g7:=d'.mono (k7.tm B6);let k9:=k6.trans k7;refine#[M6 _,λdl N=>?_];refine m8 _ _ ?_;refine gI λE9 m9=>?_;let d3:=B7.ne N;let n6:H dl=θ:=by
  cases z:H dl with
  |none=>rfl
  |some o=>have:=k9 _ _ d3 z;rw[N]at this;cases this
 let e0:hl≠dl:=λe=>by rw[<- e,b7]at N;cases N
 let s5:sm≠dl:=λe=>by rw[<- e,m7]at N;cases N
 let o':=h5.len;refine dj λJ j=>#[_,Z,hl,Z,#[_,aI.of$ am b7 N],j _ _ ?_];clear j;refine zx (K:=K) (a:=hl) (xs:=hv) (AK p W hl sm dl T X m dp zs hs hv H)
  #[_,_,_,_,_,_,_,[],[],Z,jb,Z,Z,#[(λc hc=>nomatch hc),Z],am b7 N,g7.mono$ aa.tm$ je N,am m7 N,B7.upd_new N,k9.upd_own n6,#[Z,(λi d n h=>nomatch h)]] ?_ ?_ ?_
 .intro i σ R _ l;let⟨o6,o7,o8,o1,o2,o3,o4,ds,dv,rfl,h4,hD,h',x,hh,hd,b8,B8,k8,p0⟩:=l;exact aI.of hh
 .intro D' _ i v σ R hx f0 Gq u l;let⟨o6,o7,o8,o1,o2,o3,o4,ds,dv,rfl,h4,hD,h',x,hh,hd,b8,B8,k8,p0⟩:=l;let p1:i < hv.length:=(ν.mp hx).1;let⟨c,hc,q0,t0,rfl,w1,w2⟩:=hd.at i v hx;refine u ?_;clear u m9;let g8:=Nc hc;let e4:=h6 c g8;refine MM λF6 f6=>#[q0,_,Z,aB.of w1,Z,_,_,Z,_,_,Z,Z,f6 _ _ ?_];clear f6;show cy (fe _ _) _ D' _ _;refine gI λF1 f1=>?_;refine#[_,Z,iZ,λM n2=>?_];refine f1 _ _ ?_;show cy (fe _ _) _ D' _ _;refine gI λF2 f2=>?_;refine#[fj,λb0 n4=>?_];refine f2 _ _ ?_;show cy (Fi _ _ _) _ D' _ _;refine gI λF3 f3=>?_;let s9:aa R (af (af R M$ .lst [.int X]) b0$ .tup []):=(je n2).trans (je n4);let s4:dH (af (af R M$ .lst [.int X]) b0$ .tup []) M:=#[X,am jb n4];let b9:af (af R M$ .lst [.int X]) b0 (.tup []) b0=δ (.tup []):=jb;let B9:ap (af (af R M$ .lst [.int X]) b0$ .tup []) p:=(B8.upd_new n2).upd_new n4;let e9:gU (af (af R M$ .lst [.int X]) b0$ .tup []) M=X:=JE (am jb n4);generalize af (af R M$ .lst [.int X]) b0 (.tup [])=H9 at s9 s4 b9 B9 e9;let e6:H M=θ:=by
   cases z:H M with
   |none=>rfl
   |some o=>have:=k8 _ _ (B8.ne n2) z;rw[n2]at this;cases this
  let i0:dl≠M:=λe=>by rw[<- e,h4]at n2;cases n2
  let G9:nW H9 p sm hl M zs hs:=#[B9,s9 _ _ b8,z1,z2,#[hv,s9 _ _ hh,hd.mono$ aa.tm s9],VV,VV,λc hc=>(h6 c hc).2,s4];refine dj λJ j=>#[_,Z,VU,VU,j _ _ ?_];clear j;refine ke (lo:=0) (AL hs zs p W hl sm dl t0 M T X m dp o7 o8 c H9)
   #[_,b0,.nil,[],Z,b9,Z,(by rw[e9];exact#[by show((0:Nat):Int)+_<=_;omega,f4]),ZA,B9,s4,aM.refl] ?_ ?_
  .intro D0 _ j σ G hj fin2 Gq u l;let⟨o9,bb,Bb,bs,rfl,b',a0,a1,I,B',U,L⟩:=l;refine u ?_;clear u f1 f2 f3;let G0:=G9.but2 B' U L;refine#[_,Z,_,Z,_,Z,_,Z,_,Z,_,Z,p,sm,hl,M,dp,zs,hs,Z,G0,g6,a1.2,λr b p2 H0 rE a3 i1 c0 c1 a2 S k'=>?_];let tm:=k'.tm B' U;let lb:=a0.len;let p3:=a3.len;let⟨i2,i3⟩:=a1;refine#[bb,r,_,_,Z,Z,tm _ _ b',rE,VV,λr2 H' e8 s0=>?_];let i4:ap H' p:=by let⟨a,b,h1,h2,h3,h⟩:=a2.ob;exact#[a,b,h1,h2,h3,s0 _ _ h]
   let s7:dH H' M:=by let⟨z,hz⟩:=S;exact#[z,s0 _ _ hz]
   refine fin2 _ _ #[_,r2,Bb.app b,_,Z,e8,(a3.mono$ aa.tm s0).app ((a0.mono tm).mono$ aa.tm s0),?_,ZB I c1,i4,s7,L.trans$ k'.trans$ aM.of_same s0];rw[jY,ky S s0];exact#[VV,c0]
  .intro σ G l;let⟨o9,bb,Bb,bs,rfl,b',a0,a1,I,B',U,L⟩:=l;refine f3 _ _ ?_;let O:G dl=δ (.lst dv):=L _ _ d3 i0 (s9 _ _ h4);let G0:=G9.but2 B' U L;let t3:ax R G:=λb xs e=>L.tm B9 s4 _ _ (s9 _ _ e);refine#[_,Z,.inl #[Z,_,aI.of O],_,Z,_,Z,_,Z,ie,λr nr=>?_];let S:aa G (af G r$ .tup [.str c.1,.ref t0,.ref bb]):=je nr;let i5:=hD.len;let e':Bb.size<=40:=by let⟨i2,i3⟩:=a1;omega
   refine#[dl,_,_,Z,Z,S _ _ O,VV,?_];let rE:af G r (.tup [.str c.1,.ref t0,.ref bb]) r=δ (.tup [.str c.1,.ref t0,.ref bb]):=jb;let a2:=B'.upd_new (o:=.tup [.str c.1,.ref t0,.ref bb]) nr;generalize af G r (.tup [.str c.1,.ref t0,.ref bb])=H0 at S rE a2;let tm:ax H0 (af H0 dl$ .lst$ dv++[.ref r]):=λb xs e=>by rw[jh$ jP e (S _ _ O) (by intro z;cases z)];exact e
   let t2:ax G (af H0 dl$ .lst$ dv++[.ref r]):=λb xs e=>tm _ _ (S _ _ e);let t1:ax R (af H0 dl$ .lst$ dv++[.ref r]):=λb xs e=>t2 _ _ (t3 _ _ e);refine f0 _ _ #[_,_,_,_,_,_,_,ds++[#[c.1,r,t0,bb,Bb]],_,Z,jb,(hD.mono t1).snoc #[bs,Z,tm _ _ rE,t2 _ _ b',a0.mono t2],by rw[MZ,h'];rfl,#[Jn x.1 #[#[#[zs,z2,I.1.1],Ol I.2 VV,Ng e' VU],I.1.2],by rw[Nl,x.2,RW,Ni,hc];rfl],?_,hd.mono t1,?_,a2.eq$ jh$ NA d3,?_,(by rw[RW,Ni,hc];exact(p0.mono t1).snoc (d:=#[c.1,r,t0,bb,Bb]) (t1 _ _ w2) (Ng e4.2 VU))]
   .let⟨p4,e1,e2⟩:=G0.h;rw[jh e0];exact S _ _$ L _ _ G9.hsp.2 G9.hsp.1$ s9 _ _ hh
   .rw[jh s5];exact S _ _ G0.g
   .refine aH.upd_own (λb o n e=>?_) n6;exact S _ _$ L _ _ n (ji e e6)$ s9 _ _$ k8 _ _ n e
 .intro σ R l;let⟨o6,o7,o8,o1,o2,o3,o4,ds,dv,rfl,h4,hD,h',x,hh,hd,b8,B8,k8,p0⟩:=l;refine m9 _ _ ?_;refine#[_,Z,dl,dv,Z,.inl #[aI.of h4,λt nt=>?_]];let nn:(ds.map Df.f).Nodup:=by
   rw[x.2,d8];refine List.Nodup.sublist (Px _ _) ?_;let e:∀m,m<=8->ys.take m=(ys.take 8).take m:=λm hm=>by rw[SV,Pm hm]
   rw[e _ VV];exact C.2.sublist$ Px _ _
  exact q t ds dv _ jb (hD.mono$ aa.tm$ je nt) VV (hs.map λc=>c.2.length) #[λd hd=>#[(x.1 d hd).1,by let e:=x.2;rw[Ou (by rw[MY];omega)]at e;rw[e];let z:=(x.1 d hd).2;rw[show(hs.map λc=>(c.1,c.2.length))=(hs.map (·.1)).zip (hs.map λc=>c.2.length) by rw[List.zip_map']]at z;exact z],nn,λy hy=>by rw[x.2,d8]at hy;exact C.1 y$ Om$ Om hy] (by let z:=p0.mono (aa.tm$ je (o:=.tup dv) nt);rw[Ou (by rw[MY];omega)]at z;exact z) (B8.upd_new nt) (k8.upd_new nt)
theorem iZ:1<=τ:=by decide
theorem cp:2<=τ:=by decide
theorem ie:3<=τ:=by decide
theorem pU:4<=τ:=by decide
theorem ax.trans(a:ax H h)(b:ax h d):ax H d:=λc x e=>b c x (a c x e)
theorem ax.refl:ax H H:=λ_ _ e=>e
def lQ(H:Hp)(y:List ρ)(k:Nat)(a:η):Prop:=∃T,bn H T a/\T.Good y/\T.depth<=k
theorem lQ.mono(h:lQ H y k a)(m:ax H b):lQ b y k a:=let #[T,c,d]:=h;#[T,c.mono m,d]
theorem lQ.ok(h:lQ H y k a)(m:k < 6):∃T,bn H T a/\dE y T:=let #[T,b,c,d]:=h;#[T,b,c,Ol d m]
section
variable {Cf:iD}{H:Hp}{ys:List ρ}
theorem Fo(h:H a=δ (.tup [.str "num",.int n]))(b:0<=n)(c:n < 1000000000000000000):lQ H ys 0 a:=#[.num n,h,#[b,c],M6 _]
theorem xM(h:H a=δ (.tup [.str "var",.str x]))(b:x∈ys):lQ H ys 0 a:=#[.var x,h,b,M6 _]
def Sg(s:ρ):Prop:=∃i,i < 6/\s=LH i
theorem IA(h:H a=δ (.tup [.str "op",.str s,.ref b,.ref c]))(d:Sg s)(e:lQ H ys j b)(f:lQ H ys k c)(q:j < n)(r:k < n):lQ H ys n a:=by let⟨i,g,rfl⟩:=d;let⟨B,l,m,t⟩:=e;let⟨C,o,p,u⟩:=f;exact#[.op i B C,#[b,c,h,l,o],#[g,m,p],by show max B.depth C.depth+1<=n;omega]
theorem Q4:Sg "+":=#[0,VU,VX]
theorem A9:Sg "/":=#[3,VU,VX]
theorem Q5:Sg "<":=#[4,VU,VX]
theorem Ib:Sg "=":=#[5,VU,VX]
def gm(Cf:iD)(H:Hp)(ys:List ρ)(d:Nat)(v:V):Prop:=∃s,ik H v s/\(s.Ok ys/\s.Cs Cf)/\s.dep<=d/\s.size<=1+20*d
def sS(Cf:iD)(H:Hp)(ys:List ρ)(d:Nat)(x:List V):Prop:=∃b,dJ H b x/\(b.Ok ys/\b.Cs Cf)/\b.dep<=d/\b.size<=(1+20*d)*x.length
theorem gm.mono(h:gm Cf H ys d v)(m:ax H a):gm Cf a ys d v:=let #[s,b,c]:=h;#[s,b.mono m,c]
theorem sS.mono(h:sS Cf H ys d x)(m:ax H a):sS Cf a ys d x:=let #[s,b,c]:=h;#[s,b.mono m,c]
theorem gm.up(h:gm Cf H ys 0 v):gm Cf H ys d v:=let #[s,a,b,c,e]:=h;#[s,a,b,VV,VV]
theorem CS{xs:List V}(h:sS Cf H ys d xs)(g:sS Cf H ys d z):sS Cf H ys d (xs++z):=by let⟨a,c,A,f,i⟩:=h;let⟨b,e,B,j,k⟩:=g;refine#[a.app b,e.app c,#[Ko A.1 B.1,Kn A.2 B.2],by rw[zp];omega,?_];rw[jY,MZ,Nat.mul_add];omega
theorem Yo(h:gm Cf H ys d v):sS Cf H ys d [v]:=by let⟨s,a,b,c,e⟩:=h;exact#[s,a.bd,b,c,by show s.size<=(1+20*d)*1;omega]
theorem Q6(h:gm Cf H ys d v)(g:sS Cf H ys d xs):sS Cf H ys d (v::xs):=CS (xs:=[v]) (Yo h) g
theorem Xt{l:Lf}(h:H p=δ (.tup v))(a:yh H l v)(b:l.Ok ys)(c:l.Cs Cf):gm Cf H ys 0 (.ref p):=#[.lf p l .nil,.lf p l v h a,#[#[b,trivial],c,trivial],M0 0,M0 1]
theorem Ik(h:H p=δ (.tup [.str "read",.str x,.ref t]))(a:x∈ys)(b:lQ H ys k t)(c:k < 6:=by decide):gm Cf H ys 0 (.ref p):=by let⟨T,d,e⟩:=b.ok c;exact Xt (l:=.rd x t T) h #[Z,d] #[a,e] trivial
theorem Il(h:H p=δ (.tup [.str "set",.str x,.ref t]))(a:x∈ys)(b:lQ H ys k t)(c:k < 6:=by decide):gm Cf H ys 0 (.ref p):=by let⟨T,d,e⟩:=b.ok c;exact Xt (l:=.st x t T) h #[Z,d] #[a,e] trivial
theorem Ij(h:H p=δ (.tup [.str "give",.ref t]))(a:lQ H ys k t)(b:k < 6:=by decide):gm Cf H ys 0 (.ref p):=by let⟨T,c,d⟩:=a.ok b;exact Xt (l:=.gv t T) h #[Z,c] d trivial
theorem Im(h:H p=δ (.tup [.str "write",.ref t,.ref u]))(a:lQ H ys k t)(b:lQ H ys j u)(c:k < 6:=by decide)(d:j < 6:=by decide):gm Cf H ys 0 (.ref p):=by let⟨T,e,f⟩:=a.ok c;let⟨U,g,i⟩:=b.ok d;exact Xt (l:=.wr t u T U) h #[Z,e,g] #[f,i] trivial
theorem xp(h:H p=δ (.tup [.str "while",.ref t,.ref q]))(c:lQ H ys k t)(d:H q=δ (.tup A))(g:sS Cf H ys 0 A)(l:A.length<=20)(e:k < 6:=by decide):gm Cf H ys 1 (.ref p):=by let⟨T,f,i⟩:=c.ok e;let⟨a,j,b,m,n⟩:=g;exact#[.loop p t T a .nil,.loop p t T a q A h f d j,#[#[i,b.1,trivial],b.2,trivial],(by show max (a.dep+1) 0<=1;omega),(by show a.size+0+1<=21;omega)]
def sT(Cf:iD)(n:Nat)(H:Hp)(r:η)(f:ρ):Prop:=∃d:Df,Bx H d (.ref r)/\(mX d/\d.b.Cs Cf)/\∃p:List ρ,H d.pa=δ (.tup$ p.map ry)/\p.length=n/\d.f=f
theorem sT.mono(h:sT Cf n H r f)(m:ax H a):sT Cf n a r f:=let #[d,b,c,p,e,g]:=h;#[d,b.mono m,c,p,m _ _ e,g]
theorem BO{f:ρ}{p:List ρ}(h:H r=δ (.tup [.str f,.ref a,.ref b]))(d:H a=δ (.tup$ p.map ry))(e:p.length=n)(i:H b=δ (.tup x))(g:sS Cf H ys 1 x)(l:x.length<=100)(j:ys.length<=20):sT Cf n H r f:=by let⟨c,k,C,m,o⟩:=g;exact#[#[f,r,a,b,c],#[x,Z,h,i,k],#[#[#[ys,j,C.1],(by show c.dep < 8;omega),(by show c.size<=3000;omega)],C.2],p,d,e,Z]
structure Wd(H0 H:Hp)(p wl:η)(ys:List ρ):Prop where
 B:ap H p
 K:aH p H0 H
 w:H wl=δ (.lst$ ys.map ry)
theorem Wd.np(h:Wd b H p a ys):a≠p:=qO h.B h.w
theorem Wd.same(h:Wd a H p b ys)(s:aa H c):Wd a c p b ys:=#[h.B.same s,h.K.trans$ aH.of_same s,s _ _ h.w]
theorem Wd.but(h:Wd b H p c ys)(B:ap a p)(k:aH p H a):Wd b a p c ys:=#[B,h.K.trans k,k _ _ h.np h.w]
end
theorem Lu{A:List V}(h:A.length=5):∃a b c d e,A=[a,b,c,d,e]:=by
 cases A with
 |nil=>cases h
 |cons a r=>
  cases r with
  |nil=>cases h
  |cons b R=>
   cases R with
   |nil=>cases h
   |cons c f=>
    cases f with
    |nil=>cases h
    |cons d g=>
     cases g with
     |nil=>cases h
     |cons e i=>
      cases i with
      |nil=>exact#[a,b,c,d,e,Z]
      |cons _ _=>cases h
theorem io:eU (v::u::y) 1=δ u:=jG (j:=1) Z
structure Fw(p:η)(H H':Hp):Prop where
 t:ax H H'
 b:aH p H H'
theorem Fw.refl:Fw p H H:=#[ax.refl,aH.refl]
theorem Fw.trans(a:Fw p H h)(b:Fw p h c):Fw p H c:=#[a.t.trans b.t,a.b.trans b.b]
theorem Fw.new{p:η}{H:Hp}{o:HO}(n:H r=θ):Fw p H (af H r o):=#[aa.tm$ je n,aH.of_same$ je n]
theorem Fw.but(B:ap H p)(c:aH p H h):Fw p H h:=#[c.tm B,c]
def nX(P:Hp->V->Prop):Prop:=∀H h v,ax H h->P H v->P h v
def Ev(a:Hp)(p W:η)(y:List ρ)(b:Hp)(c:_L.St)(t:TE)(P:Hp->V->Prop):Prop:=∀(H:Hp) (Q:VK),Fw p b H->Wd a H p W y->(∀v h,P h v->Wd a h p W y->Fw p H h->Q v h)->t c H Q
def PT(y:List ρ)(k:Nat)(H:Hp)(v:V):Prop:=∃a,v= .ref a/\lQ H y k a
def PB(C:iD)(y:List ρ)(d n:Nat)(H:Hp)(v:V):Prop:=∃a x,v= .ref a/\H a=δ (.tup x)/\sS C H y d x/\x.length<=n
def PN(y:List ρ)(_:Hp)(v:V):Prop:=∃x,v= .str x/\x∈y
def PG(_:Hp)(v:V):Prop:=∃s,v= .str s/\Sg s
def PP(n:Nat)(H:Hp)(v:V):Prop:=∃(a:η) (x:List ρ),v= .ref a/\H a=δ (.tup$ x.map ry)/\x.length=n
def FG(y:ρ)(_:Hp)(v:V):Prop:=v= .str y
def PD(C:iD)(n:Nat)(f:ρ)(H:Hp)(v:V):Prop:=∃a,v= .ref a/\sT C n H a f
section
variable {Cf:iD}{ys:List ρ}{H0 Hb:Hp}{p wl:η}{σ:_L.St}
theorem bg:nX (PT ys k):=λ_ _ _ m #[a,e,h]=>#[a,e,h.mono m]
theorem ou:nX (PB Cf ys d n):=λ_ _ _ m #[a,x,e,h,H,b]=>#[a,x,e,m _ _ h,H.mono m,b]
theorem ni:nX (PD Cf n f):=λ_ _ _ m #[a,e,h]=>#[a,e,h.mono m]
theorem Ev.up{P R:Hp->V->Prop}(h:Ev H0 p wl ys Hb σ t P)(k:∀H v,P H v->R H v):Ev H0 p wl ys Hb σ t R:=λH Q m W q=>h H Q m W λv a x=>q v a (k _ _ x)
theorem zP{P:Hp->V->Prop}(e:σ[i]?=δ (δ v))(M:nX P)(h:P Hb v):Ev H0 p wl ys Hb σ (bK i) P:=λH Q m W q=>#[v,e,q v H (M _ _ _ m.t h) W .refl]
theorem Xu(h:Sg s):Ev H0 p wl ys Hb σ (tC$ .str s) PG:=λH Q m W q=>q _ H #[s,Z,h] W .refl
theorem KZ{K:γ}(e:σ[j]?=δ (↑wl))(a:0<=i)(b:i < (ys.length:Int)):Ev H0 p wl ys Hb σ (g9 (vU K) (bK j)$ tC$ .int i) (PN ys):=λH Q m W q=>by let⟨y,c,h⟩:=QT (ys:=ys) a b;exact#[_,e,wl,_,_,_,Z,Z,aI.of W.w,h,q _ H #[y,Z,c] W .refl]
theorem zm{Q:VK}{P:Hp->V->Prop}(W:Wd H0 H p wl ys)(q:∀v h,P h v->Wd H0 h p wl ys->Fw p H h->Q v h)(n:H r=θ)(x:ax H (af H r o)->af H r o r=δ o->P (af H r o) (.ref r)):Q (.ref r) (af H r o):=
 q _ _ (x (aa.tm$ je n) jb) (W.same$ je n) (.new n)
abbrev Ix(n:Int):TE:=ff bq [] E0 (ar (bK 0)$ ar (tC$ .int n) bh)
def PK(n:Int)(_:Hp)(v:V):Prop:=∃d:Int,v= .int d/\0<=d/\d < n
theorem Qn(e:σ[0]?=δ (↑p))(h:1<=n)(c:n<=1000):Ev H0 p wl ys Hb σ (Ix n) (PK n):=λH Q m W q=>
 #[_,e,p,n,Z,W.B,VV,VV,λd f D a b E=>q _ _ #[d,Z,D,a] (W.but b$ aH.of_eq E) (.but W.B$ aH.of_eq E)]
theorem Zf(h:Ev H0 p wl ys Hb σ t (PK n))(g:n<=1000000000000000000):Ev H0 p wl ys Hb σ (cY$ ar (tC$ .str "num")$ ar t bh) (PT ys 0):=λH Q m W q=>
 h H _ m W λv i #[d,e,D,j] a b=>#[cp,λr N=>zm (P:=PT ys 0) a (λV c x f k=>q V c x f (b.trans k)) N λ_ z=>#[r,Z,Fo (by rw[z,e]) D VV]]
theorem Lm(h:0<=n)(a:n < m):Ev H0 p wl ys Hb σ (tC$ .int n) (PK m):=λH Q _ W q=>q _ H #[n,Z,h,a] W .refl
theorem Yp(h:Ev H0 p wl ys Hb σ t (PK n))(c:0<=m):Ev H0 p wl ys Hb σ (g9 (AG λi j=>rz (i+j)) (tC$ .int m) t) (PK$ m+n):=λH Q M W q=>
 h H _ M W λv a #[d,e,D,f] b k=>#[m,d,Z,e,q _ a #[m+d,Z,VV,VV] b k]
theorem GN(h:Ev H0 p wl ys Hb σ t (PN ys)):Ev H0 p wl ys Hb σ (cY$ ar (tC$ .str "var")$ ar t bh) (PT ys 0):=λH Q m W q=>
 h H _ m W λv i #[d,e,a] b c=>#[cp,λr n=>zm (P:=PT ys 0) b (λV f x g k=>q V f x g (c.trans k)) n λ_ z=>#[r,Z,xM (by rw[z,e]) a]]
theorem Qo{n:Nat}(h:Ev H0 p wl ys Hb σ T PG)(f:Ev H0 p wl ys Hb σ g (PT ys j))(i:Ev H0 p wl ys Hb σ l (PT ys k))(o:j < n)(u:k < n):Ev H0 p wl ys Hb σ (cY$ ar (tC$ .str "op")$ ar T$ ar g$ ar l bh) (PT ys n):=λH Q m W q=>
 h H _ m W λM v #[s,E,X] y c=>f v _ (m.trans c) y λO A #[a,B,C] D d=>i A _ ((m.trans c).trans d) D λR S #[b,F,G] I e=>#[pU,λr N=>zm (P:=PT ys n) I (λV J x L k=>q V J x L (((c.trans d).trans e).trans k)) N λt z=>
  #[r,Z,IA (by rw[z,E,B,F]) X ((C.mono e.t).mono t) (G.mono t) o u]]
theorem yC{w:ρ}{T a:TE}{A B R:Hp->V->Prop}(M:nX A)(d:nX B)(e:Ev H0 p wl ys Hb σ T A)(f:Ev H0 p wl ys Hb σ a B)(h:∀H r u v,H r=δ (.tup [.str w,u,v])->A H u->B H v->R H (.ref r)):Ev H0 p wl ys Hb σ (cY$ ar (tC$ .str w)$ ar T$ ar a bh) R:=λH Q m W q=>
 e H _ m W λC g X i b=>f g _ (m.trans b) i λD E j l c=>#[ie,λr n=>zm (P:=R) l (λo s x y k=>q o s x y ((b.trans c).trans k)) n λt z=>h _ _ _ _ z (M _ _ _ t$ M _ _ _ c.t X) (d _ _ _ t j)]
theorem Lk{w:ρ}{T:TE}{A R:Hp->V->Prop}(M:nX A)(a:Ev H0 p wl ys Hb σ T A)(h:∀H r u,H r=δ (.tup [.str w,u])->A H u->R H (.ref r)):Ev H0 p wl ys Hb σ (cY$ ar (tC$ .str w)$ ar T bh) R:=λH Q m W q=>
 a H _ m W λf g X b c=>#[cp,λr n=>zm (P:=R) b (λv d x e k=>q v d x e (c.trans k)) n λt z=>h _ _ _ z (M _ _ _ t X)]
theorem Ll{w:ρ}{T d e:TE}{A B C R:Hp->V->Prop}(M:nX A)(f:nX B)(g:nX C)(i:Ev H0 p wl ys Hb σ T A)(j:Ev H0 p wl ys Hb σ d B)(l:Ev H0 p wl ys Hb σ e C)(h:∀H r u v x,H r=δ (.tup [.str w,u,v,x])->A H u->B H v->C H x->R H (.ref r)):Ev H0 p wl ys Hb σ (cY$ ar (tC$ .str w)$ ar T$ ar d$ ar e bh) R:=λH Q m W q=>
 i H _ m W λL n X o a=>j n _ (m.trans a) o λO s y D b=>l s _ ((m.trans a).trans b) D λS U E F c=>#[pU,λr N=>zm (P:=R) F (λG I x J k=>q G I x J (((a.trans b).trans c).trans k)) N λt z=>h _ _ _ _ _ z (M _ _ _ t$ M _ _ _ (b.trans c).t X) (f _ _ _ t$ f _ _ _ c.t y) (g _ _ _ t E)]
theorem Dv:nX (PN ys):=λ_ _ _ _ h=>h
theorem BQ{t T:TE}{k:Nat}(h:Ev H0 p wl ys Hb σ t (PN ys))(b:Ev H0 p wl ys Hb σ T (PT ys k))(c:k < 6):Ev H0 p wl ys Hb σ (cY$ ar (tC$ .str "read")$ ar t$ ar T bh) (λH v=>gm Cf H ys 0 v):=yC Dv bg h b λH r u v z #[x,e,d] #[a,E,f]=>Ik (by rw[z,e,E]) d f c
theorem BR{t T:TE}{k:Nat}(h:Ev H0 p wl ys Hb σ t (PN ys))(b:Ev H0 p wl ys Hb σ T (PT ys k))(c:k < 6):Ev H0 p wl ys Hb σ (cY$ ar (tC$ .str "set")$ ar t$ ar T bh) (λH v=>gm Cf H ys 0 v):=yC Dv bg h b λH r u v z #[x,e,d] #[a,E,f]=>Il (by rw[z,e,E]) d f c
theorem GQ{t T:TE}{j k:Nat}(h:Ev H0 p wl ys Hb σ t (PT ys j))(b:Ev H0 p wl ys Hb σ T (PT ys k))(c:j < 6)(d:k < 6):Ev H0 p wl ys Hb σ (cY$ ar (tC$ .str "write")$ ar t$ ar T bh) (λH v=>gm Cf H ys 0 v):=yC bg bg h b λH r u v z #[x,e,f] #[a,E,g]=>Im (by rw[z,e,E]) f g c d
theorem ul{t:TE}{k:Nat}(h:Ev H0 p wl ys Hb σ t (PT ys k))(b:k < 6):Ev H0 p wl ys Hb σ (cY$ ar (tC$ .str "give")$ ar t bh) (λH v=>gm Cf H ys 0 v):=Lk bg h λH r v z #[a,e,c]=>Ij (by rw[z,e]) c b
theorem GP{t T:TE}{k n:Nat}(h:Ev H0 p wl ys Hb σ t (PT ys k))(b:Ev H0 p wl ys Hb σ T (PB Cf ys 0 n))(c:k < 6)(i:n<=20):Ev H0 p wl ys Hb σ (cY$ ar (tC$ .str "while")$ ar t$ ar T bh) (λH v=>gm Cf H ys 1 v):=
 yC bg ou h b λH r u v z #[a,e,d] #[q,x,E,f,g,j]=>xp (by rw[z,e,E]) d f g VV c
theorem GF(h:Ev H0 p wl ys Hb σ T (λH v=>gm Cf H ys d v))(c:Ev H0 p wl ys Hb σ e (λH v=>gm Cf H ys d v)):Ev H0 p wl ys Hb σ (cY$ ar T$ ar e bh) (PB Cf ys d 2):=λH Q m W q=>
 h H _ m W λs f X g a=>c f _ (m.trans a) g λu y i j b=>#[cp,λr n=>zm (P:=PB Cf ys d 2) j (λV l x o k=>q V l x o ((a.trans b).trans k)) n λt z=>#[r,_,Z,z,Q6 ((X.mono b.t).mono t)$ Yo$ i.mono t,M0 2]]
theorem uj(h:Ev H0 p wl ys Hb σ T (λH v=>gm Cf H ys d v))(e:Ev H0 p wl ys Hb σ f (λH v=>gm Cf H ys d v))(g:Ev H0 p wl ys Hb σ i (λH v=>gm Cf H ys d v)):Ev H0 p wl ys Hb σ (cY$ ar T$ ar f$ ar i bh) (PB Cf ys d 3):=λH Q m W q=>
 h H _ m W λC j X l a=>e j _ (m.trans a) l λD n o s b=>g n _ ((m.trans a).trans b) s λE F u y c=>#[ie,λr N=>zm (P:=PB Cf ys d 3) y (λV A x B k=>q V A x B (((a.trans b).trans c).trans k)) N λt z=>#[r,_,Z,z,Q6 ((X.mono (b.trans c).t).mono t)$ Q6 ((o.mono c.t).mono t)$ Yo$ u.mono t,M0 3]]
theorem BP(h:Ev H0 p wl ys Hb σ T (FG f))(g:Ev H0 p wl ys Hb σ i (PP m))(j:Ev H0 p wl ys Hb σ l (PB Cf ys 1 n))(O:n<=100)(o:ys.length<=20):Ev H0 p wl ys Hb σ (cY$ ar T$ ar i$ ar l bh) (PD Cf m f):=λH Q M W q=>
 h H _ M W λv s (E:v= .str f) u c=>g s _ (M.trans c) u λR y #[a,S,A,B,L] C d=>j y _ ((M.trans c).trans d) C λU Y #[b,xs,D,F,X,l4] G e=>#[ie,λr N=>zm (P:=PD Cf m f) G (λV I x J k=>q V I x J (((c.trans d).trans e).trans k)) N λt z=>
  #[r,Z,BO (f:=f) (by rw[z,E,A,D]) (t _ _$ e.t _ _ B) L (t _ _ F) (X.mono t) VV o]]
theorem um(h:Ev H0 p wl ys Hb σ T (PN ys)):Ev H0 p wl ys Hb σ (cY$ ar T bh) (PP 1):=λH Q m W q=>
 h H _ m W λV f #[X,e,_] a b=>#[iZ,λr n=>zm (P:=PP 1) a (λv c x d k=>q v c x d (b.trans k)) n λt z=>#[r,[X],Z,by rw[z,e];rfl,Z]]
theorem gm.lift(h:gm Cf H ys 0 v):gm Cf H ys 1 v:=h.up
theorem PB.lift(h:PB Cf ys 0 n H v):PB Cf ys 1 n H v:=let #[a,x,e,c,#[b,B,d,g,i],f]:=h;#[a,x,e,c,#[b,B,d,VV,VV],f]
theorem qQ{D:bV}{P:Hp->V->Prop}(W:Wd H0 H p wl ys)(h:Ev H0 p wl ys H σ t P)(q:∀v a,P a v->Wd H0 a p wl ys->Fw p H a->D.nx (σ.set i$ δ v) a):fe t (bQ i) D σ H:=h H _ .refl W q
theorem EB{D:bV}{P:Hp->V->Prop}(W:Wd H0 H p wl ys)(h:Ev H0 p wl ys H σ t P)(q:∀v a,P a v->Wd H0 a p wl ys->D.rt v a):gg t D σ H:=h H _ .refl W λv a x b _=>q v a x b
end
abbrev mf:cv:=bP 12
abbrev mw:cv:=bP 13
abbrev aZ:=List (bH×V)
def fu(x:Int):Prop:=0<=x/\x < 1000000000000000000
def GT(k:aZ):Prop:=∀p∈k,∃i,p.2= .int i/\fu i
theorem GT.nil:GT []:=λ_ h=>absurd h Ny
theorem GT.put(h:GT a)(k:bH)(H:fu i):GT (a9 a k$ .int i):=by
 intro p hp;unfold a9 at hp;split at hp
 .let⟨q,b,rfl⟩:=dN.mp hp;by_cases e:q.1=k
  .rw[M7 e];exact#[i,Z,H]
  .rw[Na e];exact h q b
 .rcases Ξ.mp hp with hp |hp
  .exact h p hp
  .rw[υ.mp hp];exact#[i,Z,H]
theorem GT.val(h:GT a)(e:b6 a k=δ v):∃i,v= .int i/\fu i:=by unfold b6 at e;let⟨p,H,rfl⟩:=dg.mp e;exact h p$ List.mem_of_find?_eq_some H
noncomputable def look(a:aZ)(k:bH)(z:Int):Int:=match b6 a k with
 |some (.int i)=>i
 |_=>z
theorem Ky(h:GT a)(k:bH)(z:Int):(b6 a k).getD (.int z)= .int (look a k z):=by
 unfold look;cases e:b6 a k with
 |none=>rfl
 |some v=>let⟨i,rfl,_⟩:=h.val e;rfl
theorem rJ(h:GT a)(e:b6 a k=δ v)(z:Int):v= .int (look a k z):=by unfold look;let⟨i,rfl,_⟩:=h.val e;rw[e]
theorem rH(e:b6 a k=θ)(z:Int):look a k z=z:=by unfold look;rw[e]
theorem J9(h:GT a)(H:fu z):fu (look a k z):=by
 unfold look;cases e:b6 a k with
 |none=>exact H
 |some v=>let⟨i,rfl,b⟩:=h.val e;exact b
theorem Jc:fu 0:=#[VU,VU]
noncomputable def jn(i:Nat)(x y:Int):Int:=match i with
 |0=>(x+y) % 1000000000000000000
 |1=>(x - y) % 1000000000000000000
 |2=>x*y % 1000000000000000000
 |3=>if y=0 then 0 else x / y
 |4=>if x < y then 1 else 0
 |_=>if x=y then 1 else 0
noncomputable def Tm.ev(k:aZ):Tm->Int
 | .num n=>n
 | .var x=>look k (.inr x) 0
 | .op i a b=>jn i (a.ev k) (b.ev k)
theorem GY(H:fu x)(c:fu y):fu (jn i x y):=by
 let a:(1000000000000000000:Int)≠0:=by decide
 let b:(0:Int) < 1000000000000000000:=by decide
 match i with
 |0=>exact#[N8 _ a,NK _ b]
 |1=>exact#[N8 _ a,NK _ b]
 |2=>exact#[N8 _ a,NK _ b]
 |3=>
  show fu (if y=0 then 0 else x / y);by_cases h:y=0
  .rw[M7 h];exact#[VU,VU]
  .rw[Na h];let e:=c.1;let d:0 < y:=by omega
   refine#[UT H.1 VV,Int.lt_of_le_of_lt ?_ H.2];exact Int.ediv_le_self _ H.1
 |4=>show fu (if x < y then 1 else 0);split<;>exact#[VU,VU]
 |n+5=>show fu (if x=y then 1 else 0);split<;>exact#[VU,VU]
theorem qX(g:GT k):∀{t:Tm},t.Good y->fu (t.ev k)
 | .num _,h=>h
 | .var x,_=>J9 g Jc
 | .op _ _ _,h=>GY (qX g h.2.1) (qX g h.2.2)
inductive iR(b:List V)(H:Hp)(Q:VK)(a:XK):Prop
 |mk(i:Nat)(x y:Int)(_:b=[.str (LH i),.int x,.int y])(_:i < 6)(_:fu x)(_:fu y)(_:Q (.int (jn i x y)) H)
def Ml(K:γ)(H:Hp)(T:Tm)(a:η):Prop:=bn H T a∨(T= .num 0/\aB K H a [.str "num",.int 0])
inductive c7(K:γ)(n:Nat)(e:List V)(H:Hp)(Q:VK)(b:XK):Prop
 |mk(a d:η)(T:Tm)(f:List ρ)(c:aZ)(_:e=[.ref a,.ref d])(_:Ml K H T a)(_:T.depth < n)(_:T.Good f)(_:H d=δ (.dK c))(_:GT c)(_:Q (.int (T.ev c)) H)
theorem wH:ai z22z z22z (ae mf):=bN
theorem rV(F:tf K "joined" mf f b)(m:mg "TOP"=δ (.int 1000000000000000000 t)):ah P w K mg base aE 1 f b z22z iR:=by
 refine F.ok wH (λe A o s H d Q E r h=>?_)
 let⟨i,x,y,rfl,u,g,j,q⟩:=h;refine#[_,(jd (jy (jW$ pv 0) (jg$ jm$ jx zg (jx jX (pv 1)$ pv 2)$ qY (v:=.int 1000000000000000000) Z m #[_,Z]) jo)$ jd (jy (jW$ pv 0) (jg$ jm$ jx zg (jx kP (pv 1)$ pv 2)$ qY (v:=.int 1000000000000000000) Z m #[_,Z]) jo)$ jd (jy (jW$ pv 0) (jg$ jm$ jx zg (jx zA (pv 1)$ pv 2)$ qY (v:=.int 1000000000000000000) Z m #[_,Z]) jo)$ jd (jy (jW$ pv 0) (jg$ jm$ kQ (zY$ pv 2) jf$ jx Kv (pv 1)$ pv 2) jo)$ jd (jy (jW$ pv 0) (jg$ jm$ kQ (jz Ql (pv 1) (pv 2)$ aF _) jf jf) jo)$ jg$ jm$ kQ (jz qW (pv 1) (pv 2)$ aF _) jf jf),?_];let⟨k,l⟩:=g;let⟨n,p⟩:=j;rcases(by omega:i=0∨i=1∨i=2∨i=3∨i=4∨i=5) with rfl |rfl |rfl |rfl |rfl |rfl
 .refine#[_,Z,Z,_,Z,cn VX ?_];exact#[_,Z,_,Z,_,_,Z,Z,_,_,Z,Z,(by show(0:Int) < 1000000000000000000;decide),q]
 .refine#[_,Z,Z,_,Z,aT VX ?_];refine#[_,Z,Z,_,Z,cn VX ?_];exact#[_,Z,_,Z,_,_,Z,Z,_,_,Z,Z,(by show(0:Int) < 1000000000000000000;decide),q]
 .refine#[_,Z,Z,_,Z,aT VX ?_];refine#[_,Z,Z,_,Z,aT VX ?_];refine#[_,Z,Z,_,Z,cn VX ?_];exact#[_,Z,_,Z,_,_,Z,Z,.inl #[VV,VV],_,_,Z,Z,(by show(0:Int) < 1000000000000000000;decide),q]
 .refine#[_,Z,Z,_,Z,aT VX ?_];refine#[_,Z,Z,_,Z,aT VX ?_];refine#[_,Z,Z,_,Z,aT VX ?_];refine#[_,Z,Z,_,Z,cn VX ?_];let a:Q (.int (if y=0 then 0 else x / y)) H:=q;refine#[_,Z,Z,_,Z,?_];refine bZ (λc=>?_) (λc=>?_)
  .let C:rz y=rz 0:=NV c;injection C with C;rw[M7 C]at a;exact a
  .let C:y≠0:=λz=>c (by rw[z];rfl);rw[Na C]at a;exact#[_,Z,_,Z,_,_,Z,Z,#[VV,VV],a]
 .refine#[_,Z,Z,_,Z,aT VX ?_];refine#[_,Z,Z,_,Z,aT VX ?_];refine#[_,Z,Z,_,Z,aT VX ?_];refine#[_,Z,Z,_,Z,aT VX ?_];refine#[_,Z,Z,_,Z,cn VX ?_];let a:Q (.int (if x < y then 1 else 0)) H:=q;refine#[_,Z,_,Z,_,_,Z,Z,_,Z,?_];refine bZ (λc=>?_) (λc=>?_)
  .rw[M7$ NV c]at a;exact a
  .rw[Na$ RQ$ mL.mpr c]at a;exact a
 .refine#[_,Z,Z,_,Z,aT VX ?_];refine#[_,Z,Z,_,Z,aT VX ?_];refine#[_,Z,Z,_,Z,aT VX ?_];refine#[_,Z,Z,_,Z,aT VX ?_];refine#[_,Z,Z,_,Z,aT VX ?_];let a:Q (.int (if x=y then 1 else 0)) H:=q;refine#[_,Z,_,Z,Z,_,Z,?_];refine bZ (λc=>?_) (λc=>?_)
  .let C:rz x=rz y:=NV c;injection C with C;rw[M7 C]at a;exact a
  .let C:x≠y:=λz=>c (by rw[z];exact M9 Z);rw[Na C]at a;exact a
theorem A7:ai z10z z10z (ae mw):=bN
theorem vt(F:tf K "worth" mw f p)(C:Cl P w K mg base (n+1) f p z10z (c7 K n) "worth")(v:Cl P w K mg base 1 R B z22z iR "joined"):ah P w K mg base aE (n+2) f p z10z (c7 K$ n+1):=by
 refine F.ok A7 (λD A o s H V Q E j h=>?_)
 let⟨a,d,T,y,c,rfl,t,I,g,l,G,q⟩:=h;refine#[_,(jd (jy (jW$ jv$ pv 0) (jg$ jm$ jv$ pv 0) jo)$ jd (jy (jW$ jv$ pv 0) (jg$ jm$ @Kw _ _ _ _ _ _ _ _ _ (zI j) (pv 1) (jv$ pv 0) jf #[VY,VY,VY,VY]) jo)$ jg$ jm$ v.e j.m$ ja (jv$ pv 0)$ ja (C.e j$ ja (jv$ pv 0)$ ja (pv 1) jc)$ ja (C.e j$ ja (jv$ pv 0)$ ja (pv 1) jc) jc),?_];cases T with
 |num m=>
  let b:aB K H a [.str "num",.int m]:=t.elim (λh=>aB.of h) λz=>by cases z.1;exact z.2
  refine#[_,Z,a,_,_,_,Z,Z,b,Z,Z,_,Z,cn VX ?_];exact#[_,Z,a,_,_,_,Z,Z,b,Z,q]
 |var x=>
  let b:H a=δ (.tup [.str "var",.str x]):=t.resolve_right λz=>by cases z.1
  refine(jp b Z #[Z,_,Z,aT VX ?_]);refine(jp b Z #[Z,_,Z,cn VX ?_]);refine#[_,Z,d,Z,.inl #[c,.inl l],jp b Z #[_,gq.k (k:=Sum.inr x) l,?_]];rw[Ky G];exact q
 |op i r u=>
  let⟨J,L,b,M,N⟩:=t.resolve_right λz=>by cases z.1
  let O:max r.depth u.depth+1 < n+1:=I;refine(jp b Z #[Z,_,Z,aT VX ?_]);refine(jp b Z #[Z,_,Z,aT VX ?_]);refine(jp b Z ?_);refine(jp b Z #[_,Z,J,d,r,y,c,Z,.inl M,VV,g.2.1,l,G,?_]);refine(jp b Z #[_,Z,L,d,u,y,c,Z,.inl N,VV,g.2.2,l,G,?_]);exact#[i,_,_,Z,g.1,qX G g.2.1,qX G g.2.2,q]
theorem u5:ah P w K mg base aE 1 f e z10z (c7 K 0):=by
 let n:∀v H Q E,¬c7 K 0 v H Q E:=λv H Q E h=>by let⟨a,d,T,y,k,_,_,c,_⟩:=h;exact absurd c$ P2 _
 exact#[λv H Q E h=>absurd h (n v H Q E),λA o s H b u v Q E _ _ _ _ h=>absurd h (n v H Q E)]
theorem xS(F:tf K "worth" mw f a)(b:aC K a z10z [])(m:mg "worth"=↑f)(c:Cl P w K mg base 1 e d z22z iR "joined"):
  ∀n:Nat,ah P w K mg base aE (n+1) f a z10z (c7 K n)
 |0=>u5
 |n+1=>vt F #[(xS F b m c n),b,F.kp,m] c
def TV(H:Hp)(y:List ρ)(t:η)(T:Tm):Prop:=bn H T t/\dE y T
theorem TV.mono(k:ax H a)(h:TV H y t T):TV a y t T:=#[h.1.mono k,h.2]
inductive Gl where
 |give (t:η) (T:Tm) |nought |go (n:Nat)
structure WD where
 sets:List (ρ×η×Tm)
 goal:Gl
noncomputable def Gl.gol(N:η):Gl->IG
 | .give t _=>.give t
 | .nought=>.give N
 | .go n=>.go (n:Int)
noncomputable def WD.wy(n:η)(w:WD):Wy:=#[w.sets.map λs=>(s.1,s.2.1),w.goal.gol n]
def FT(H:Hp)(y:List ρ)(m:Nat):Gl->Prop
 | .give t T=>TV H y t T
 | .nought=>True
 | .go n=>n < m
structure xZ(H:Hp)(ys:List ρ)(m N:Nat)(w:WD):Prop where
 sets:∀s∈w.sets,TV H ys s.2.1 s.2.2
 len:w.sets.length<=N
 goal:FT H ys m w.goal
def nh(H:Hp)(y:List ρ)(n:η)(m N:Nat)(w:Wy):Prop:=∃d:WD,d.wy n=w/\xZ H y m N d
def Ma(F:iD)(H:Hp)(y:List ρ):Dd->Prop
 | .st p=>∃(l:Lf) (v:List V),H p=δ (.tup v)/\yh H l v/\l.Ok y/\l.isCut=μ/\l.Cs F
 | .ask t=>∃T,TV H y t T
noncomputable def Dd.ways:Dd->Nat
 | .st _=>1
 | .ask _=>2
structure yc(F:iD)(H:Hp)(ys:List ρ)(nA:η)(m N:Nat)(c:Ct):Prop where
 mem:∀x,c.M x->x∈ys
 deed:Ma F H ys c.d
 ways:∀w∈c.ws,nh H ys nA m N w
 len:c.ws.length=c.d.ways
structure xY(H:Hp)(ys:List ρ)(nA:η)(m N:Nat)(pc:Pc):Prop where
 mem:∀x,pc.M x->x∈ys
 way:nh H ys nA m N pc.w
section
variable {F:iD}{H H':Hp}{ys:List ρ}{nA:η}{m N N':Nat}
theorem FT.mono(k:ax H H')(h:FT H ys m g):FT H' ys m g:=by
 cases g with
 |give t T=>exact TV.mono k h
 |nought=>trivial
 |go n=>exact h
theorem xZ.mono(k:ax H H'){w:WD}(h:xZ H ys m N w):xZ H' ys m N w:=#[λs a=>(h.sets s a).mono k,h.len,h.goal.mono k]
theorem nh.up(a:N<=N'){w:Wy}(h:nh H ys nA m N w):nh H ys nA m N' w:=let #[d,e,v]:=h;#[d,e,v.sets,Ng v.len a,v.goal]
theorem yc.up(a:N<=N')(h:yc F H ys nA m N c):yc F H ys nA m N' c:=#[h.mem,h.deed,λw b=>(h.ways w b).up a,h.len]
theorem xY.up(a:N<=N')(h:xY H ys nA m N p):xY H ys nA m N' p:=#[h.mem,h.way.up a]
theorem Yq{n:Nat}(a:k=(n:Int))(b:n < m):nh H ys nA m N #[[],.go k]:=#[#[[],.go n],by rw[a];rfl,(λ_ h=>absurd h Ny),M6 _,b]
theorem Ki:∀(b:Bd) {X:List V} {g:Pc} {fs:List Ct} {N:Nat},dJ H b X->b.Ok ys->b.Cs F->xY H ys nA m N g->(∀c∈fs,yc F H ys nA m N c)->fs.length+b.cuts<=m->
  xY H ys nA m (N+b.size) (pB (m:Int) b g fs).1/\∀c∈(pB (m:Int) b g fs).2,yc F H ys nA m (N+b.size) c
 | .nil,_,_,_,_,_,_,_,o,y,_=>#[o,y]
 | .lf p l r,X,g,fs,N,C,i,k,o,y,D=>by
  let⟨vs,zs,_,h1,I,h3⟩:=C;let E:fs.length+(l.cut+r.cuts)<=m:=D;let⟨R,A⟩:=Ki r h3 i.2 k.2 o y VV;let hl:=kj (m:Int) r g fs;let S:N+r.size<=N+(r.size+1):=by omega
  let j:=Lf.use_in i.1 R.mem;let J:l.isCut=μ->l.cut=1->xY H ys nA m (N+(r.size+1)) #[l.use (pB (m:Int) r g fs).1.M,#[[],.go ((m:Int) - ((pB (m:Int) r g fs).2.length:Int) - 1)]]/\∀c∈(pB (m:Int) r g fs).2++[#[l.use (pB (m:Int) r g fs).1.M,.st p,[(pB (m:Int) r g fs).1.w]]],yc F H ys nA m (N+(r.size+1)) c:=λG h0=>
   #[#[j,Yq (n:=m - (fs.length+r.cuts) - 1) (by rw[hl];omega) VV],λc L=>by
    rcases Ξ.mp L with z |z
    .exact(A c z).up S
    .rw[υ.mp z];exact#[j,#[l,vs,h1,I,i.1,G,k.1],λw hw=>by rw[υ.mp hw];exact R.way.up S,Z]]
  show xY H ys nA m (N+(r.size+1)) (pL (m:Int) p l$ pB (m:Int) r g fs).1/\∀c∈(pL (m:Int) p l$ pB (m:Int) r g fs).2,yc F H ys nA m (N+(r.size+1)) c;cases l with
  |gv t T=>exact#[#[j,#[#[[],.give t T],Z,(λ_ h=>absurd h Ny),M6 _,I.2,i.1]],λc G=>(A c G).up S]
  |st x t T=>
   refine#[#[j,?_],λc G=>(A c G).up S];show nh H ys nA m _ (iK x t (pB (m:Int) r g fs).1);unfold iK;split
   .let⟨d,e,v⟩:=R.way;refine#[#[(x,t,T)::d.sets,d.goal],by rw[<- e];rfl,λs hs=>?_,OZ v.len,v.goal];rcases Φ.mp hs with rfl |hs
    .exact#[I.2,i.1.2]
    .exact v.sets s hs
   .exact R.way.up S
  |rd x t T |wr t u T U |cl x f q ts=>exact J Z Z
 | .ite p t T a c r,X,g,fs,N,C,i,k,o,y,D=>by
  let⟨qa,qb,as,bs,zs,_,g1,O,g2,g3,Q,g5,W⟩:=C;let E:fs.length+(1+a.cuts+c.cuts+r.cuts)<=m:=D;let⟨R,A⟩:=Ki r W i.2.2.2 k.2.2 o y VV;let B:=kj (m:Int) r g fs;let⟨c1,c2⟩:=Ki c g5 i.2.2.1 k.2.1 R A VV;let h4:=kj (m:Int) c (pB (m:Int) r g fs).1 (pB (m:Int) r g fs).2;let⟨Y,a2⟩:=Ki a Q i.2.1 k.1 (R.up$ Pd _ _) c2 VV;let S:N+r.size+c.size+a.size<=N+(a.size+c.size+r.size+1):=by omega
  let j:∀x,(Bd.ite p t T a c .nil).use (pB (m:Int) r g fs).1.M x->x∈ys:=Bd.use_in #[i.1,i.2.1,i.2.2.1,trivial] R.mem;let hk:(m:Int) - ((pB (m:Int) r g fs).2.length:Int) - ((Bd.ite p t T a c .nil).cuts:Int)=((m - (fs.length+r.cuts) - (1+a.cuts+c.cuts):Nat):Int):=by show(m:Int) - _ - ((1+a.cuts+c.cuts+0:Nat):Int)=_;rw[B];omega
  unfold pB;dsimp only;refine#[#[j,Yq hk VV],λe he=>?_];rcases Ξ.mp he with z |z
  .exact(a2 e z).up S
  .rw[υ.mp z];refine#[j,#[T,O,i.1],λw hw=>?_,Z];rcases Φ.mp hw with rfl |hw
   .exact Y.way.up S
   .rw[υ.mp hw];exact c1.way.up (by show _<=N+(a.size+c.size+r.size+1);omega)
 | .loop p t T a r,X,g,fs,N,C,i,k,o,y,D=>by
  let⟨qa,as,zs,_,g1,O,g2,Q,W⟩:=C;let E:fs.length+(1+a.cuts+r.cuts)<=m:=D;let⟨R,A⟩:=Ki r W i.2.2 k.2 o y VV;let B:=kj (m:Int) r g fs;let j:∀x,(Bd.loop p t T a .nil).use (pB (m:Int) r g fs).1.M x->x∈ys:=Bd.use_in #[i.1,i.2.1,trivial] R.mem;let hk:(m:Int) - ((pB (m:Int) r g fs).2.length:Int) - ((Bd.loop p t T a .nil).cuts:Int)=((m - (fs.length+r.cuts) - (1+a.cuts):Nat):Int):=by show(m:Int) - _ - ((1+a.cuts+0:Nat):Int)=_;rw[B];omega
  let pl:xY H ys nA m (N+r.size) #[(Bd.loop p t T a .nil).use (pB (m:Int) r g fs).1.M,#[[],.go ((m:Int) - ((pB (m:Int) r g fs).2.length:Int) - ((Bd.loop p t T a .nil).cuts:Int))]]:=#[j,Yq hk VV];let⟨Y,a2⟩:=Ki a Q i.2.1 k.1 pl A VV;let S:N+r.size+a.size<=N+(a.size+r.size+1):=by omega
  unfold pB;dsimp only;refine#[pl.up (by show _<=N+(a.size+r.size+1);omega),λe he=>?_];rcases Ξ.mp he with z |z
  .exact(a2 e z).up S
  .rw[υ.mp z];refine#[j,#[T,O,i.1],λw hw=>?_,Z];rcases Φ.mp hw with rfl |hw
   .exact Y.way.up S
   .rw[υ.mp hw];exact R.way.up (by show _<=N+(a.size+r.size+1);omega)
end
def bY(n:η)(d:Df):List Ct:=(hZ n d).2.reverse
theorem ZD(n:η)(d:Df):(bY n d).length=d.b.cuts:=by unfold bY;rw[TY];exact(kj _ _ _ _).trans (Pa _)
theorem Cm{nA:η}{d:Df}(f:dJ H d.b B)(g:d.b.Ok y):xY H y nA d.b.cuts d.b.size (hZ nA d).1/\∀c∈bY nA d,yc d.b.calls H y nA d.b.cuts d.b.size c:=by let p:xY H y nA d.b.cuts 0 (Lw nA):=#[λx i=>absurd i Ny,#[[],.nought],Z,(λ_ h=>absurd h Ny),M0 _,trivial];let⟨a,e⟩:=Ki (m:=d.b.cuts) d.b f g (zF d.b) p (fs:=[]) (λ_ h=>absurd h Ny) (by show 0+_<=_;omega);rw[Pa]at a e;exact#[a,λc j=>e c (List.mem_reverse.mp j)]
theorem QN{M:ρ->Prop}{y:List ρ}(h:∀x,M x->x∈y):(canon M).length<=y.length:=by
 by_cases e:∃s,Nm s M
 .let⟨s,H⟩:=e;rw[<- H.canon];exact H.len h
 .unfold canon;rw[dif_neg e];exact M6 _
noncomputable def dm:List (ρ×η×Tm)->aZ->aZ
 | [],k=>k
 |s::r,k=>dm r (a9 k (.inr s.1) (.int (s.2.2.ev k)))
def eM(N:η)(d:Df)(n:Nat):List ρ:=match (bY N d)[n]? with
 |some c=>canon c.M
 |none=>[]
noncomputable def uP(N:Nat->List ρ)(k:aZ):Gl->Tr
 | .give _ T=>aA [aK "give",aq (T.ev k)]
 | .nought=>aA [aK "give",aq 0]
 | .go n=>aA [aK "go",aq (n:Int),aA ((N n).map λx=>aq (look k (.inr x) 0))]
theorem qf{H:Hp}{ys:List ρ}:∀{ss:List (ρ×η×Tm)} {k:aZ},(∀s∈ss,TV H ys s.2.1 s.2.2)->GT k->GT (dm ss k)
 | [],_,_,g=>g
 |s::r,k,h,g=>qf (H:=H) (ys:=ys) (ss:=r) (λS a=>h S (Nv _ a)) (g.put _ (qX g (h s No).2.1))
theorem sq{S:List (ρ×η×Tm)}:∀{i:Nat} {s:ρ×η×Tm} {k:aZ},S[i]?=δ s->dm (S.take$ i+1) k=a9 (dm (S.take i) k) (.inr s.1) (.int$ s.2.2.ev$ dm (S.take i) k):=by
 induction S with
 |nil=>intro i s k h;simp at h
 |cons a r I=>
  intro i s k h;cases i with
  |zero=>cases h;rfl
  |succ i=>exact I (by simpa using h)
theorem zT{kvs:aZ}{k:bH}{v:V}:(a9 kvs k v).length<=kvs.length+1:=by
 unfold a9;split
 .rw[MY];exact NW _
 .rw[MZ];exact M0 _
theorem XS:∀{ss:List (ρ×η×Tm)} {k:aZ},(dm ss k).length<=k.length+ss.length
 | [],_=>M0 _
 |s::r,k=>by let h:=XS (ss:=r) (k:=a9 k (.inr s.1) (.int$ s.2.2.ev k));let H:=zT (kvs:=k) (k:=.inr s.1) (v:=.int (s.2.2.ev k));show(dm r _).length<=k.length+(r.length+1);omega
noncomputable def aP(n:List ρ)(i:List Int):aZ:=dy [] ((n.map Sum.inr).zip$ i.map rz)
theorem XT:∀{m:aZ} {k:aZ},GT k->GT m->GT (dy k m)
 | [],_,g,_=>g
 |p::r,k,g,h=>by
  let⟨i,e,H⟩:=h p No;let E:a9 k p.1 p.2=a9 k p.1 (.int i):=by rw[e]
  show GT (dy (a9 k p.1 p.2) r);rw[E];exact XT (g.put _ H) λq a=>h q (Nv _ a)
theorem qR(h:∀i∈I,fu i):GT (aP n I):=by refine XT GT.nil λp H=>?_;let⟨i,a,e⟩:=dN.mp (RO H).2;exact#[i,e.symm,h i a]
theorem ZE{ns:List ρ}{is:List Int}:(aP ns is).length<=ns.length:=by let h:=qH ((ns.map Sum.inr).zip$ is.map rz) [];rw[Sx,MY]at h;show(dy [] _).length<=_;let H:(dy [] ((ns.map Sum.inr).zip$ is.map rz)).length<=0+min ns.length (is.map rz).length:=h;omega
abbrev oC:cv:=bP 23
abbrev me:cv:=bP 24
abbrev gE:cv:=bP 28
abbrev md:cv:=bP 29
abbrev iF:cv:=bP 30
abbrev mq:cv:=bP 31
structure mZ(H:Hp)(nA:η)(d:Df)(ys:List ρ)(v:V):Prop where
 tr:aR H (fz nA d) v []
 bd:∃bs,dJ H d.b bs
 ok:d.b.Ok ys
 y20:ys.length<=20
 sz:d.b.size<=3000
structure FR(H:Hp)(nA:η)(d:Df)(ys:List ρ)(c:Ct)(ka na wa:η)(dv:V)(wvs:List V):Prop where
 at':H ka=δ (.tup [.ref na,dv,.ref wa])
 nms:H na=δ (.tup ((canon c.M).map ry))
 deed:aR H (IP c.d) dv []
 wat:H wa=δ (.tup wvs)
 ways:aR H (ay$ c.ws.map ij) .non wvs
 v:yc d.b.calls H ys nA d.b.cuts d.b.size c
theorem ZF:∀{S:List ρ} {v:List V},aR H (ay$ S.map aK) .non v->v=S.map ry
 | [],v,h=>h
 |s::S,v,h=>by obtain⟨_,_,y,Y,rfl,⟨rfl,_⟩,a⟩:=h;rw[ZF a];rfl
section
variable {H H':Hp}{nA:η}{d:Df}{ys:List ρ}{v:V}
theorem mZ.mono(k:ax H H')(h:mZ H nA d ys v):mZ H' nA d ys v:=#[h.tr.mono k,let #[b,a]:=h.bd;#[b,a.mono k],h.ok,h.y20,h.sz]
theorem mZ.parts(h:mZ H nA d ys v):∃(a c:η) (W:V) (C:List V),v= .ref a/\H a=δ (.tup [.str d.f,.ref d.pa,W,.ref c])/\aR H (ij (hZ nA d).1.w) W []/\H c=δ (.tup C)/\aR H (ay ((bY nA d).map Gp)) .non C:=by obtain⟨_,a,x,rfl,i,_,_,n,Y,rfl,⟨rfl,_⟩,_,_,o,j,rfl,⟨rfl,_⟩,_,_,W,k,rfl,l,_,_,p,y,rfl,m,e⟩:=h.tr;let e:y=[]:=e;subst e;let⟨_,c,C,rfl,b,g⟩:=m;exact#[a,c,W,C,Z,i,l,b,g]
theorem mZ.cut{C:List V}(h:mZ H nA d ys v)(a:aR H (ay ((bY nA d).map Gp)) .non C){n:Nat}{c:Ct}(g:(bY nA d)[n]?=δ c):∃k N i D W,C[n]?=↑k/\FR H nA d ys c k N i D W:=by
 let L:=zi a;rw[MY]at L;let u:n < C.length:=by rw[L];exact(ν.mp g).1
 let j:C[n]?=δ C[n]:=MV u;let⟨T,b,t⟩:=qP a n _ j;rw[Ni,g]at b;cases b;let⟨B,y⟩:=h.bd;let z:=(Cm (nA:=nA) y h.ok).2 c (Nc g);generalize C[n]=x at j t;let⟨_,k,E,rfl,l,_,_,F,G,rfl,m,_,_,D,I,rfl,o,_,_,J,A,rfl,p,e⟩:=t;let e:A=[]:=e;subst e;let⟨_,N,M,rfl,f,q⟩:=m;let⟨_,i,W,rfl,r,s⟩:=p;rw[ZF q]at f;exact#[k,N,i,D,W,j,l,f,o,r,s,z]
theorem mZ.way(h:mZ H nA d ys v):nh H ys nA d.b.cuts d.b.size (hZ nA d).1.w:=let #[B,a]:=h.bd;(Cm (nA:=nA) a h.ok).1.way
theorem uZ(h:(bY nA d)[n]?=δ c):eM nA d n=canon c.M:=by unfold eM;rw[h]
end
structure Lc(H:Hp)(nA:η)(w:WD)(wa sa ga:η)(ss:List V)(wd:ρ)(u:V):Prop where
 at':H wa=δ (.tup [.ref sa,.ref ga])
 sat:H sa=δ (.tup ss)
 sets:∀(i:Nat) (x:V),ss[i]?=δ x->∃(s:ρ×η×Tm) (p:η),w.sets[i]?=δ s/\x= .ref p/\H p=δ (.tup [.str s.1,.ref s.2.1])
 len:ss.length=w.sets.length
 gat:H ga=δ (.tup [.str wd,u])
 goal:match w.goal with
  | .give t _=>wd="give"/\u= .ref t
  | .nought=>wd="give"/\u= .ref nA
  | .go n=>wd="go"/\u= .int (n:Int)
theorem Br{w:WD}(h:aR H (ij$ w.wy N) v []):∃(l S G:η) (A:List V) (W:ρ) (u:V),v= .ref l/\Lc H N w l S G A W u:=by
 obtain⟨_,r,X,rfl,C,_,_,y0,D,rfl,⟨_,s,c,rfl,E,m⟩,_,_,Y,y,rfl,b,e⟩:=h;let e:y=[]:=e;subst e;let L:=zi m;let st:∀(i:Nat) (x:V),c[i]?=δ x->∃(s:ρ×η×Tm) (p:η),w.sets[i]?=δ s/\x= .ref p/\H p=δ (.tup [.str s.1,.ref s.2.1]):=λi x F=>by let⟨tr,o,I⟩:=qP m i x F;rw[Ni]at o;let⟨q,J,rfl⟩:=dg.mp o;let a:(w.sets.map λs=>(s.1,s.2.1))[i]?=δ q:=J;rw[Ni]at a;let⟨z,M,rfl⟩:=dg.mp a;obtain⟨_,p,X,rfl,O,_,_,Q,R,rfl,⟨rfl,_⟩,_,_,U,B,rfl,⟨rfl,_⟩,e⟩:=I;let e:B=[]:=e;subst e;exact#[z,p,M,Z,O]
 let ln:c.length=w.sets.length:=by rw[L,MY];exact MY ..
 let f:∀g:Gl,w.goal=g->aR H (yK$ g.gol N) Y []->∃(G:η) (W:ρ) (u:V),Y= .ref G/\H G=δ (.tup [.str W,u])/\match g with
  | .give t _=>W="give"/\u= .ref t
  | .nought=>W="give"/\u= .ref N
  | .go n=>W="go"/\u= .int (n:Int):=λg _ b=>by
  cases g with
  |give t T |nought |go n=>obtain⟨_,gl,X,rfl,d,_,_,Q,R,rfl,⟨rfl,_⟩,_,_,U,B,rfl,⟨rfl,_⟩,e⟩:=b;let e:B=[]:=e;subst e;exact#[gl,_,_,Z,d,Z,Z]
 let⟨G,W,u,rfl,j,k⟩:=f w.goal Z b;exact#[r,s,G,c,W,u,Z,C,E,st,ln,j,k]
inductive iM(b:η)(e:List V)(H:Hp)(Q:VK)(a:XK):Prop
 |mk(v:V)(n:Nat)(d:Df)(f:List ρ)(c:Ct)(_:e=[v,.int (n:Int)])(_:mZ H b d f v)(_:(bY b d)[n]?=δ c)(_:∀(ka na wa:η) (dv:V) (wvs:List V),FR H b d f c ka na wa dv wvs->Q (.ref ka) H)
inductive iQ(f:η)(g:List V)(H:Hp)(Q:VK)(a:XK):Prop
 |mk(v:V)(n:Nat)(b:η)(d:Df)(h:List ρ)(c:Ct)(e:List Int)(_:g=[v,.int (n:Int),.ref b])(_:mZ H f d h v)(_:(bY f d)[n]?=δ c)(_:H b=δ (.tup (e.map rz)))(_:e.length=(canon c.M).length)(_:∀dd:η,H dd=θ->Q (.ref dd) (af H dd (.dK (aP (canon c.M) e))))
theorem ZG:∀(s:List ρ),(s.map (Sum.inr:ρ->bH)).map kV=s.map ry:=λs=>by rw[OQ];rfl
theorem A5:ai ["part","n"] ["part","n"] (ae oC):=bN
theorem u9{f:η}{g:hG}{N:η}(F:tf K "cut_at" oC f g):ah P w K mg base aE 1 f g ["part","n"] (iM N):=by
 refine F.ok A5 λl A o s H V Q E B h=>?_
 let⟨v,n,d,y,c,rfl,i,m,q⟩:=h;refine#[_,(jg$ jm$ ju jF (jv$ pv 0) (pv 1) (λ_ _=>Z)),?_];let⟨a,p,I,J,rfl,r,L,b,e⟩:=i.parts;let⟨t,u,x,D,W,z,C⟩:=i.cut e m;exact#[_,Z,a,_,_,_,Z,Z,aB.of r,jG (j:=3) Z,_,Z,p,_,_,_,Z,Z,aB.of b,jG z,q t u x D W C]
theorem wG:ai z9z z9z (ae me):=bN
theorem rS(F:tf K "held_at" me f g)(i:Cl P w K mg base 1 J j ["part","n"] (iM N) "cut_at")(m:mg "dict"=θ)(a:mg "zip"=θ):ah P w K mg base aE 2 f g z9z (iQ N):=by
 refine F.ok wG λp A o s H V Q E r h=>?_
 let⟨v,n,b,d,y,c,I,rfl,t,u,x,z,q⟩:=h;refine#[_,(jg$ jm$ @Zt _ _ _ _ _ _ _ _ Z m Z a Z (ja (ju jF (i.e r$ ja (pv 0)$ ja (pv 1) jc) jf (λ_ _=>Z))$ ja (pv 2) jc) VY VY VY VY),?_];refine#[_,Z,_,Z,v,n,d,y,c,Z,t,u,λB D O R W C=>#[B,_,_,_,Z,Z,aB.of C.at',eQ,_,Z,D,b,(canon c.M).map Sum.inr,_,Z,by rw[ZG];exact aB.of C.nms,aB.of x,by rw[MY,MY,z],λl G=>q l G]]
inductive Wh where
 |rd (a i:Int) |wr (a b:Int) |ask (b:Int) |cl (f:ρ) (is:List Int) (i:Int)
def CM(H:Hp)(u:V):Wh->Prop
 | .rd a i=>∃p,u= .ref p/\H p=δ (.tup [.str "read",.int a,.int i])
 | .wr a b=>∃p,u= .ref p/\H p=δ (.tup [.str "write",.int a,.int b])
 | .ask b=>∃p,u= .ref p/\H p=δ (.tup [.str "ask",.int b])
 | .cl f I i=>∃p c g e,u= .ref p/\H p=δ (.tup [.str "call",.ref c])/\H c=δ (.tup [.str f,.ref g,e,.int i])/\H g=δ (.tup (I.map rz))
theorem CM.mono{H d:Hp}(k:ax H d){u:V}{w:Wh}(h:CM H u w):CM d u w:=by
 cases w with
 |rd a i |wr a b |ask b=>let⟨p,e,h⟩:=h;exact#[p,e,k _ _ h]
 |cl f I i=>let⟨p,c,g,e,E,j,l,m⟩:=h;exact#[p,c,g,e,E,k _ _ j,k _ _ l,k _ _ m]
inductive DD where
 |st (p:η) (l:Lf) |ask (t:η) (T:Tm)
noncomputable def DD.dd:DD->Dd
 | .st p _=>.st p
 | .ask t _=>.ask t
def yd(H:Hp)(y:List ρ):DD->Prop
 | .st p l=>∃v,H p=δ (.tup v)/\yh H l v/\l.Ok y/\l.isCut=μ
 | .ask t T=>TV H y t T
theorem yd.mono(k:ax H a)(h:yd H y d):yd a y d:=by
 cases d with
 |st p l=>let⟨v,b,c,e⟩:=h;exact#[v,k _ _ b,c.mono k,e]
 |ask t T=>exact TV.mono k h
noncomputable def DD.Cs(F:iD):DD->Prop
 | .st _ l=>l.Cs F
 | .ask _ _=>True
theorem Gw{F:iD}(h:Ma F H y d):∃e:DD,e.dd=d/\yd H y e/\e.Cs F:=by
 cases d with
 |st p=>let⟨l,v,a,b,c,f,g⟩:=h;exact#[.st p l,Z,#[v,a,b,c,f],g]
 |ask t=>let⟨T,h⟩:=h;exact#[.ask t T,Z,h,trivial]
def Fy:DD->Wh->Prop
 | .st _ (.rd _ _ _),.rd _ i=>fu i
 | .st _ (.wr _ _ _ _),.wr _ _=>True
 | .st _ (.cl _ _ _ _),.cl _ _ i=>fu i
 | .ask _ _,.ask b=>b=0∨b=1
 |_,_=>False
noncomputable def sU(d:DD)(w:Wh)(k:aZ):aZ:=match d,w with
 | .st _ (.rd x _ _),.rd _ i=>a9 k (.inr x) (.int i)
 | .st _ (.cl x _ _ _),.cl _ _ i=>a9 k (.inr x) (.int i)
 |_,_=>k
noncomputable def Wh.side:Wh->Nat
 | .ask b=>if b=0 then 1 else 0
 |_=>0
def ux(Q:VK)(H:Hp):Wh->Prop
 | .rd _ i=>Q (.int i) H
 | .cl _ _ i=>Q (.int i) H
 |_=>False
inductive fi(b:List V)(H:Hp)(Q:VK)(a:XK):Prop
 |mk(u:V)(w:Wh)(_:b=[u])(_:CM H u w)(_:ux Q H w)
inductive nJ(c:η)(e:List V)(H:Hp)(Q:VK)(a:XK):Prop
 |mk(v f:V)(b:η)(d:Df)(g:List ρ)(w:WD)(k:aZ)(_:e=[v,f,.ref b])(_:mZ H c d g v)(_:aR H (ij (w.wy c)) f [])(_:xZ H g d.b.cuts d.b.size w)(_:H b=δ (.dK k))(_:GT k)(_:k.length<=200)(_:∀(u:V) (H':Hp),aR H' (uP (eM c d) (dm w.sets k) w.goal) u []->aH b H H'->Q u H')
inductive EI(c:η)(a:_L.St)(j:List (ρ×η×Tm))(k:aZ)(H:Hp)(i:Nat)(l:_L.St)(b:Hp):Prop
 |mk(g h:Option V)(d:l=a++[g,h,θ,θ])(e:b c=δ (.dK (dm (j.take i) k)))(f:aH c H b)
theorem Ka{H:Hp}:∀{is:List Int},aR H (ay$ is.map aq) .non (is.map rz)
 | []=>rfl
 |i::is=>jk Z jT (Ka (is:=is))
theorem lK:ai ["what"] ["what"] (ae gE):=bN
theorem ve(F:tf K "found_in" gE f n):ah P w K mg base aE 1 f n ["what"] fi:=by
 refine F.ok lK λC A o s H v Q E t h=>?_
 let⟨u,W,rfl,d,q⟩:=h;refine#[_,(jg$ jm$ kQ (jW$ jv$ pv 0) (jv$ ju jF (pv 0) jf (λ_ _=>Z))$ ju jF (pv 0) (vI Yl jf) (λ_ _=>Z)),?_];cases W with
 |rd a i=>let⟨p,rfl,l⟩:=d;exact(jp l eQ #[Z,_,Z,aT VX #[_,Z,_,Z,p,_,_,_,Z,Z,aB.of l,Z,q]])
 |cl f I i=>let⟨p,c,g,e,rfl,m,r,_⟩:=d;exact(jp m eQ #[Z,_,Z,cn VX$ jp m io #[c,_,_,_,Z,Z,aB.of r,jG (j:=3) Z,q]])
 |wr a b |ask b=>exact q.elim
theorem gH:ai ["part","way","numbers","name","term","goal","held"] ["part","way","numbers"] (ae md):=bN
noncomputable def Y7:ir:=#[.function,[(".0",.local),("name",.local),("numbers",.free)],ξ,ξ,[]]
theorem yV:(["name","numbers"]:List ρ).Nodup:=by decide+kernel
theorem yr:be ["part","way","numbers","name","term","goal","held"] (ae md) Y7 ["name","numbers"] 1 [2]:=oR
theorem vb(F:tf K "end_of" md f fd)(cC:Cl P w K mg base 1 fC f2 ["part","n"] (iM U) "cut_at")(cW:Cl P w K mg base 7 fW f3 z10z (c7 K 6) "worth")(m0:mg "tuple"=θ)(no:oi K U):ah P w K mg base aE 8 f fd ["part","way","numbers"] (nJ U):=by
 refine F.ok gH λc0 A o1 s H vs Q E Y h=>?_
 let⟨v,w1,D,d,ys,O,k,rfl,hp,hw,wv,hd,gk,hk,q⟩:=h;refine#[_,(jd (jU Nu Z (qp$ jv$ pv 1) (zz (n:=2) Z$ jE (jr (i:=3) gH.nd Z$ ω Z)$ jE (jr (i:=4) gH.nd Z$ ω Z) kH)$ jg$ q9 (zI Y) (pv 2) (pv 3) (cW.e Y.m$ ja (pv 4)$ ja (pv 2) jc) Z)$ jd (jB 5 gH.nd$ jv$ pv 1)$ jd (jy (jW$ jv$ pv 5) (jg$ jm$ jl$ ja jw$ ja (cW.e Y.m$ ja (jv$ pv 5)$ ja (pv 2) jc) jc) jo)$ jd (@qe _ _ _ _ _ _ _ _ _ _ (6) (["name","numbers"]) (1) ([2]) _ _ _ _ gH.nd Z (ω Z) Z (qp$ ju jF (cC.e Y.m$ ja (pv 0)$ ja (jv$ pv 5) jc) jf (λ_ _=>Z)) yr (λ_ _ _ _ _=>(jr (i:=0) yV Z$ ω Z)) (λ_ _ _ _ _=>(@zZ _)) (λ_ _ _ _ _=>(@Kw _ _ _ _ _ _ _ _ _ (zI Y) (pv 1) (pv 0) jf #[VY,VY,VY,VY])) VY (by first |exact .inl Z |exact .inr Z) (by intro _;rfl))$ jg$ jm$ jl$ ja jw$ ja (jv$ pv 5)$ ja (jJ jO Z m0 OG$ ja (pv 6) jc) jc),?_];let b0:=aJ;let⟨wa,sa,ga,ss,wd,u,rfl,W⟩:=Br hw;let R:∀g,aH D H g->ax H g:=λg k b xs e=>k b _ (jP e hd (by intro z;cases z)) e;let h2:=hp.sz;let h3:=wv.len;refine aj λF1 C=>dj λJ j=>(jp W.at' eQ #[sa,Z,#[_,aB.of W.sat],j _ _ ?_]);clear j;refine Kx (K:=K) (xs:=ss) (EI D [δ v,↑wa,↑D] O.sets k H) #[_,_,Z,hd,aH.refl] (λi σ g _ h=>?_) ?_ (λσ g h=>C _ _ ?_)
 .let⟨_,_,_,_,I⟩:=h;exact aB.of$ R _ I _ _ W.sat
 .intro E _ i x σ H1 hx f0 Gq kq h;let⟨o3,o4,rfl,L,I⟩:=h;clear C;let⟨s,p,hs,rfl,h0⟩:=W.sets i x hx;let S:=R _ I;let tv:=(wv.sets s$ Nc hs).mono S;let g1:GT (dm (O.sets.take i) k):=qf (H:=H) (ys:=ys) (λs hs=>wv.sets s (Om hs)) gk;let l1:=XS (ss:=O.sets.take i) (k:=k);rw[Nq]at l1;refine kq ?_;clear kq;refine#[p,_,Z,aB.of$ S _ _ h0,Z,_,_,Z,_,_,Z,Z,?_];refine#[_,Z,_,Z,s.2.1,D,s.2.2,ys,_,Z,.inl tv.1,tv.2.2,tv.2.1,L,g1,_,Z,_,Z,D,_,Z,.inl #[_,.inr s.1,L,Z,VV,Z],f0 _ _ #[_,_,Z,?_,λc o X e=>by rw[jh X];exact I c o X e]];rw[sq hs];exact jb
 .let⟨o3,o4,rfl,L,I⟩:=h;rw[W.len,NJ]at L;let S:=R _ I;let g1:GT (dm O.sets k):=qf (H:=H) (ys:=ys) wv.sets gk;let B:=wv.goal;let a:=W.goal;generalize dm O.sets k=N at L g1 q;refine aj λF1 C=>(jp (S _ _ W.at') io$ C _ _ ?_);clear C;let G:=S _ _ W.gat;refine aj λF1 C=>lH λG1 k3 k0=>(jp G eQ #[Z,_,Z,?_]);let give:∀(t:η) (T:Tm),wd="give"->u= .ref t->Ml K g T t->dE ys T->(∀(u':V) (H9:Hp),aR H9 (aA [aK "give",aq$ T.ev N]) u' []->aH D H H9->Q u' H9)->G1 (decide$ ry wd=ry "give") g:=by intro t T e1 e2 x1 x2 x3;subst e1;subst e2;rw[M9 Z];refine k3 _$ jp G io #[_,Z,t,D,T,ys,N,Z,x1,x2.2,x2.1,L,g1,cp,λr nr=>?_];exact x3 _ _ (jC jb$ jk Z jS$ jk Z jT jA) λc o X e=>je nr _ _ (I c o X e)
  cases hg:O.goal with
  |give t T=>rw[hg]at B a q;exact give t T a.1 a.2 (.inl$ B.1.mono S) B.2 q
  |nought=>rw[hg]at a q;exact give U (.num 0) a.1 a.2 (.inr #[Z,no _]) #[#[VU,VU],VU] q
  |go n=>
   rw[hg]at B a q;clear give k3;let⟨e1,e2⟩:=a;subst e1;subst e2;let hn:n < (bY U d).length:=by rw[ZD];exact B
   obtain⟨c,hc⟩:∃c,(bY U d)[n]?=δ c:=#[_,MV hn];let e0:decide (ry "go"=ry "give")=ξ:=by decide+kernel
   rw[e0];refine k0 _$ C _ _ ?_;clear k0 C;refine aj λF1 C=>#[_,Z,jp G io #[v,n,d,ys,c,Z,hp.mono S,hc,λka na w2 dv w3 ca=>#[ka,_,_,_,Z,Z,aB.of ca.at',eQ,na,Z,#[_,aB.of ca.nms],?_]]];let cl:=Ng (QN ca.v.mem) hp.y20;let q:∀(u:V) (g:Hp),aR g (aA [aK "go",aq (n:Int),aA ((eM U d n).map λx=>aq (look N (.inr x) 0))]) u []->aH D H g->Q u g:=q;rw[uZ hc]at q;refine qE (K:=K) (xs:=(canon c.M).map ry) (by rw[MY];omega) (λi zs Hx=>zs=((canon c.M).take i).map (λx=>rz (look N (.inr x) 0))/\Hx=g) #[Z,Z] (λi zs Hx h=>?_) (λi x zs Hx hx h=>?_) (λzs Hx h l nl=>C _ _ ?_)
   .let⟨rfl,rfl⟩:=h;exact#[aB.of ca.nms,by rw[MY,Nq];omega]
   .let⟨rfl,rfl⟩:=h;rw[Ni]at hx;let⟨y,hy,rfl⟩:=dg.mp hx;refine#[_,Z,D,Z,.inl #[N,.inl L],_,Z,_,gq.k (k:=Sum.inr y) L,?_,Z];rw[Ky g1,N0,hy,Nl];rfl
   .let⟨rfl,rfl⟩:=h;rw[MY,NJ];refine(jp (je nl _ _ G) io #[_,Z,l,_,Z,.inl #[aI.of jb,λtl n0=>#[ie,λr nr=>?_]]]);refine q _ _ (jC jb$ jk Z jS$ jk Z jT$ jk Z (jC (am jb nr) ?_) jA) λc' o X e=>je nr _ _ (je n0 _ _$ je nl _ _$ I c' o X e);let:=Ka (H:=af (af (af Hx l$ .lst ((canon c.M).map (λx=>rz (look N (.inr x) 0)))) tl$ .tup ((canon c.M).map (λx=>rz (look N (.inr x) 0)))) r (.tup [.str "go",.int (n:Int),.ref tl])) (is:=(canon c.M).map λx=>look N (.inr x) 0);rw[OQ,OQ]at this;exact this
structure lv(H:Hp)(nA:η)(d:Df)(ys:List ρ)(v:V)(sa:η)(n:Nat)(hv:η)(uw:V)(c:Ct)(is:List Int)(wh:Wh)(e:DD)(wd:WD):Prop where
 prt:mZ H nA d ys v
 at':H sa=δ (.tup [.int (n:Int),.ref hv,uw])
 cut:(bY nA d)[n]?=δ c
 hat:H hv=δ (.tup$ is.map rz)
 hl:is.length=(canon c.M).length
 hin:∀i∈is,fu i
 whv:CM H uw wh
 ed:e.dd=c.d
 dv:yd H ys e
 fit:Fy e wh
 way:c.ws[wh.side]?=δ (wd.wy nA)
 wdv:xZ H ys d.b.cuts d.b.size wd
theorem lv.mono(k:ax H a)(h:lv H N d y v s n b u c i f e g):lv a N d y v s n b u c i f e g:=
 #[h.prt.mono k,k _ _ h.at',h.cut,k _ _ h.hat,h.hl,h.hin,h.whv.mono k,h.ed,h.dv.mono k,h.fit,h.way,h.wdv.mono k]
def Lv(n:η)(d:Df)(c:Ct)(i:List Int)(a:Wh)(e:DD)(W:WD):Tr:=uP (eM n d) (dm W.sets$ sU e a$ aP (canon c.M) i) W.goal
inductive em(e:η)(g:List V)(H:Hp)(Q:VK)(a:XK):Prop
 |mk(v:V)(b:η)(d:Df)(h f:List ρ)(c:List Int)(w:WD)(_:g=[v,.ref b])(_:mZ H e d h v)(_:H d.pa=δ (.tup (f.map ry)))(_:f.length<=100)(_:H b=δ (.tup (c.map rz)))(_:c.length=f.length)(_:∀i∈c,fu i)(_:w.wy e=(hZ e d).1.w)(_:xZ H h d.b.cuts d.b.size w)(_:∀(u:V) (H':Hp),aR H' (uP (eM e d) (dm w.sets (aP f c)) w.goal) u []->aa H H'->Q u H')
inductive oM(g:η)(j:List V)(H:Hp)(Q:VK)(a:XK):Prop
 |mk(v i:V)(h b:η)(n:Nat)(d:Df)(m:List ρ)(c:Ct)(f:List Int)(l:Wh)(e:DD)(k:WD)(_:j=[v,.ref h])(_:lv H g d m v h n b i c f l e k)(_:∀(u:V) (H':Hp),aR H' (Lv g d c f l e k) u []->aa H H'->Q u H')
theorem Yr(h:Fy e a)(g:GT k):GT (sU e a k):=by
 unfold sU;split
 .exact g.put _ h
 .exact g.put _ h
 .exact g
theorem yn{e:DD}{wh:Wh}{k:aZ}:(sU e wh k).length<=k.length+1:=by
 unfold sU;split
 .exact zT
 .exact zT
 .exact NW _
theorem sH:ai ["part","args"] ["part","args"] (ae iF):=bN
theorem Y8(F:tf K "first_of" iF f I)(J:Cl P w K mg base 8 fE L ["part","way","numbers"] (nJ T) "end_of")(M:mg "dict"=θ)(b:mg "zip"=θ):ah P w K mg base aE 9 f I ["part","args"] (em T):=by
 refine F.ok sH λR A O s H vs Q E U h=>?_
 let⟨v,x,d,y,p,is,z,rfl,C,g,V,i,n,r,t,W,q⟩:=h;refine#[_,(jg$ jm$ J.e U.m$ ja (pv 0)$ ja (jv$ pv 0)$ ja (@Zt _ _ _ _ _ _ _ _ Z M Z b Z (ja (jv$ pv 0)$ ja (pv 1) jc) VY VY VY VY) jc),?_];let⟨a,ca,X,cs,rfl,D,G,Y,h0⟩:=C.parts;rw[<- t]at G;refine#[_,Z,_,Z,a,_,_,_,Z,Z,aB.of D,jG (j:=2) Z,jp D io #[_,Z,d.pa,x,p.map Sum.inr,_,Z,by rw[ZG];exact aB.of g,aB.of i,by rw[MY,MY,n],λl N=>?_]];let S:aa H (af H l$ .dK$ aP p is):=je N;let zl:=ZE (ns:=p) (is:=is);exact#[.ref a,X,l,d,y,z,aP p is,Z,C.mono$ aa.tm S,G.mono$ aa.tm S,W.mono$ aa.tm S,jb,qR r,VV,λu H' tu k=>q u H' tu λc o e=>k c o (ji e N) (S _ _ e)]
theorem fb:ai ["part","step","cut","numbers","what","way"] ["part","step"] (ae mq):=bN
theorem rY{f:η}{fd:hG}{nA fC fD fF fE:η}{f0 f3 f4 f5:hG}(F:tf K "onward" mq f fd)(cC:Cl P w K mg base 1 fC f0 ["part","n"] (iM nA) "cut_at")(cD:Cl P w K mg base 2 fD f3 z9z (iQ nA) "held_at")(cF:Cl P w K mg base 1 fF f4 ["what"] fi "found_in")(cE:Cl P w K mg base 8 fE f5 ["part","way","numbers"] (nJ nA) "end_of"):ah P w K mg base aE 9 f fd ["part","step"] (oM nA):=by
 refine F.ok fb λc0 A o2 s H vs Q E hr h=>?_
 let⟨v,L,Y,hv,n,d,ys,c,is,wh,e,wd,rfl,C,q⟩:=h;refine#[_,(jd (jB 2 fb.nd$ cC.e hr.m$ ja (pv 0)$ ja (jv$ pv 1) jc)$ jd (jB 3 fb.nd$ cD.e hr.m$ ja (pv 0)$ ja (jv$ pv 1)$ ja (jv$ pv 1) jc)$ jd (jB 4 fb.nd$ jv$ pv 1)$ jd (jy (jz zu (jv$ pv 4) (jl$ ja jw$ ja jw jc) Z) (jg$ q9 (zI hr) (pv 3) (jv$ ju jF (pv 2) jf (λ_ _=>Z)) (cF.e hr.m$ ja (pv 4) jc) Z) jo)$ jd (jB 5 fb.nd$ kQ (jz (Eh$ zI hr) (pv 4) (jl$ ja jw$ ja jf jc)$ aF _) (jv$ ju jF (pv 2) jf (λ_ _=>Z))$ jv$ ju jF (pv 2) jf (λ_ _=>Z))$ jg$ jm$ cE.e hr.m$ ja (pv 0)$ ja (pv 5)$ ja (pv 3) jc),?_];let b0:=aJ;let⟨a,ca,wv,cs,rfl,ha,hw,a0,a1⟩:=C.prt.parts;let h0:=C.at';refine aj λF1 J=>#[_,Z,jp h0 eQ #[_,n,d,ys,c,Z,C.prt,C.cut,λka na wa dv w0 cu=>J _ _ ?_]];clear J;refine aj λF1 J=>#[_,Z,jp h0 eQ$ jp h0 io #[_,n,hv,d,ys,c,is,Z,C.prt,C.cut,C.hat,C.hl,λD n0=>J _ _ ?_]];clear J;let s1:aa H (af H D$ .dK$ aP (canon c.M) is):=je n0;let d1:af H D (.dK$ aP (canon c.M) is) D=δ (.dK$ aP (canon c.M) is):=jb;generalize af H D (.dK$ aP (canon c.M) is)=H1 at s1 d1;let O:=C.mono (aa.tm s1);let g0:GT (aP (canon c.M) is):=qR C.hin;let z0:=ZE (ns:=canon c.M) (is:=is);let z1:=QN cu.v.mem;let z2:=C.prt.y20;generalize h7:aP (canon c.M) is=k0 at d1 g0 z0;refine aj λF1 J=>#[_,Z,Y,_,_,_,Z,Z,aB.of O.at',jG (j:=2) Z,J _ _ ?_];clear J;let o1:Lv nA d c is wh e wd=uP (eM nA d) (dm wd.sets$ sU e wh k0) wd.goal:=by unfold Lv;rw[h7]
 rw[o1]at q;let h1:=zi cu.ways;rw[MY]at h1;let G:∃x,w0[wh.side]?=δ x/\aR H (ij$ wd.wy nA) x []:=by
  let hj:wh.side < w0.length:=by rw[h1];exact(ν.mp C.way).1
  let⟨tr,ht,tx⟩:=qP cu.ways wh.side _ (MV hj);rw[Ni,C.way]at ht;cases ht;exact#[_,MV hj,tx]
 let⟨wx,G,t0⟩:=G;let h4:=cu.at';let h8:=cu.wat;refine aj λF1 J=>?_;let r0:∀(H3:Hp),H3 D=δ (.dK$ sU e wh k0)->aH D H1 H3->F1 [↑a,↑Y,↑ka,↑D,δ L,θ] H3:=by
  intro H3 h3 k3;refine J _ _ ?_;clear J;let s3:aa H H3:=λc o x=>k3 c o (ji x n0) (s1 _ _ x);let l3:=yn (e:=e) (wh:=wh) (k:=k0);refine aj λF2 f2=>?_;let f6:∀H4,aa H3 H4->F2 [↑a,↑Y,↑ka,↑D,δ L,δ wx] H4:=λH4 s4=>f2 _ _ (by
   let S:=s3.trans s4;exact#[_,Z,_,Z,_,Z,.ref a,wx,D,d,ys,wd,_,Z,C.prt.mono$ aa.tm S,t0.mono$ aa.tm S,C.wdv.mono$ aa.tm S,s4 _ _ h3,Yr C.fit g0,VV,λu R tu k=>q u R tu λc o x=>k c o (ji x n0) (S _ _ x)])
  clear f2;let wk:=C.whv.mono (aa.tm s3);let eP:∀(H4:Hp) (j:Nat),aa H3 H4->w0[j]?=δ wx->g9 (cw K) (g9 (cw K) (bK 2)$ tC$ .int 2) (tC$ .int (j:Int)) [↑a,↑Y,↑ka,↑D,δ L,θ] H4 λx H5=>F2 ([↑a,↑Y,↑ka,↑D,δ L,θ].set 5 (δ x)) H5:=λH4 j s4 hj=>
   #[_,Z,ka,_,_,_,Z,Z,aB.of ((s3.trans s4) _ _ h4),jG (j:=2) Z,wa,_,_,_,Z,Z,aB.of ((s3.trans s4) _ _ h8),jG hj,f6 H4 s4]
  cases wh with
  |rd a' i |wr a' b=>let⟨p,rfl,B⟩:=wk;exact#[_,Z,cp,λt N=>#[p,t,_,_,Z,Z,aB.of$ je N _ _ B,aB.of jb,.inl #[Z,Z,_,Z,aT (by unfold uh;exact R0 _)$ eP _ 0 (je N) G]]]
  |ask b=>
   let⟨p,rfl,B⟩:=wk;let hb:b=0∨b=1:=by
    let:=C.fit;cases e with
    |st p l=>cases l<;>exact this.elim
    |ask t T=>exact this
   rcases hb with rfl |rfl
   .exact#[_,Z,cp,λt N=>#[p,t,_,_,Z,Z,aB.of$ je N _ _ B,aB.of jb,.inl #[Z,Z,_,Z,cn VX$ eP _ 1 (je N) G]]]
   .exact#[_,Z,cp,λt N=>#[p,t,_,_,Z,Z,aB.of$ je N _ _ B,aB.of jb,.inl #[Z,Z,_,Z,aT VX$ eP _ 0 (je N) G]]]
  |cl f' i0 i=>let⟨p,c',g,e',rfl,B,h',_⟩:=wk;exact#[_,Z,cp,λt N=>#[p,t,_,_,Z,Z,aB.of$ je N _ _ B,aB.of jb,.inr #[_,c',_,_,_,Z,aB.of$ je N _ _ h',Z,_,Z,aT Z$ eP _ 0 (je N) G]]]
 let wk:=O.whv;let dk:=O.dv;let fk:=O.fit;let h5:=s1 _ _ h4;let d0:=cu.deed;rw[<- C.ed]at d0;let skip:∀(p:η) (W:ρ) (r:List V),L= .ref p->H1 p=δ (.tup (.str W::r))->oX (.str W) [.str "read",.str "call"]=ξ->sU e wh k0=k0->gZ (nU$ g9 (HL K ξ) (g9 (cw K) (bK 4)$ tC$ .int 0)$ cY$ ar (tC$ .str "read")$ ar (tC$ .str "call") bh) (vY (bK 3) (g9 (cw K) (g9 (cw K) (bK 2)$ tC$ .int 1)$ tC$ .int 1)$ ff fi [] E0$ ar (bK 4) bh) xE { nx:=F1,rt:=Q } [↑a,↑Y,↑ka,↑D,δ L,θ] H1:=by intro p W r I B e2 e3;subst I;refine lH λG1 k1 k2=>(jp B eQ #[cp,λt N=>#[t,_,Z,.inr$ aB.of jb,Z,Z,_,Z,?_]]);show G1 (oX (.str W) [.str "read",.str "call"]) _;rw[e2];exact k2 _$ r0 _ (by rw[e3];exact am d1 N) λc o _ x=>je N _ _ x
 let p0:∀(p p':η) (W:ρ) (r:List V) (i:Int) (x:ρ) (y:V) (r':List V),L= .ref p->H1 p=δ (.tup (.str W::r))->oX (.str W) [.str "read",.str "call"]=μ->dv= .ref p'->H1 p'=δ (.tup (y:: .str x::r'))->(∀R:Hp,aa H1 R->CM R L wh)->(∀(Q':VK) (R:Hp),Q' (.int i) R->ux Q' R wh)->sU e wh k0=a9 k0 (.inr x) (.int i)->gZ (nU$ g9 (HL K ξ) (g9 (cw K) (bK 4)$ tC$ .int 0)$ cY$ ar (tC$ .str "read")$ ar (tC$ .str "call") bh) (vY (bK 3) (g9 (cw K) (g9 (cw K) (bK 2)$ tC$ .int 1)$ tC$ .int 1)$ ff fi [] E0$ ar (bK 4) bh) xE { nx:=F1,rt:=Q } [↑a,↑Y,↑ka,↑D,δ L,θ] H1:=by intro p p' W r i x y r' I B e2 e4 X e5 e6 e3;subst I;subst e4;refine lH λG1 k1 k2=>(jp B eQ #[cp,λt N=>#[t,_,Z,.inr$ aB.of jb,Z,Z,_,Z,?_]]);show G1 (oX (.str W) [.str "read",.str "call"]) _;rw[e2];refine k1 _ #[_,Z,.ref p,wh,Z,e5 _$ je N,e6 _ _ ?_];exact#[_,Z,jp (je N _ _ h5) io #[p',_,_,_,Z,Z,aB.of$ je N _ _ X,io,D,_,Z,.inl #[k0,.inr x,am d1 N,Z,VV,Z],r0 _ (by rw[e3];exact jb) λc o nc z=>by rw[jh nc];exact je N _ _ z]]
 cases e with
 |ask t T=>
  cases wh with
  |ask b=>let⟨p,I,B⟩:=wk;exact skip p _ _ I B VX Z
  |_=>exact fk.elim
 |st p' l=>
  let⟨vs,X,h6,_⟩:=dk;let ed:dv= .ref p':=d0.1;cases l with
  |rd x t T=>
   cases wh with
   |rd b i=>let⟨p,I,B⟩:=wk;let⟨rfl,_⟩:=h6;exact p0 p p' _ _ i x _ _ I B VX ed X (λR s'=>#[p,I,s' _ _ B]) (λ_ _ h=>h) Z
   |_=>exact fk.elim
  |wr t u T U=>
   cases wh with
   |wr b i=>let⟨p,I,B⟩:=wk;exact skip p _ _ I B VX Z
   |_=>exact fk.elim
  |cl x f' q' ts=>
   cases wh with
   |cl f2 i1 i=>let⟨p,c2,g2,e2,I,B,h2,h3⟩:=wk;let⟨rfl,_⟩:=h6;exact p0 p p' _ _ i x _ _ I B VX ed X (λR s'=>#[p,c2,g2,e2,I,s' _ _ B,s' _ _ h2,s' _ _ h3]) (λ_ _ h=>h) Z
   |_=>exact fk.elim
  |st x t T |gv t T=>cases wh<;>exact fk.elim
abbrev iw:cv:=bP 25
abbrev l7:cv:=bP 26
noncomputable def tR(k:aZ):DD->Tr
 | .st _ (.rd _ _ T)=>aA [aK "read",aq (T.ev k)]
 | .st _ (.wr _ _ T U)=>aA [aK "write",aq (T.ev k),aq (U.ev k)]
 | .st _ (.cl _ f _ t)=>aA [aK "call",aK f,aA (t.map λc=>aq (c.2.ev k))]
 | .ask _ T=>aA [aK "ask",aq (if T.ev k=0 then 0 else 1)]
 |_=>.nil
inductive eh(g:η)(h:List V)(H:Hp)(Q:VK)(a:XK):Prop
 |mk(v:V)(n:Nat)(b:η)(d:Df)(j:List ρ)(c:Ct)(f:List Int)(e:DD)(_:h=[v,.int (n:Int),.ref b])(_:mZ H g d j v)(_:(bY g d)[n]?=δ c)(_:H b=δ (.tup (f.map rz)))(_:f.length=(canon c.M).length)(_:∀i∈f,fu i)(_:e.dd=c.d)(_:yd H j e)(_:∀(u:V) (H':Hp),aR H' (tR (aP (canon c.M) f) e) u []->aa H H'->Q u H')
inductive gN(f:List V)(H:Hp)(Q:VK)(b:XK):Prop
 |mk(a d:η)(e:List (η×Tm))(g:List ρ)(k:aZ)(_:f=[.ref a,.ref d])(_:H a=δ (.tup (e.map λc=>sn c.1)))(_:e.length<=6)(_:∀c∈e,bn H c.2 c.1/\dE g c.2)(_:H d=δ (.dK k))(_:GT k)(_:∀(r:η) (H':Hp),H' r=δ (.tup (e.map λc=>rz (c.2.ev k)))->aa H H'->Q (.ref r) H')
theorem wR:ai ["terms","numbers"] ["terms","numbers"] (ae iw):=bN
noncomputable def Y9:ir:=#[.function,[(".0",.local),("term",.local),("worth",.globalImplicit),("numbers",.free)],ξ,ξ,[]]
theorem yZ:(["term","numbers"]:List ρ).Nodup:=by decide+kernel
theorem yw:be ["terms","numbers"] (ae iw) Y9 ["term","numbers"] 1 [1]:=oR
theorem sd(F:tf K "worths" iw f v)(C:Cl P w K mg base 7 U B z10z (c7 K 6) "worth")(M:mg "tuple"=θ):ah P w K mg base aE 8 f v ["terms","numbers"] gN:=by
 refine F.ok wR λG A o s H R Q E I h=>?_
 let⟨a,D,t,g,k,rfl,p,W,b,J,L,q⟩:=h;refine#[_,(jg$ jm$ jJ jO Z M OG$ ja (@zK _ _ _ _ _ _ _ (["term","numbers"]) (1) ([1]) _ _ _ _ Z (qp$ pv 0) yw (λ_ _ _ _ _=>(jr (i:=0) yZ Z$ ω Z)) (λ_ _ _ _ _=>(@zZ _)) (λ_ _ _ _ _=>(C.e I.m$ ja (pv 0)$ ja (pv 1) jc)) (by intro _;rfl)) jc),?_];let N:=aJ;refine#[_,Z,a,Z,#[_,aB.of p],?_];refine qE (K:=K) (xs:=t.map λc=>sn c.1) (by rw[MY];omega) (λi z d=>z=(t.take i).map (λc=>rz (c.2.ev k))/\d=H) #[Z,Z] (λi z d h=>?_) (λi x z d r h=>?_) (λz d h l O=>?_)
 .let⟨rfl,rfl⟩:=h;exact#[aB.of p,by rw[MY,Nq];omega]
 .let⟨rfl,rfl⟩:=h;rw[Ni]at r;let⟨y,u,rfl⟩:=dg.mp r;let Y:=Nc u;refine#[_,Z,_,Z,y.1,D,y.2,g,k,Z,.inl (b y Y).1,(b y Y).2.2,(b y Y).2.1,J,L,?_,Z];rw[N0,u,Nl];rfl
 .let⟨rfl,rfl⟩:=h;rw[MY,NJ];exact#[l,_,Z,.inl #[aI.of jb,λT n=>q T _ jb ((je O).trans$ je n)]]
theorem gG:ai ["part","n","held","numbers","deed","word"] z9z (ae l7):=bN
theorem rP(F:tf K "deed_at" l7 f fd)(cH:Cl P w K mg base 2 fH f0 z9z (iQ nA) "held_at")(cC:Cl P w K mg base 1 fC f2 ["part","n"] (iM nA) "cut_at")(cW:Cl P w K mg base 7 fW f3 z10z (c7 K 6) "worth")(cS:Cl P w K mg base 8 fS f4 ["terms","numbers"] gN "worths"):ah P w K mg base aE 9 f fd z9z (eh nA):=by
 refine F.ok gG λc0 A o1 s H vs Q E L h=>?_
 let⟨v,n,hv,d,Y,c,is,e,rfl,hp,hc,hh,hl,h0,h1,h2,q⟩:=h;refine#[_,(jd (jB 3 gG.nd$ cH.e L.m$ ja (pv 0)$ ja (pv 1)$ ja (pv 2) jc)$ jd (jB 4 gG.nd$ ju jF (cC.e L.m$ ja (pv 0)$ ja (pv 1) jc) jf (λ_ _=>Z))$ jd (jB 5 gG.nd$ jv$ pv 4)$ jd (jy (jW$ pv 5) (jg$ jm$ jl$ ja (pv 5)$ ja (kQ (jz qW (cW.e L.m$ ja (jv$ pv 4)$ ja (pv 3) jc) jf$ aF _) jf jf) jc) jo)$ jd (jy (jW$ pv 5) (jg$ jm$ jl$ ja (pv 5)$ ja (jv$ pv 4)$ ja (cS.e L.m$ ja (jv$ pv 4)$ ja (pv 3) jc) jc) jo)$ jd (jy (jW$ pv 5) (jg$ jm$ jl$ ja (pv 5)$ ja (cW.e L.m$ ja (jv$ pv 4)$ ja (pv 3) jc) jc) jo)$ jg$ jm$ jx ki (jl$ ja (pv 5) jc)$ cS.e L.m$ ja (jM kc (pv 4) (jL jf) jV)$ ja (pv 3) jc),?_];let b0:=aJ;let⟨a,ca,p0,cs,rfl,ha,_,h7,h8⟩:=hp.parts;refine aj λi b=>#[_,Z,_,Z,_,Z,.ref a,n,hv,d,Y,c,is,Z,hp,hc,hh,hl,λC n0=>b _ _ ?_];clear b;let S:aa H (af H C$ .dK$ aP (canon c.M) is):=je n0;let O:af H C (.dK$ aP (canon c.M) is) C=δ (.dK$ aP (canon c.M) is):=jb;show cy _ _ _ _ (af H C$ .dK$ aP (canon c.M) is);generalize af H C (.dK$ aP (canon c.M) is)=H1 at S O;let V:GT (aP (canon c.M) is):=qR h0;generalize aP (canon c.M) is=k at O V q;let dk:=h2.mono (aa.tm S);refine aj λi b=>#[_,Z,_,Z,.ref a,n,d,Y,c,Z,hp.mono$ aa.tm S,hc,λka na wa dv w0 cu=>#[ka,_,_,_,Z,Z,aB.of cu.at',io,b _ _ ?_]];clear b;let D:=cu.deed;rw[<- h1]at D;cases e with
 |ask t T=>
  obtain⟨_,p,xs,rfl,g,_,_,y0,z0,rfl,⟨rfl,_⟩,_,_,y1,z1,rfl,⟨rfl,_⟩,e⟩:=D;let e:z1=[]:=e;subst e;refine aj λi b=>(jp g eQ$ b _ _ ?_);clear b;refine aj λi b=>#[_,Z,Z,_,Z,cn VX #[_,Z,jp g io #[_,Z,t,C,T,Y,k,Z,.inl dk.1,dk.2.2,dk.2.1,O,V,Z,_,Z,?_]]];by_cases z:T.ev k=0
  .refine cn (by rw[z];decide+kernel) #[cp,λr G=>q _ _ (jC jb$ jk Z jS$ jk Z #[?_,Z] jA) (S.trans$ je G)];rw[M7 z]
  .refine aT (by rw[M5];intro e;injection e with e;exact z e) #[cp,λr G=>q _ _ (jC jb$ jk Z jS$ jk Z #[?_,Z] jA) (S.trans$ je G)];rw[Na z]
 |st p l=>
  let ed:dv= .ref p:=D.1;subst ed;let⟨vs,g,I,B,h3⟩:=dk;cases l with
  |rd x t T=>let⟨rfl,ht⟩:=I;refine aj λi b=>(jp g eQ$ b _ _ ?_);clear b;refine aj λi b=>#[_,Z,Z,_,Z,aT VX$ b _ _ ?_];clear b;refine aj λi b=>#[_,Z,Z,_,Z,aT VX$ b _ _ ?_];clear b;refine aj λi b=>#[_,Z,Z,_,Z,cn VX #[_,Z,_,Z,p,_,_,_,Z,Z,aB.of g,jG (j:=2) Z,_,Z,t,C,T,Y,k,Z,.inl ht,B.2.2,B.2.1,O,V,cp,λr G=>?_]];exact q _ _ (jC jb$ jk Z jS$ jk Z jT jA)$ S.trans$ je G
  |wr t u T U=>
   let⟨rfl,ht,hu⟩:=I;refine aj λi b=>(jp g eQ$ b _ _ ?_);clear b;refine aj λi b=>#[_,Z,Z,_,Z,aT VX$ b _ _ ?_];clear b;refine aj λi b=>#[_,Z,Z,_,Z,aT VX$ b _ _ ?_];clear b;refine aj λi b=>#[_,Z,Z,_,Z,aT VX$ b _ _ ?_];clear b;refine#[_,Z,iZ,λr1 N=>#[_,Z,1,Z,p,_,Z,je N _ _ g,λr2 H2 J R=>#[_,Z,r2,C,[(t,T),(u,U)],Y,k,Z,J,(by show 2<=6;decide),?_,R _ _$ je N _ _ O,V,λr3 H3 h4 s3=>#[r1,r3,_,_,Z,Z,s3 _ _$ R _ _ jb,h4,ie,λr4 H4 h5 s4=>?_]]]]
   .intro y W;let X:=(je (o:=.tup [.str "write"]) N).trans R;simp only[Oz,Ny,P5]at W;rcases W with rfl |rfl
    .exact#[ht.same X,B.1]
    .exact#[hu.same X,B.2]
   .exact q _ _ (jC h5$ jk Z jS$ jk Z jT$ jk Z jT jA)$ S.trans ((je N).trans$ R.trans$ s3.trans s4)
  |cl x f' qa ts=>let⟨rfl,hq,h6⟩:=I;refine aj λi b=>(jp g eQ$ b _ _ ?_);clear b;refine aj λi b=>#[_,Z,Z,_,Z,aT VX$ b _ _ ?_];clear b;let l6:ts.length<=6:=B.2.1;refine aj λi b=>#[_,Z,Z,_,Z,cn VX #[_,Z,_,Z,p,_,_,_,Z,Z,aB.of g,jG (j:=2) Z,_,Z,p,_,_,_,Z,Z,aB.of g,jG (j:=3) Z,_,Z,qa,C,ts,Y,k,Z,hq,l6,λy W=>#[h6 y W,B.2.2 y W],O,V,λr2 H2 J R=>#[ie,λr G=>?_]]];refine q _ _ (jC jb$ jk Z jS$ jk Z jS$ jk Z (jC (am J G) ?_) jA)$ S.trans$ R.trans$ je G;let:=Ka (H:=af H2 r (.tup [.str "call",.str f',.ref r2])) (is:=ts.map λc=>c.2.ev k);rw[OQ,OQ]at this;exact this
  |st x t T |gv t T=>cases h3
abbrev mj:cv:=bP 17
abbrev oy:cv:=bP 18
abbrev ma:cv:=bP 19
noncomputable abbrev ww:cv:=bp (bP 20) 0
noncomputable abbrev oF:cv:=bp (bP 20) 1
noncomputable abbrev wz:cv:=bp (bP 20) 2
abbrev ms:cv:=bP 22
def FF(H:Hp)(x:V)(g:ρ):Prop:=∃p r,x= .ref p/\H p=δ (.tup (.str g::r))
inductive iT(c:List V)(H:Hp)(Q:VK)(b:XK):Prop
 |mk(a:η)(f:ρ)(d:List V)(i:Nat)(v:V)(_:c=[.ref a,.str f])(_:H a=δ (.tup d))(_:d[i]?=δ v)(_:FF H v f)(_:∀j x,j < i->d[j]?=δ x->∃g,FF H x g/\g≠f)(_:Q v H)
inductive iz(e:List V)(H:Hp)(Q:VK)(b:XK):Prop
 |mk(a g:η)(f:ρ)(h k:List V)(i:Nat)(v:V)(p c:η)(r d:List V)(_:e=[.ref a,.str f,.ref g])(_:H a=δ (.tup h))(_:h[i]?=δ v)(_:v= .ref p)(_:H p=δ (.tup (.str f:: .ref c::r)))(_:H c=δ (.tup d))(_:H g=δ (.tup k))(_:k.length=d.length)(_:∀j x,j < i->h[j]?=δ x->∃g,FF H x g/\g≠f)(_:Q v H)
noncomputable def iB(c l p:η)(m:Int)(t:Nat):List (ρ×V):=[("cells",.ref c),("most",.int m),("left",.ref l),("turns",.int (t:Int)),("parts",.ref p)]
structure Rn(H:Hp)(C r dx cA lA pA:η)(m:Int)(t:Nat)(L Cs:aZ):Prop where
 ins:H r=δ (.ins C dx$ iB cA lA pA m t)
 lf:H lA=δ (.dK L)
 ce:H cA=δ (.dK Cs)
 iL:GT L
 iC:GT Cs
 cl:cA≠lA
structure RK(K:γ)(C:η):Prop where
 cl:oQ K C
 n1:a7 K C "cells"
 n2:a7 K C "most"
 n3:a7 K C "left"
 n4:a7 K C "turns"
 n5:a7 K C "parts"
inductive gK(C:η)(h:List V)(H:Hp)(Q:VK)(a:XK):Prop
 |mk(r e d f g:η)(m c:Int)(t:Nat)(L b:aZ)(_:h=[.ref r,.int c])(_:Rn H C r e d f g m t L b)(_:Q (.int (look L (.inl c) (look b (.inl c) 0))) H)
inductive mM(C:η)(d:List V)(H:Hp)(Q:VK)(a:XK):Prop
 |mk(r c b:η)(m:Int)(_:d=[.ref r,.ref b,.int m])(_:H r=δ (.ins C c []))(_:∀lA,H lA=θ->Q .non (af (af H lA (.dK [])) r (.ins C c [("cells",.ref b),("most",.int m),("left",.ref lA),("turns",.int 0)])))
structure XM(K:γ)(mg:ρ->Option ζ)(x:ρ)(L:η):Prop where
 ex:excIn K L re "ValueError.__new__"=μ
 kp:iv K (.ref L)=μ
 xc:tw K L
 ty:typeIn K (.ref L)=δ (.type "type")
 m:mg x=↑L
def NX(o:HO):Prop:=∀a,o≠ .ext a
def Kp(H h:Hp):Prop:=∀b o,NX o->H b=δ o->h b=δ o
theorem Kp.of_same(s:aa H h):Kp H h:=λb o _ e=>s _ _ e
theorem Kp.trans(a:Kp H h)(b:Kp h d):Kp H d:=λc o n e=>b c o n (a c o n e)
def oZ(E:XK):XK:=λC d H=>∀x T t c,C= .ref c->H x=δ (ig c d T x)->H T=δ (gR T)->H t=θ->E (.ref c) d (af (af H t$ gR t) x$ ig c d t x)
theorem zX{P:ψ}{w:bU}{K:γ}{mg:ρ->Option ζ}{base:de}:dw (gj P w) (gu (gj P w) P w K mg base N q s f g A o a H E) (oZ E):=
 Aw λx C d T t i b c e h=>h x T t C Z b c e
theorem Kb{H h:Hp}(e:h b=δ o)(n:NX o)(a:h x=δ (ig C d T x))(c:h t=θ):af (af h t$ gR t) x (ig C d t x) b=δ o:=by
 let N:b≠x:=λz=>by rw[z,a]at e;injection e with e;exact n _ e.symm
 rw[jh N,jh$ ji e c];exact e
def Fl(E:XK)(L:η)(R:Hp->Prop):Prop:=∀(_:Unit) H,R H->E (.ref L) θ H
inductive iW(C L:η)(e:List V)(H:Hp)(Q:VK)(E:XK):Prop
 |mk(r b a c d:η)(m:Int)(t:Nat)(_:e=[.ref r])(_:H r=δ (.ins C b (iB a c d m t)))(_:(t:Int) < m->Q .non (af H r (.ins C b (iB a c d m (t+1)))))(_:m<=(t:Int)->Fl E L (Kp H))
inductive fc(D:η)(a:List V)(H:Hp)(Q:VK)(E:XK):Prop
 |mk(d:Int)(_:a=[.int d])(_:d < 15->Q (.int (d+1)) H)(_:15<=d->Fl E D (Kp H))
theorem XU{H:Hp}(a:H x=θ)(N:af H x (By L θ x) T=θ):aa H (af (af (af H x$ By L θ x) T$ gR T) x$ ig L d T x):=by intro b o e;let n:b≠x:=ji e a;rw[jh n,jh (λz=>by rw[<- z,jh n,e]at N;cases N),jh n];exact e
theorem nD:ai ["ones","f","one"] ["ones","f"] (ae mj):=bN
theorem rW(F:tf K "named" mj f D):ah P w K mg base aE 1 f D ["ones","f"] iT:=by
 refine F.ok nD λG A o s H W Q E X h=>?_
 let⟨a,f,xs,i,v,rfl,t,u,L,d,q⟩:=h;refine#[_,(jd (jU Nu Z (qp$ pv 0) (jr (i:=2) nD.nd Z$ ω Z)$ jg$ jy (jz qW (jv$ pv 2) (pv 1)$ aF _) (jg$ jm$ pv 2) jo)$ @vP _ _),?_];let M:i < xs.length:=(ν.mp u).1;refine aj λY f1=>dj λJ j=>#[_,Z,a,Z,#[_,aB.of t],j _ _ ?_];clear j;refine Kx (K:=K) (xs:=xs) (λk c e=>(∃O,c=[↑a,δ$ .str f,O])/\e=H/\k<=i) #[#[_,Z],Z,M6 _] (λk c e _ h=>by rw[h.2.1];exact aB.of t) ?_ (λc e h=>?_)
 .intro l R k x c H2 m N I b h;obtain⟨⟨O,rfl⟩,rfl,y⟩:=h;refine b ?_;clear b;by_cases S:k=i
  .subst S;rw[u]at m;cases m;let⟨p,r,rfl,n⟩:=id L;show gZ _ _ _ l _ _;refine lH λT B C=>(jp n eQ #[_,Z,Z,_,Z,?_]);rw[M9 (Z:ry f=ry f)];refine B _ ?_;show gg _ l _ _;unfold gg;rw[R];exact#[_,Z,q]
  .obtain⟨g,⟨p,r,rfl,n⟩,U⟩:=d k x VV m;show gZ _ _ _ l _ _;refine lH λT B C=>(jp n eQ #[_,Z,Z,_,Z,?_]);rw[M5 (λz=>U (by injection z))];exact C _$ N _ _ #[#[_,Z],Z,VV]
 .let⟨_,_,y⟩:=h;exact absurd y VV
theorem wO:ai ["parts","f"] ["parts","f"] (ae ms):=bN
theorem rZ(F:tf K "part_of" ms f c)(C:Cl P w K mg base 1 r d ["ones","f"] iT "named"):ah P w K mg base aE 2 f c ["parts","f"] iT:=by
 refine F.ok wO λg A o s H V Q E j h=>?_
 let⟨a,f,x,i,v,rfl,l,n,p,b,q⟩:=h;refine#[_,(jg$ jm$ C.e j.m$ ja (pv 0)$ ja (pv 1) jc),?_];exact#[_,Z,_,Z,a,f,x,i,v,Z,l,n,p,b,q]
theorem px:ai ["ones","f","args","one"] ["ones","f","args"] (ae oy):=bN
theorem u7(F:tf K "begun" oy f j)(C:Cl P w K mg base 1 N l ["ones","f"] iT "named")(M:mg "len"=θ):ah P w K mg base aE 2 f j ["ones","f","args"] iz:=by
 refine F.ok px λn A o s H V Q E t h=>?_
 let⟨a,g,f,x,y,i,v,p,c,r,u,rfl,z,B,rfl,d,D,G,I,J,q⟩:=h;refine#[_,(jd (jB 3 px.nd$ C.e t.m$ ja (pv 0)$ ja (pv 1) jc)$ jd (jy (jz Xs (jN jI Z M NO$ ja (pv 2) jc) (jN jI Z M NO$ ja (jv$ pv 3) jc)$ aF _) (@vP _ _) jo)$ jg$ jm$ pv 3),?_];refine aj λL b=>#[_,Z,_,Z,a,f,x,i,.ref p,Z,z,B,#[p,_,Z,d],J,b _ _ ?_];clear b;refine aj λL b=>#[_,Z,g,_,Z,.inr$ aB.of G,jp d io #[c,_,Z,.inr$ aB.of D,Z,_,Z,aT (by rw[I];simp)$ b _ _ #[_,Z,q]]]
theorem wE:ai ["deep"] ["deep"] (ae ma):=bN
theorem rQ(F:tf K "deeper" ma f a)(M:mg "DEEPEST"=δ (.int 15 t))(X:XM K mg "TooDeep" D):ah P w K mg base (gj P w) 1 f a ["deep"] (fc D):=by
 refine F.ok1 wE λC A o s H V Q E g h=>?_
 let⟨d,rfl,q,e⟩:=h;refine#[_,(jd (jy (jz vx (pv 0) (qY (v:=.int 15) Z M #[t,Z])$ aF _) (jg$ @XF _ _ _ _ _ Z QF$ @QC _ _ _ _ _ X.ex X.kp Z X.m VU) jo)$ jg$ jm$ jx jX (pv 0) jf),?_];refine aj λi b=>#[_,Z,_,_,Z,Z,_,Z,?_];by_cases c:(15:Int)<=d
 .refine cn (M9 c) λx n=>?_;exact#[x,D,θ,Z,jb,X.xc,X.ty,λT N=>e c () _ (Kp.of_same$ XU n N)]
 .exact aT (M5 c)$ b _ _ #[_,Z,_,_,Z,Z,q VV]
theorem EW:ai z23z z23z (ae ww):=bN
theorem Ar(F:aQ K "__init__" "Turns.__init__" ww f v)(c:RK K C):ah P w K mg base aE 1 f v z23z (mM C):=by
 refine F.ok EW λx A o s H V Q E B h=>?_
 let⟨r,D,y,m,rfl,g,q⟩:=h;refine#[_,(jd (@zB _ _ _ _ _ _ _ _ (pv 0) (pv 1) Z)$ jd (@zB _ _ _ _ _ _ _ _ (pv 0) (pv 2) Z)$ jd (@zB _ _ _ _ _ _ _ _ (pv 0) XE Z)$ jg$ @zB _ _ _ _ _ _ _ _ (pv 0) jf Z),?_];refine aj λj a=>#[_,Z,_,Z,r,C,D,_,Z,g,c.cl,c.n1,VU,a _ _ ?_];clear a;refine aj λj a=>#[_,Z,_,Z,r,C,D,_,Z,jb,c.cl,c.n2,(by show 1 < 1000;decide),a _ _ ?_];clear a;refine aj λj a=>λl n=>#[_,Z,r,C,D,_,Z,am jb n,c.cl,c.n3,(by show 2 < 1000;decide),a _ _ ?_];clear a;refine#[_,Z,r,C,D,_,Z,jb,c.cl,c.n4,(by show 3 < 1000;decide),?_];let N:l≠r:=λe=>by rw[e,jb]at n;cases n
 let z:H l=θ:=by rw[jh N,jh N]at n;exact n
 let e:∀p t u O:HO,af (af (af (af (af H r p) r t) l$ .dK []) r u) r O=af (af H l$ .dK []) r O:=λp t u O=>by
  funext b;by_cases d:b=r
  .rw[d,jb,jb]
  .rw[jh d,jh d,jh d];by_cases i:b=l
   .rw[i,jb,jb]
   .rw[jh i,jh d,jh d,jh i]
 rw[e];exact q l z
theorem A6:ai ["self"] ["self"] (ae oF):=bN
theorem vm(F:aQ K "take_turn" "Turns.take_turn" oF f g)(b:RK K C)(X:XM K mg "TooLong" L):ah P w K mg base (gj P w) 1 f g ["self"] (iW C L):=by
 refine F.ok1 A6 λi A o s H v Q E y h=>?_
 let⟨r,d,j,l,p,m,t,rfl,a,q,e⟩:=h;refine#[_,(jd (jy (jz vx (j6 (pv 0) Z) (j6 (pv 0) Z)$ aF _) (jg$ @XF _ _ _ _ _ Z QF$ @QC _ _ _ _ _ X.ex X.kp Z X.m VU) jo)$ jg$ @Z0 _ _ _ _ _ _ _ _ _ _ (pv 0) jf Di),?_];refine aj λz n=>#[_,Z,r,C,d,_,_,Z,a,b.cl,b.n4,Z,_,Z,r,C,d,_,_,Z,a,b.cl,b.n2,Z,_,_,Z,Z,_,Z,?_];by_cases c:m<=(t:Int)
 .refine cn (M9 c) λx N=>?_;exact#[x,L,θ,Z,jb,X.xc,X.ty,λT u=>e c () _ (Kp.of_same$ XU N u)]
 .exact aT (M5 c)$ n _ _ #[_,Z,r,C,d,_,_,Z,a,b.cl,b.n4,Z,_,_,Z,Z,d,_,a,(by show 5 < 1000;decide),q VV]
theorem EX:ai ["self","cell"] ["self","cell"] (ae wz):=bN
theorem As(F:aQ K "number_in" "Turns.number_in" wz f p)(b:RK K C):ah P w K mg base aE 1 f p ["self","cell"] (gK C):=by
 refine F.ok EX λu A o s H V Q E g h=>?_
 let⟨r,d,i,l,x,m,c,t,L,j,rfl,a,q⟩:=h;refine#[_,(jg$ jm$ kQ (QQ$ @Em _ _ _ _ _ (zI g) (pv 1)$ j6 (pv 0) Z) (Az (zI g) (j6 (pv 0) Z) (pv 1) (λ_ _=>Z))$ @Kw _ _ _ _ _ _ _ _ _ (zI g) (j6 (pv 0) Z) (pv 1) jf #[VY,VY,VY,VY]),?_];refine#[_,Z,_,Z,r,C,d,_,_,Z,a.ins,b.cl,b.n3,Z,l,_,Z,gq.k (k:=.inl c) a.lf,_,Z,?_];cases e:b6 L (.inl c) with
 |some v=>refine cn Z #[_,Z,r,C,d,_,_,Z,a.ins,b.cl,b.n3,Z,_,Z,l,v,Z,by rw[<- e];exact gq.k (k:=.inl c) a.lf,?_];rw[rJ a.iL e$ look j (.inl c) 0];exact q
 |none=>refine aT Z #[_,Z,r,C,d,_,_,Z,a.ins,b.cl,b.n1,Z,i,Z,.inl #[_,.inl a.ce],_,Z,_,gq.k (k:=.inl c) a.ce,?_];rw[Ky a.iC];rw[rH e]at q;exact q
noncomputable abbrev vX:cv:=bp (bP 55) 0
noncomputable abbrev AN:cv:=bp (bP 55) 1
noncomputable abbrev AO:cv:=bp (bP 55) 2
abbrev EO:cv:=bP 56
inductive Sk where
 |nil |st (n:Int) (hs:List Int) (w r:Sk) |ask (b:Int) |rd (c i:Int) |wr (c i:Int) |cl (f:ρ) (is:List Int) (s:Sk) (a:Int)
noncomputable def Sk.dep:Sk->Nat
 | .st _ _ w r=>max w.dep r.dep
 | .cl _ _ s _=>s.dep+1
 |_=>0
noncomputable def Sk.size:Sk->Nat
 | .st _ _ w r=>w.size+r.size+1
 | .cl _ _ s _=>s.size
 |_=>0
noncomputable def Sk.ok:Bool->Sk->Prop
 |true,.nil=>True
 |true,.st _ _ w r=>w.ok ξ/\r.ok μ
 |false,.cl _ _ s _=>s.ok μ
 |false,.ask _=>True
 |false,.rd _ _=>True
 |false,.wr _ _=>True
 |_,_=>False
def dD(H:Hp):Sk->V->List V->Prop
 | .nil,_,x=>x=[]
 | .st n d w r,_,x=>∃p h u y,x= .ref p::y/\H p=δ (.tup [.int n,.ref h,u])/\H h=δ (.tup (d.map rz))/\dD H w u []/\dD H r .non y
 | .ask b,u,_=>∃p,u= .ref p/\H p=δ (.tup [.str "ask",.int b])
 | .rd c i,u,_=>∃p,u= .ref p/\H p=δ (.tup [.str "read",.int c,.int i])
 | .wr c i,u,_=>∃p,u= .ref p/\H p=δ (.tup [.str "write",.int c,.int i])
 | .cl f I s a,u,_=>∃p c g e S,u= .ref p/\H p=δ (.tup [.str "call",.ref c])/\H c=δ (.tup [.str f,.ref g,.ref e,.int a])/\H g=δ (.tup (I.map rz))/\H e=δ (.tup S)/\dD H s .non S
theorem dD.mono(k:ax H i):∀{s:Sk} {u:V} {x:List V},dD H s u x->dD i s u x
 | .nil,_,_,h=>h
 | .st _ _ _ _,_,_,z=>by let⟨p,h,u,y,e,a,b,d,f⟩:=z;exact #[p,h,u,y,e,k _ _ a,k _ _ b,dD.mono k d,dD.mono k f]
 | .ask _,_,_,z=>by let⟨p,e,h⟩:=z;exact #[p,e,k _ _ h]
 | .rd _ _,_,_,z=>by let⟨p,e,h⟩:=z;exact #[p,e,k _ _ h]
 | .wr _ _,_,_,z=>by let⟨p,e,h⟩:=z;exact #[p,e,k _ _ h]
 | .cl _ _ _ _,_,_,z=>by let⟨p,c,g,e,S,E,a,b,d,f,j⟩:=z;exact #[p,c,g,e,S,E,k _ _ a,k _ _ b,k _ _ d,k _ _ f,dD.mono k j]
noncomputable def Sk.put(n:Int)(h:List Int)(W:Sk):Sk->Sk
 | .st a b c r=>.st a b c (Sk.put n h W r)
 |_=>.st n h W .nil
theorem vS{H:Hp}{n:Int}{a:List Int}{w:Sk}{p h:η}{u:V}(b:H p=δ (.tup [.int n,.ref h,u]))(c:H h=δ (.tup$ a.map rz))(d:dD H w u []):∀{s:Sk} {x:List V},s.ok μ->dD H s .non x->dD H (Sk.put n a w s) .non (x++[.ref p])
 | .nil,_,_,e=>by let e:_=[]:=e;rw[e];exact#[p,h,u,[],Z,b,c,d,Z]
 | .st _ _ _ r,_,o,z=>by let⟨f,g,U,y,e,i,j,k,l⟩:=z;rw[e];exact#[f,g,U,y++[.ref p],Z,i,j,k,vS b c d o.2 l]
theorem Q7{w:Sk}(h:w.ok ξ):∀{s:Sk},s.ok μ->(Sk.put n H w s).ok μ
 | .nil,_=>#[h,trivial]
 | .st _ _ _ _,o=>#[o.1,Q7 h o.2]
theorem Kz{n:Int}{hs:List Int}{w:Sk}:∀{s:Sk},s.ok μ->(Sk.put n hs w s).size=s.size+(w.size+1)
 | .nil,_=>by show w.size+0+1=0+(w.size+1);omega
 | .st _ _ c r,o=>by let:=Kz (n:=n) (hs:=hs) (w:=w) (s:=r) o.2;show c.size+(Sk.put n hs w r).size+1=c.size+r.size+1+(w.size+1);omega
theorem Q8{n:Int}{hs:List Int}{w:Sk}{j:Nat}(H:w.dep<=j):∀{s:Sk},s.ok μ->s.dep<=j->(Sk.put n hs w s).dep<=j
 | .nil,_,_=>by show max w.dep 0<=j;omega
 | .st _ _ c r,o,h=>by let h:max c.dep r.dep<=j:=h;let:=Q8 (n:=n) (hs:=hs) H (s:=r) o.2 VV;show max c.dep (Sk.put n hs w r).dep<=j;omega
theorem qr:∀{s:Sk} {x:List V},s.ok μ->dD H s .non x->x.length<=s.size
 | .nil,_,_,e=>by let e:_=[]:=e;rw[e];exact M0 0
 | .st _ _ w r,_,o,z=>by let⟨_,_,_,y,e,_,_,_,h⟩:=z;let:=qr o.2 h;rw[e];show y.length+1<=w.size+r.size+1;omega
def i6(H:Hp)(f:ρ)(i:List Int)(s:Sk)(a:Int)(u:V):Prop:=∃c g e S,u= .ref c/\H c=δ (.tup [.str f,.ref g,.ref e,.int a])/\H g=δ (.tup$ i.map rz)/\H e=δ (.tup S)/\dD H s .non S
noncomputable def Sk.wh:Sk->Wh
 | .ask b=>.ask b
 | .rd c i=>.rd c i
 | .wr c i=>.wr c i
 | .cl f I _ a=>.cl f I a
 |_=>.ask 0
theorem IE{s:Sk}(o:s.ok ξ)(h:dD H s u []):CM H u s.wh:=by
 cases s with
 |nil |st=>exact o.elim
 |ask b |rd c i |wr c i=>exact h
 |cl f I s a=>let⟨p,c,g,e,S,E,d,j,k,_⟩:=h;exact#[p,c,g,.ref e,E,d,j,k]
inductive Gd where
 |give (a:Int) |go (n:Nat) (hs:List Int)
noncomputable def i9(N:Nat->List ρ)(k:aZ):Gl->Gd
 | .give _ T=>.give (T.ev k)
 | .nought=>.give 0
 | .go n=>.go n ((N n).map λx=>look k (.inr x) 0)
structure Fv where
 nm:List ρ
 e:DD
 ws:List WD
structure dM where
 f:ρ
 ps:List ρ
 way:WD
 cs:List Fv
structure FQ(H:Hp)(ys:List ρ)(nA:η)(d:Df)(c:Ct)(cd:Fv):Prop where
 nm:cd.nm=canon c.M
 ed:cd.e.dd=c.d
 dv:yd H ys cd.e
 cs:cd.e.Cs d.b.calls
 len:cd.ws.length=c.ws.length
 ws:∀(j:Nat) (w:Wy) (wd:WD),c.ws[j]?=δ w->cd.ws[j]?=δ wd->wd.wy nA=w/\xZ H ys d.b.cuts d.b.size wd
structure yi(H:Hp)(nA:η)(d:Df)(ys:List ρ)(pd:dM):Prop where
 f:pd.f=d.f
 ps:H d.pa=δ (.tup$ pd.ps.map ry)
 wy:pd.way.wy nA=(hZ nA d).1.w
 wv:xZ H ys d.b.cuts d.b.size pd.way
 len:pd.cs.length=(bY nA d).length
 cs:∀(n:Nat) (c:Ct) (cd:Fv),(bY nA d)[n]?=δ c->pd.cs[n]?=δ cd->FQ H ys nA d c cd
theorem FQ.mono(k:ax H f)(h:FQ H y n d c C):FQ f y n d c C:=#[h.nm,h.ed,h.dv.mono k,h.cs,h.len,λj w W a b=>let #[e,v]:=h.ws j w W a b;#[e,v.mono k]]
theorem yi.mono(k:ax H e)(h:yi H N d y p):yi e N d y p:=#[h.f,k _ _ h.ps,h.wy,h.wv.mono k,h.len,λn c C a b=>(h.cs n c C a b).mono k]
theorem yo{c d:Type}{R:c->d->Prop}:∀(l:List c),(∀a∈l,∃b,R a b)->∃m:List d,m.length=l.length/\∀(i:Nat) (a:c) (b:d),l[i]?=δ a->m[i]?=δ b->R a b
 | [],_=>#[[],Z,λi a b h=>by simp at h]
 |a::l,h=>by
  let⟨b,g⟩:=h a No;let⟨m,e,j⟩:=yo l λx k=>h x (Nv _ k);refine#[b::m,by rw[Nz,Nz,e],λi x y H f=>?_];cases i with
  |zero=>cases H;cases f;exact g
  |succ i=>exact j i x y (by simpa using H) (by simpa using f)
noncomputable def uY(p:dM)(n:Nat):List ρ:=match p.cs[n]? with
 |some c=>c.nm
 |none=>[]
theorem yi.nms(h:yi H N d y p):eM N d=uY p:=by
 funext n;unfold eM uY;by_cases a:n < p.cs.length
 .let b:n < (bY N d).length:=by rw[<- h.len];exact a
  rw[MV a,MV b];exact(h.cs n _ _ (MV b)$ MV a).nm.symm
 .rw[Ob$ RC a,Ob (by rw[<- h.len];exact RC a)]
inductive OW where
 |ok (w:Sk) (L:aZ) (t:Nat) |long |deep
inductive OC where
 |ok (s:Sk) (a:Int) (L:aZ) (t:Nat) |long |deep
noncomputable def OC.cons(n:Int)(h:List Int)(w:Sk):OC->OC
 | .ok s a L t=>.ok (.st n h w s) a L t
 | .long=>.long
 | .deep=>.deep
noncomputable def Sk.app:Sk->Sk->Sk
 | .st n h w r,s=>.st n h w (r.app s)
 |_,s=>s
noncomputable def OC.pre(S:Sk):OC->OC
 | .ok s a L t=>.ok (S.app s) a L t
 | .long=>.long
 | .deep=>.deep
theorem XV:∀{s:Sk},s.ok μ->s.app .nil=s
 | .nil,_=>rfl
 | .st n h w r,o=>by show Sk.st n h w (r.app .nil)=_;rw[XV o.2]
theorem ZH{w:Sk}:∀{s:Sk},s.ok μ->(Sk.put n h w s).app q=s.app (.st n h w q)
 | .nil,_=>rfl
 | .st a b c r,o=>by show Sk.st a b c ((Sk.put n h w r).app q)=Sk.st a b c (r.app (.st n h w q));rw[ZH o.2]
theorem vO{w s:Sk}(o:OC)(h:s.ok μ):(o.cons n H w).pre s=o.pre (Sk.put n H w s):=by
 cases o with
 |ok q a L t=>show OC.ok (s.app (.st n H w q)) a L t= .ok ((Sk.put n H w s).app q) a L t;rw[ZH h]
 |long |deep=>rfl
abbrev n9:=ρ->List Int->aZ->Nat->OC
noncomputable def OC.cl(f:ρ)(i:List Int):OC->OW
 | .ok s a L t=>.ok (.cl f i s a) L t
 | .long=>.long
 | .deep=>.deep
noncomputable def ip(call:n9)(C:aZ)(k L:aZ)(t:Nat)(e:DD):OW:=if t < 60 then match e with
 | .ask _ T=>.ok (.ask (if T.ev k=0 then 0 else 1)) L (t+1)
 | .st _ (.rd _ _ T)=>.ok (.rd (T.ev k) (look L (.inl (T.ev k)) (look C (.inl (T.ev k)) 0))) L (t+1)
 | .st _ (.wr _ _ T U)=>.ok (.wr (T.ev k) (U.ev k)) (a9 L (.inl (T.ev k)) (.int (U.ev k))) (t+1)
 | .st _ (.cl _ f _ a)=>(call f (a.map λc=>c.2.ev k) L (t+1)).cl f (a.map λc=>c.2.ev k)
 |_=>.long
 else .long
theorem ZI{call:n9}(h:¬t < 60):ip call C k L t e= .long:=by unfold ip;rw[Na h]
theorem Ys{call:n9}(h:t < 60):ip call C k L t (.ask p T)= .ok (.ask (if T.ev k=0 then 0 else 1)) L (t+1):=by unfold ip;rw[M7 h]
theorem tV{call:n9}(h:t < 60):ip call C k L t (.st p$ .rd x a T)= .ok (.rd (T.ev k)$ look L (.inl$ T.ev k)$ look C (.inl$ T.ev k) 0) L (t+1):=by unfold ip;rw[M7 h]
theorem tW{call:n9}(h:t < 60):ip call C k L t (.st p$ .wr a b T U)= .ok (.wr (T.ev k)$ U.ev k) (a9 L (.inl$ T.ev k)$ .int$ U.ev k) (t+1):=by unfold ip;rw[M7 h]
theorem Qp{call:n9}(h:t < 60):ip call C k L t (.st p$ .cl x f q T)=(call f (T.map λc=>c.2.ev k) L$ t+1).cl f (T.map λc=>c.2.ev k):=by unfold ip;rw[M7 h]
noncomputable def Ee(p:dM)(c:Fv)(h:List Int)(w:Wh):Gd:=match c.ws[w.side]? with
 |some W=>i9 (uY p) (dm W.sets (sU c.e w (aP c.nm h))) W.goal
 |none=>.give 0
noncomputable def n8(call:n9)(C:aZ)(p:dM):Nat->Gd->aZ->Nat->OC
 |0,_,_,_=>.long
 |_+1,.give a,L,t=>.ok .nil a L t
 |m+1,.go n h,L,t=>match p.cs[n]? with
  |none=>.long
  |some c=>match ip call C (aP c.nm h) L t c.e with
   | .ok w l T=>(n8 call C p m (Ee p c h w.wh) l T).cons (n:Int) h w
   | .long=>.long
   | .deep=>.deep
noncomputable def eP:List dM->ρ->Option dM
 | [],_=>θ
 |p::r,f=>if p.f=f then δ p else eP r f
theorem ZJ:∀{b:List dM} {i:Nat} {a:dM},b[i]?=δ a->(∀(j:Nat) (p:dM),j < i->b[j]?=δ p->p.f≠a.f)->eP b a.f=δ a
 | [],i,a,h,_=>by simp at h
 |p::r,0,a,h,_=>by cases h;show(if p.f=p.f then δ p else _)=_;rw[M7 Z]
 |p::r,i+1,a,h,k=>by show(if p.f=a.f then δ p else eP r a.f)=_;rw[Na$ k 0 p (Nat.succ_pos _) Z];exact ZJ (i:=i) (by simpa using h) λj q H c=>k (j+1) q (Nat.succ_lt_succ H) (by simpa using c)
noncomputable def ci(p:List dM)(C:aZ):Nat->n9
 |0=>λ_ _ _ _=>.deep
 |j+1=>λf i L t=>match eP p f with
  |none=>.long
  |some a=>n8 (ci p C j) C a 62 (i9 (uY a) (dm a.way.sets (aP a.ps i)) a.way.goal) L t
structure Ps(H:Hp)(nA pA:η)(ds:List Df)(ns:List Nat)(xs:List V)(pds:List dM):Prop where
 at':H pA=δ (.tup xs)
 tr:aR H (ay$ ds.map$ fz nA) .non xs
 dv:∃zs,cQ H ds zs
 ok:sW ds ns
 pa:mP H ds ns
 dl:pds.length=ds.length
 pr:∀(i:Nat) (d:Df) (pd:dM),ds[i]?=δ d->pds[i]?=δ pd->∃ys,(d.b.Ok ys/\ys.length<=20)/\yi H nA d ys pd
theorem Ps.mono(h:Ps H n c D N x p)(k:ax H e):Ps e n c D N x p:=#[k _ _ h.at',h.tr.mono k,let #[f,z]:=h.dv;#[f,z.mono k],h.ok,h.pa.mono k,h.dl,λi d g a b=>let #[Y,y,r]:=h.pr i d g a b;#[Y,y,r.mono k]]
theorem ZK(h:aR H (fz n d) v []):FF H v d.f:=by obtain⟨_,a,x,rfl,b,_,_,Y,y,rfl,⟨rfl,_⟩,_⟩:=h;exact#[a,_,Z,b]
theorem ue:∀{D:List Df} {z:List V},cQ H D z->∀{i:Nat} {d:Df},D[i]?=δ d->∃B,dJ H d.b B
 |_::_,_,q,0,d,a=>by obtain⟨u,r,e,⟨B,_,_,_,h⟩,c⟩:=q;cases a;exact#[B,h]
 |_::_,_,#[u,r,e,_,c],i+1,d,a=>ue c (by simpa using a)
section
variable {H:Hp}{nA pA:η}{ds:List Df}{ns:List Nat}{xs:List V}{pds:List dM}
theorem Ps.part(h:Ps H nA pA ds ns xs pds){i:Nat}{d:Df}{v:V}(b:ds[i]?=δ d)(q:xs[i]?=δ v):∃y c,mZ H nA d y v/\pds[i]?=δ c/\yi H nA d y c/\eP pds d.f=δ c:=by
 let⟨T,n,t⟩:=qP h.tr i v q;rw[Ni,b]at n;cases n;let⟨z,r⟩:=h.dv;let⟨_,_,s⟩:=(h.ok.1 d$ Nc b).1;let u:i < ds.length:=(ν.mp b).1;let g:pds[i]?=δ (pds[i]'(by rw[h.dl];exact u)):=MV _;obtain⟨y,⟨O,Y⟩,k⟩:=h.pr i d _ b g;refine#[y,_,#[t,ue r b,O,Y,s],g,k,?_];rw[<- k.f];refine ZJ g λj p A l e=>?_;let a:j < ds.length:=by omega
 let⟨_,_,m⟩:=h.pr j _ p (MV a) l;rw[m.f,k.f]at e;let x:(ds.map Df.f)[j]?=δ (ds[j]).f:=by rw[Ni,MV a];rfl
 let o:(ds.map Df.f)[i]?=δ d.f:=by rw[Ni,b];rfl
 rw[<- e]at o;let:=(Sj (by rw[MY];exact a) h.ok.2.1).mp (x.trans o.symm);omega
theorem Ps.cs(h:Ps H nA pA ds ns xs pds){i:Nat}{d:Df}(a:ds[i]?=δ d):∀f∈d.b.calls,f∈(ds.map Df.f).zip ns:=zG (h.ok.1 d$ Nc a).2
theorem Ps.at(h:Ps H nA pA ds ns xs pds){i:Nat}{d:Df}(b:ds[i]?=δ d):∃v,xs[i]?=δ v/\aR H (fz nA d) v []/\FF H v d.f/\∀j x,j < i->xs[j]?=δ x->∃g,FF H x g/\g≠d.f:=by
 let L:=zi h.tr;rw[MY]at L;let r:i < ds.length:=(ν.mp b).1;let t:∀(j:Nat) (x:V),xs[j]?=δ x->∃c,ds[j]?=δ c/\aR H (fz nA c) x []:=λj x k=>by let⟨s,m,t⟩:=qP h.tr j x k;rw[Ni]at m;let⟨c,a,rfl⟩:=dg.mp m;exact#[c,a,t]
 let n:xs[i]?=δ (xs[i]'VV):=MV VV;let⟨c,a,T⟩:=t _ _ n;rw[b]at a;cases a;refine#[_,n,T,ZK T,λj x u k=>?_];let⟨c,a,q⟩:=t j x k;refine#[c.f,ZK q,λe=>?_];let o:(ds.map Df.f)[j]?=δ c.f:=by rw[Ni,a];rfl
 let p:(ds.map Df.f)[i]?=δ d.f:=by rw[Ni,b];rfl
 rw[<- e]at p;let l:j < (ds.map Df.f).length:=(ν.mp o).1;let:=(Sj l h.ok.2.1).mp (o.trans p.symm);omega
theorem Ps.find(h:Ps H nA pA ds ns xs pds)(a:(f,n)∈(ds.map Df.f).zip ns):∃(i:Nat) (d:Df),ds[i]?=δ d/\ns[i]?=δ n/\d.f=f:=by
 let⟨i,b,e⟩:=jq.mp a;let E:((ds.map Df.f).zip ns)[i]?=δ (f,n):=by rw[<- e];exact MV b
 rw[Tb]at E;rw[Ni]at E;let⟨d,c,g⟩:=dg.mp E.1;exact#[i,d,c,E.2,g]
end
theorem Rn.tm{H H':Hp}(h:Rn H C r d c l p m t L a)(k:aM r l H H'):ax H H':=λb x e=>k b _ (jP e h.ins (by intro z;cases z)) (jP e h.lf (by intro z;cases z)) e
theorem Rn.same(h:Rn H C r d c l p m t L a)(s:aa H b):Rn b C r d c l p m t L a:=#[s _ _ h.ins,s _ _ h.lf,s _ _ h.ce,h.iL,h.iC,h.cl]
theorem Rn.rl(h:Rn H C r d c l p m t L a):r≠l/\r≠c:=#[jP h.ins h.lf (by intro z;cases z),jP h.ins h.ce (by intro z;cases z)]
def Fz(r l:η)(H h:Hp):Prop:=∀b o,b≠r->b≠l->NX o->H b=δ o->h b=δ o
theorem Fl.next(h:Fl E L (Fz r l H)):Fl (oZ E) L (Fz r l H):=λd i k x T t c e a j f=>by cases e;exact h d _ λb o N g n e=>Kb (H:=H) (k b o N g n e) n a f
theorem Fl.nextK(h:Fl E L (Kp H)):Fl (oZ E) L (Kp H):=λd g k x T t c e a i f=>by cases e;exact h d _ λb o n e=>Kb (H:=H) (k b o n e) n a f
theorem Fl.mono{R S:Hp->Prop}(h:Fl E L R)(k:∀H,S H->R H):Fl E L S:=λd H s=>h d H (k H s)
inductive mJ(C:η)(e:List V)(H:Hp)(Q:VK)(a:XK):Prop
 |mk(r c d b:η)(m:Int)(_:e=[.ref r,.ref d,.ref b,.int m])(_:H r=δ (.ins C c []))(_:∀lA,H lA=θ->Q .non (af (af H lA (.dK [])) r (.ins C c (iB b lA d m 0))))
def on(A B:Prop)(E:XK)(T t:η)(R:Hp->Prop):Prop:=(A->Fl E T R)/\(B->Fl E t R)
theorem on.mono{R S:Hp->Prop}(h:on A B E T t R)(k:∀H,S H->R H):on A B E T t S:=#[λa=>(h.1 a).mono k,λb=>(h.2 b).mono k]
theorem on.next(h:on A B E T t (Fz r l H)):on A B (oZ E) T t (Fz r l H):=#[λa=>(h.1 a).next,λb=>(h.2 b).next]
theorem on.imp{R:Hp->Prop}(h:on A B E T t R)(a:c->A)(b:d->B):on c d E T t R:=#[λx=>h.1 (a x),λx=>h.2 (b x)]
inductive d9(C g f p:η)(j:Nat)(w:List V)(H:Hp)(Q:VK)(E:XK):Prop
 |mk(r m k o s h:η)(b t i:Nat)(L e:aZ)(v:V)(d:Df)(l:List Df)(q:List Nat)(x:List V)(c:List dM)(n:List Int)(_:w=[.ref r,v,.ref h,.int (b:Int)])(_:b+j=16)(_:1<=j)(_:Rn H C r m k o s 60 t L e)(_:L.length<=t)(_:t<=60)(_:Ps H p s l q x c)(_:l[i]?=δ d)(_:q[i]?=δ n.length)(_:x[i]?=δ v)(_:H h=δ (.tup (n.map rz)))(_:∀z∈n,fu z)(_:∀(u:V) (sk:Sk) (a:Int) (L':aZ) (H':Hp),ci c e j d.f n L t= .ok sk a L' (t+sk.size)->i6 H' d.f n sk a u->sk.ok μ->sk.dep+1<=j->fu a->Rn H' C r m k o s 60 (t+sk.size) L' e->L'.length<=t+sk.size->t+sk.size<=60->aM r o H H'->Q u H')(_:on (ci c e j d.f n L t= .long) (ci c e j d.f n L t= .deep) E g f (Fz r o H))
inductive oN(C f d m:η)(j:Nat)(p:List V)(H:Hp)(Q:VK)(E:XK):Prop
 |mk(r i g l o:η)(a t:Nat)(L c k:aZ)(u:V)(e:DD)(s:List ρ)(h:List Df)(n:List Nat)(q:List V)(b:List dM)(_:p=[.ref r,u,.int (a:Int)])(_:a+j=15)(_:Rn H C r i g l o 60 t L c)(_:L.length<=t)(_:t<=60)(_:Ps H m o h n q b)(_:aR H (tR k e) u [])(_:yd H s e)(_:GT k)(_:e.Cs ((h.map Df.f).zip n))(_:∀(w:Sk) (v:V) (L':aZ) (H':Hp),ip (ci b c j) c k L t e= .ok w L' (t+1+w.size)->dD H' w v []->w.ok ξ->Fy e w.wh->w.dep<=j->Rn H' C r i g l o 60 (t+1+w.size) L' c->L'.length<=t+1+w.size->t+1+w.size<=60->aM r l H H'->Q v H')(_:on (ip (ci b c j) c k L t e= .long) (ip (ci b c j) c k L t e= .deep) E f d (Fz r l H))
theorem EV:ai z24z z24z (ae vX):=bN
theorem Am(F:aQ K "__init__" "BookRun.__init__" vX f t)(j:RK K C)(GT:ah P w K mg base aE 1 u c z23z (mM C))(B:aC K c z23z [])(M:mg "Turns"=↑T)(v:CD K T "__init__" u):ah P w K mg base aE 2 f t z24z (mJ C):=by
 refine F.ok EV λx A o s H V Q E y h=>?_
 let⟨r,d,z,k,m,rfl,g,q⟩:=h;refine#[_,(jd (jH$ @Ay _ _ _ _ _ _ _ _ _ _ _ _ _ _ _ _ _ _ _ _ Z M v GT y.m B .nil a8 (ja (pv 0)$ ja (pv 2)$ ja (pv 3) jc) VU VY VY VY)$ jg$ @zB _ _ _ _ _ _ _ _ (pv 0) (pv 1) Z),?_];refine aj λD n=>#[_,Z,_,Z,_,Z,r,d,k,m,Z,g,λL N=>n _ _ ?_];clear n;refine#[_,Z,_,Z,r,C,d,_,Z,jb,j.cl,j.n5,(by show 4 < 1000;decide),?_];let e:∀(i:Hp) (p O:HO),af (af i r p) r O=af i r O:=λi p O=>by
  funext b;by_cases a:b=r
  .rw[a,jb,jb]
  .rw[jh a,jh a,jh a]
 rw[e];exact q L N
theorem Jd(h:aR H (aA t) u []):∃a x,u= .ref a/\H a=δ (.tup x)/\aR H (ay t) .non x:=let #[_,a,x,e,b,c]:=h;#[a,x,e,b,c]
theorem zq(h:aR H (ay (t::T)) .non x):∃y Y,x=y::Y/\aR H t y []/\aR H (ay T) .non Y:=let #[_,_,y,Y,e,a,b]:=h;#[y,Y,e,a,b]
theorem Q9(h:aR H (aK x) y []):y= .str x:=h.1
theorem Je(h:aR H (aq n) y []):y= .int n:=h.1
theorem Jo:∀{I:List Int} {v:List V},aR H (ay$ I.map aq) .non v->v=I.map rz
 | [],v,h=>h
 |i::I,v,h=>by let⟨y,Y,rfl,a,b⟩:=zq h;rw[Je a,Jo b];rfl
theorem Kc{H:Hp}{w:ρ}{t:List Tr}{u:V}(h:aR H (aA (aK w::t)) u []):∃a x,u= .ref a/\H a=δ (.tup (.str w::x))/\aR H (ay t) .non x:=by let⟨a,x,rfl,b,h⟩:=Jd h;let⟨y,Y,rfl,c,d⟩:=zq h;rw[Q9 c]at b;exact#[a,Y,Z,b,d]
theorem JF{H:Hp}{w:ρ}{i:Int}{u:V}(h:aR H (aA [aK w,aq i]) u []):∃a,u= .ref a/\H a=δ (.tup [.str w,.int i]):=by let⟨a,x,rfl,b,h⟩:=Kc h;let⟨y,Y,rfl,c,d⟩:=zq h;let e:Y=[]:=d;rw[Je c,e]at b;exact#[a,Z,b]
theorem Yt{H:Hp}{w:ρ}{i:Int}{t:Tr}{u:V}(h:aR H (aA [aK w,aq i,t]) u []):∃a y,u= .ref a/\H a=δ (.tup [.str w,.int i,y])/\aR H t y []:=by let⟨a,x,rfl,b,h⟩:=Kc h;let⟨y,Y,rfl,c,d⟩:=zq h;let⟨z,f,rfl,g,j⟩:=zq d;let e:f=[]:=j;rw[Je c,e]at b;exact#[a,z,Z,b,g]
theorem HR:ai z19z z19z (ae AO):=bN
theorem DS(F:aQ K "what_of" "BookRun.what_of" AO f fd)(ck:RK K C)(GT:ah P w K mg base (gj P w) 1 fT f0 ["self"] (iW C TL))(bT:aC K f0 ["self"] [])(m0:bj K C "take_turn" fT)(GI:ah P w K mg base aE 1 fI f2 ["self","cell"] (gK C))(bI:aC K f2 ["self","cell"] [])(m1:bj K C "number_in" fI)(GD:ah P w K mg base (gj P w) 1 fD f3 ["deep"] (fc TD))(bD:aC K f3 ["deep"] [])(kD:iv K (.ref fD)=μ)(mD:mg "deeper"=↑fD)(cP:Cl P w K mg base 2 fP f6 ["parts","f"] iT "part_of")(GC:ah P w K mg base (gj P w) (2*j+12) fC f4 z13z (d9 C TL TD nA j))(bC:aC K f4 z13z [])(m2:bj K C "chain_of" fC):ah P w K mg base (gj P w) (2*j+13) f fd z19z (oN C TL TD nA j):=by
 refine F.ok1 HR λc5 A o2 s H vs Q E hr h=>?_
 let⟨r,D,W,I,O,M,t,L,Cs,k,u,e,ys,ds,ns,X,p1,rfl,h4,J,h5,ht,hP,B,h0,hk,h1,q,t0⟩:=h;refine#[_,(jd (jH$ vH (pv 0) ck.cl m0 GT hr.m bT .nil zX)$ jd (jy (jW$ jv$ pv 1) (jg$ jm$ jl$ ja jw$ ja (jv$ pv 1)$ ja (j7 (pv 0) ck.cl m1 GI hr.m bI .nil a8$ ja (jv$ pv 1) jc) jc) jo)$ jd (jy (jW$ jv$ pv 1) (jg$ jm$ jl$ ja jw$ ja (j7 (pv 0) ck.cl m2 GC hr.m bC .nil zX$ ja (cP.e hr.m$ ja (j6 (pv 0) Z)$ ja (jv$ pv 1) jc)$ ja (jv$ pv 1)$ ja (kS GD hr.m Z mD kD bD .nil zX$ ja (pv 2) jc) jc) jc) jo)$ jd (jy (jW$ jv$ pv 1) (jg$ q9 (zI hr) (j6 (pv 0) Z) (jv$ pv 1) (jv$ pv 1) Z) jo)$ jg$ jm$ pv 1),?_];let b0:=aJ;refine aj λY n=>#[_,Z,r,D,_,Z,J.ins,Z,r,D,W,I,O,60,t,Z,J.ins,λlt=>n _ _ ?_,λge=>((t0.1$ ZI VV).mono λH' kk=>λb o _ _ nx e=>kk b o nx e).nextK];clear n;let t1:ax H (af H r$ .ins C D$ iB W I O 60$ t+1):=λb X e=>by rw[jh$ jP e J.ins (by intro z;cases z)];exact e
 let R:Rn (af H r$ .ins C D$ iB W I O 60$ t+1) C r D W I O 60 (t+1) L Cs:=#[jb,by rw[jh J.rl.1.symm];exact J.lf,by rw[jh J.rl.2.symm];exact J.ce,J.iL,J.iC,J.cl];let k1:aM r I H (af H r$ .ins C D$ iB W I O 60$ t+1):=λb o n1 n2 e=>by rw[jh n1];exact e
 generalize af H r (.ins C D$ iB W I O 60$ t+1)=H1 at t1 R k1;let B:=B.mono t1;let lt':t+1<=60:=by omega
 let f5:∀(w:Sk) (X:List V) (S:Hp) (v:η),S v=θ->dD (af S v$ .tup X) w (.ref v) []->w.ok ξ->ip (ci p1 Cs j) Cs k L t e= .ok w L (t+1)->Fy e w.wh->w.size=0->w.dep<=j->H1=S->Q (.ref v) (af S v$ .tup X):=λw X S v nv hw ok eq ft sz dp e2=>by subst e2;exact q w _ L _ (by rw[sz];exact eq) hw ok ft dp (by rw[sz];exact R.same$ je nv) VV VV$ k1.trans$ aM.of_same$ je nv
 cases e with
 |ask ta T=>
  let⟨p,rfl,G⟩:=JF B;refine aj λY n=>(jp G Z #[Z,_,Z,aT VX$ n _ _ ?_]);clear n;refine aj λY n=>(jp G Z #[Z,_,Z,aT VX$ n _ _ ?_]);clear n;refine aj λY n=>(jp G Z #[Z,_,Z,aT VX$ n _ _ ?_]);clear n;refine#[_,Z,q (.ask (if T.ev k=0 then 0 else 1)) _ L _ (Ys VV) #[p,Z,G] trivial ?_ (M6 _) R (by show L.length<=t+1+0;omega) lt' k1];show(if T.ev k=0 then (0:Int) else 1)=0∨(if T.ev k=0 then (0:Int) else 1)=1;split
  .exact .inl Z
  .exact .inr Z
 |st p0 l=>
  let⟨vs,_,h6,o1,c0⟩:=h0;cases l with
  |gv ta T |st x ta T=>cases c0
  |rd x ta T=>let⟨p,rfl,G⟩:=JF B;refine aj λY n=>(jp G Z #[Z,_,Z,cn VX$ jp G Z #[_,Z,r,D,_,Z,R.ins,Z,jp G Z #[r,D,W,I,O,60,_,_,_,_,Z,R,ie,λv nv=>?_]]]);exact f5 (.rd (T.ev k)$ look L (.inl$ T.ev k)$ look Cs (.inl$ T.ev k) 0) _ _ v nv #[v,Z,jb] trivial (tV VV) (J9 R.iL$ J9 R.iC Jc) Z (M6 _) Z
  |wr ta ub T U=>
   let⟨p,y,rfl,G,hy⟩:=Yt B;rw[Je hy]at G;refine aj λY n=>(jp G Z #[Z,_,Z,aT VX$ n _ _ ?_]);clear n;refine aj λY n=>(jp G Z #[Z,_,Z,aT VX$ n _ _ ?_]);clear n;refine aj λY n=>(jp G Z #[Z,_,Z,cn VX$ jp G Z #[_,Z,r,C,D,_,_,Z,R.ins,ck.cl,ck.n3,Z,jp G Z #[I,_,Z,oe.k (k:=.inl (T.ev k)) R.lf VV,n _ _ ?_]]]);clear n;let pl:=zT (kvs:=L) (k:=.inl (T.ev k)) (v:=.int (U.ev k));let t3:ax H1 (af H1 I$ .dK$ a9 L (.inl$ T.ev k)$ .int$ U.ev k):=λb X e=>by rw[jh$ jP e R.lf (by intro z;cases z)];exact e
   refine#[_,Z,q (.wr (T.ev k)$ U.ev k) _ (a9 L (.inl$ T.ev k)$ .int$ U.ev k) _ (tW VV) #[p,Z,t3 _ _ G] trivial trivial (M6 _) #[by rw[jh J.rl.1];exact R.ins,jb,by rw[jh J.cl];exact R.ce,R.iL.put _$ qX hk o1.2.1,R.iC,R.cl] (by show _<=t+1+0;omega) lt' λb o n1 n2 e=>?_];rw[jh n2];exact k1 b o n1 n2 e
  |cl x f q' ts=>
   let⟨p,y3,rfl,G,hy⟩:=Kc B;let⟨y1,y4,rfl,e1,hy⟩:=zq hy;let⟨y2,y0,rfl,e2,hy⟩:=zq hy;let e3:y0=[]:=hy;subst e3;rw[Q9 e1]at G;let⟨ag,a0,rfl,ha,N⟩:=Jd e2;let N:aR H1 (ay ((ts.map λc=>c.2.ev k).map aq)) .non a0:=by rw[OQ];exact N
   rw[Jo N]at ha;let⟨i,d,hd,hn,rfl⟩:=hP.find h1;let P1:=hP.mono t1;let⟨v,hv,_,h2,h3⟩:=P1.at hd;refine aj λY n=>(jp G Z #[Z,_,Z,aT VX$ n _ _ ?_]);clear n;refine aj λY n=>(jp G Z #[Z,_,Z,cn VX ?_]);clear n;refine#[_,Z,r,D,_,Z,R.ins,Z,_,Z,r,C,D,_,_,Z,R.ins,ck.cl,ck.n5,Z,jp G Z #[O,d.f,X,i,v,Z,P1.at',hv,h2,h3,jp G Z #[_,Z,(M:Int),Z,λdl=>?_,λdg=>((t0.2 (by let z:j=0:=VV;rw[Qp VV,z];rfl)).mono λS kk=>λb o n1 n2 nx e=>kk b o nx (k1 b o n1 n2 e)).nextK]]];refine#[r,D,W,I,O,ag,M+1,t+1,i,L,Cs,v,d,ds,ns,X,p1,ts.map λc=>c.2.ev k,Z,VV,VV,R,VV,lt',P1,hd,by rw[MY];exact hn,hv,ha,λz hz=>?_,λu sk a L' S eq hc ok dp ia R2 l2 t2 k2=>?_,on.next ((t0.imp (λz=>by rw[Qp VV,z];rfl) (λz=>by rw[Qp VV,z];rfl)).mono λS kk=>λb o n1 n2 nx e=>kk b o n1 n2 nx (k1 b o n1 n2 e))]
   .let⟨c,hc,rfl⟩:=dN.mp hz;exact qX hk (o1.2.2 c hc).1
   .let⟨c,g,ee,ss,rfl,c1,c2,c3,c4⟩:=hc;refine#[cp,λv2 nv=>?_];let s2:aa S (af S v2$ .tup [.str "call",.ref c]):=je nv;refine q (.cl d.f (ts.map λc=>c.2.ev k) sk a) _ L' _ (by rw[Qp VV,eq];rfl) #[v2,c,g,ee,ss,Z,jb,s2 _ _ c1,s2 _ _ c2,s2 _ _ c3,c4.mono$ aa.tm s2] ok ia (by show sk.dep+1<=j;omega) (R2.same s2) l2 t2 ((k1.trans k2).trans$ aM.of_same s2)
theorem CP:eU (s++[x]) (-1)=δ x:=by
 let l:(s++[x]).length=s.length+1:=by rw[MZ];rfl
 unfold eU yN;rw[l,Na VV,M7 VV];let e:(-1+((s.length+1:Nat):Int)).toNat=s.length:=by omega
 show(s++[x])[(-1+((s.length+1:Nat):Int)).toNat]?=_;rw[e];simp
inductive ye(H:Hp)(nA:η)(d:Df)(u:V):Gd->Prop
 |give (p:η) (a:Int) (e:u= .ref p) (h:H p=δ (.tup [.str "give",.int a])) (i:fu a):ye H nA d u (.give a)
 |go (p hv:η) (n:Nat) (c:Ct) (is:List Int) (e:u= .ref p) (h:H p=δ (.tup [.str "go",.int (n:Int),.ref hv])) (h2:H hv=δ (.tup (is.map rz))) (hc:(bY nA d)[n]?=δ c) (hl:is.length=(canon c.M).length) (hi:∀i∈is,fu i):ye H nA d u (.go n is)
theorem ye.mono(k:ax H b)(h:ye H N d u g):ye b N d u g:=by
 cases h with
 |give p a e h i=>exact .give p a e (k _ _ h) i
 |go p f n c I e h j l m o=>exact .go p f n c I e (k _ _ h) (k _ _ j) l m o
theorem QU{H:Hp}(h:aR f (uP (eM N d) k g) u [])(j:GT k)(l:FT H Y d.b.cuts g):ye f N d u (i9 (eM N d) k g):=by
 cases g with
 |give t T=>let⟨p,e,h⟩:=JF h;exact .give p _ e h (qX j l.2.1)
 |nought=>let⟨p,e,h⟩:=JF h;exact .give p 0 e h Jc
 |go n=>
  let⟨p,y,e,h,q⟩:=Yt h;let⟨a,X,rfl,m,c⟩:=Jd q;let r:n < (bY N d).length:=by rw[ZD];exact l
  let o:(bY N d)[n]?=δ (bY N d)[n]:=MV r;let c:aR f (ay (((eM N d n).map λx=>look k (.inr x) 0).map aq)) .non X:=by rw[OQ];exact c
  rw[Jo c]at m;refine .go p a n _ _ e h m o (by rw[MY,uZ o]) λi s=>?_;let⟨x,_,rfl⟩:=dN.mp s;exact J9 j Jc
inductive CI(a:n9)(K:dM)(h:OC)(C r o n F J l N G:η)(b t j:Nat)(i:aZ)(v:V)(d:Df)(H:Hp)(E:Nat)(P:_L.St)(k:Hp):Prop
 |mk(I:Option V)(u:V)(g:Gd)(m:Nat)(M:Sk)(O:List V)(L:aZ)(p:P=[↑r,δ v,↑l,δ (.int (b:Int)),↑N,δ u,I])(q:k N=δ (.lst O))(s:dD k M .non O)(w:M.ok μ)(x:M.dep+1<=j)(y:ye k G d u g)(z:Rn k C r o n F J 60 (t+M.size) L i)(A:L.length<=t+M.size)(B:t+M.size<=60)(D:aM r F H k)(c:E+t+M.size=61)(e:(n8 a i K m g L (t+M.size)).pre M=h)(f:62<=m+(t+M.size))
theorem ny:ai ["self","part","args","deep","steps","goal","what"] z13z (ae AN):=bN
theorem DO(F:aQ K "chain_of" "BookRun.chain_of" AN f fd)(ck:RK K C)(cF:Cl P w K mg base 9 fF f2 ["part","args"] (em nA) "first_of")(cD:Cl P w K mg base 9 fD f3 z9z (eh nA) "deed_at")(cO:Cl P w K mg base 9 fO f4 ["part","step"] (oM nA) "onward")(GW:ah P w K mg base (gj P w) (2*j+13) fW f0 z19z (oN C TL TD nA j))(bW:aC K f0 z19z [])(m0:bj K C "what_of" fW)(m1:mg "tuple"=θ):ah P w K mg base (gj P w) (2*j+14) f fd z13z (d9 C TL TD nA$ j+1):=by
 refine F.ok1 ny λc3 A o2 s H vs Q E hr h=>?_
 let⟨r,dx,cA,lA,pA,ag,U,t,i,L,y,v,d,ds,ns,xs,x,is,rfl,b3,_,hR,a0,ht,hP,hd,hn,hv,ha,h3,q,t4⟩:=h;refine#[_,(jd (jB 4 ny.nd$ jK jc)$ jd (jB 5 ny.nd$ cF.e hr.m$ ja (pv 1)$ ja (pv 2) jc)$ jd (Ku PassesOwn.leaving (jW$ jv$ pv 5)$ jd (jB 6 ny.nd$ j7 (pv 0) ck.cl m0 GW hr.m bW .nil zX$ ja (cD.e hr.m$ ja (pv 1)$ ja (jv$ pv 5)$ ja (jv$ pv 5) jc)$ ja (pv 3) jc)$ jd (jH$ j8 PySem.F.plainAttrs_list PySem.F.slot_list_append PySem.F.type_list_append jR (pv 4)$ ja (jl$ ja (jv$ pv 5)$ ja (jv$ pv 5)$ ja (pv 6) jc) jc)$ jg$ jB 5 ny.nd$ cO.e hr.m$ ja (pv 1)$ ja (ju jD (pv 4) (vI Yl jf) (λ_ _=>Z)) jc)$ jg$ jm$ jl$ ja (jv$ pv 1)$ ja (pv 2)$ ja (jJ jO Z m1 boot_tuple$ ja (pv 4) jc)$ ja (jv$ pv 5) jc),?_];let b4:=aJ;let⟨ys,g,h1,b5,pr,a1⟩:=hP.part hd hv;let⟨ps,h4,a2,a3⟩:=hP.pa.2 i d _ hd hn;let e3:ps=g.ps:=by let z:=h4.symm.trans pr.ps;injection z with z;injection z with z;exact(List.map_inj_right λa b e=>by injection e).mp z
 subst e3;let e0:ci x y (j+1) d.f is L t=n8 (ci x y j) y g 62 (i9 (uY g) (dm g.way.sets$ aP g.ps is) g.way.goal) L t:=by show(match eP x d.f with |none=>OC.long |some g=>n8 (ci x y j) y g 62 (i9 (uY g) (dm g.way.sets$ aP g.ps is) g.way.goal) L t)=_;rw[a1]
 generalize ci x y (j+1) d.f is L t=X at q t4 e0;refine aj λF1 J=>#[fj,λS Y=>J _ _ ?_];clear J;let s1:aa H (af H S$ .lst []):=je Y;let l1:af H S (.lst []) S=δ (.lst []):=jb;generalize af H S (.lst [])=H1 at s1 l1 ⊢;let e4:=pr.wy;let h2:=pr.wv;refine aj λF1 J=>#[_,Z,_,Z,v,ag,d,ys,g.ps,is,g.way,Z,h1.mono$ aa.tm s1,s1 _ _ h4,VV,s1 _ _ ha,a2.symm,h3,e4,h2.mono$ aa.tm s1,λu H2 hu s2=>J _ _ ?_];clear J;let S2:=s1.trans s2;let gz:GT (aP g.ps is):=qR h3;let g0:=QU (H:=H) hu (qf h2.sets gz) h2.goal;rw[pr.nms]at g0;let s0:S≠r:=Ne.symm (ji hR.ins Y);let s3:S≠lA:=Ne.symm (ji hR.lf Y);let s9:cA≠S:=ji hR.ce Y;refine aj λF1 J=>?_;refine oO (CI (ci x y j) g X C r dx cA lA pA ag S nA U t (j+1) y v d H) (61 - t) #[θ,u,_,62,.nil,[],L,Z,s2 _ _ l1,Z,trivial,by show 0+1<=j+1;omega,g0,hR.same S2,a0,ht,aM.of_same S2,by show 61 - t+t+0=61;omega,by rw[e0];show OC.pre .nil (n8 (ci x y j) y g 62 _ L t)=_;cases n8 (ci x y j) y g 62 (i9 (uY g) (dm g.way.sets$ aP g.ps is) g.way.goal) L t<;>rfl,by show 62<=62+(t+0);omega] ?_;intro kk σ H3 E' rt fE F kT cF.k Gq kq hW;let⟨o6,u,gd,m,N,R,L1,rfl,w1,w2,w3,w4,w5,w6,w7,w8,w9,b8,W,b9⟩:=hW;obtain⟨m,rfl⟩:∃m',m=m'+1:=#[m - 1,VV];let t0:=hR.tm w9;let P3:=hP.mono t0;cases w5 with
 |give p a e h5 ia=>subst e;refine kq$ jp h5 Z #[Z,_,Z,?_];rw[show decide (ry (Str.ofString "give")=ry (Str.ofString "go"))=ξ by decide+kernel];refine cF.k _$ J _ _ ?_;let⟨pa,ca,wv,cs,e,h7,_⟩:=(h1.mono t0).parts;subst e;refine(jp h7 Z #[_,Z,_,Z,S,R,Z,.inl #[aI.of w1,λl2 n0=>?_]]);let s4:aa H3 (af H3 l2$ .tup R):=je n0;refine(jp (s4 _ _ h5) Z #[pU,λv2 nv=>?_]);let s5:=s4.trans (je (o:=.tup [.str d.f,.ref ag,.ref l2,.int a]) nv);let S5:aM r lA H (af (af H3 l2$ .tup R) v2$ .tup [.str d.f,.ref ag,.ref l2,.int a]):=w9.trans (aM.of_same s5);let W:OC.ok (N.app .nil) a L1 (t+N.size)=X:=W;rw[XV w3]at W;exact q _ N a L1 _ W.symm #[v2,ag,l2,R,Z,jb,hR.tm S5 _ _ ha,am jb nv,w2.mono$ aa.tm s5] w3 w4 ia (w6.same s5) w7 w8 S5
 |go p D n c hs e h5 h6 hc hl hi=>
  subst e;refine kq$ jp h5 Z #[Z,_,Z,?_];rw[show decide (ry (Str.ofString "go")=ry (Str.ofString "go"))=μ by decide+kernel];refine kT _ ?_;clear kT cF.k J;let P1:=h1.mono t0;let⟨pa,ca,wv,cs,e9,h7,_,_,a4⟩:=P1.parts;let⟨ka,na,wa,dv,b',_,c1⟩:=P1.cut a4 hc;let a5:n < g.cs.length:=by rw[pr.len];exact(ν.mp hc).1
  obtain⟨cd,h8⟩:∃cd,g.cs[n]?=δ cd:=#[_,kr a5];let cr:=(pr.cs n c cd hc h8).mono t0;let⟨c2,e,c0⟩:=cd;let⟨e1,ed,d0,e5,l0,a'⟩:=cr;let e1:c2=canon c.M:=e1;subst e1;let W:OC.pre N (match g.cs[n]? with
   |none=>OC.long
   |some c=>match ip (ci x y j) y (aP c.nm hs) L1 (t+N.size) c.e with
    | .ok w L1 t1=>(n8 (ci x y j) y g m (Ee g c hs w.wh) L1 t1).cons (n:Int) hs w
    | .long=>.long
    | .deep=>.deep)=X:=W
  rw[h8]at W;let W:OC.pre N (match ip (ci x y j) y (aP (canon c.M) hs) L1 (t+N.size) e with
    | .ok w L1 t1=>(n8 (ci x y j) y g m (Ee g #[canon c.M,e,c0] hs w.wh) L1 t1).cons (n:Int) hs w
    | .long=>.long
    | .deep=>.deep)=X:=W
  let gk:GT (aP (canon c.M) hs):=qR hi;refine aj λF1 J=>#[_,Z,r,dx,_,Z,w6.ins,Z,_,Z,jp h5 Z$ jp h5 Z #[v,n,D,d,ys,c,hs,e,Z,P1,hc,h6,hl,hi,ed,d0,λud H4 b0 s4=>?_]];let t8:=t0.trans (aa.tm s4);refine#[_,Z,r,dx,cA,lA,pA,U,t+N.size,L1,y,aP (canon c.M) hs,ud,e,ys,ds,ns,xs,x,Z,VV,w6.same s4,w7,w8,hP.mono t8,b0,d0.mono$ aa.tm s4,gk,?_,λw uw L' H5 e7 hw o1 ft d1 R5 l5 t5 k5=>J _ _ ?_,?_]
  .cases e with
   |ask=>trivial
   |st p0 l=>cases l<;>first |trivial |exact hP.cs hd _ e5
  .clear J;let K5:aM r lA H3 H5:=(aM.of_same s4).trans k5;let t6:ax H3 H5:=w6.tm K5;let g5:=t6 _ _ h5;let w0:H5 S=δ (.lst R):=K5 _ _ s0 s3 w1;let l3:=qr w3 w2;refine aj λF1 J=>#[_,Z,.inl #[Z,_,aI.of w0],jp g5 Z$ jp g5 Z #[_,Z,ie,λO n3=>?_]];let s6:aa H5 (af H5 O$ .tup [.int (n:Int),.ref D,uw]):=je n3;let e6:af H5 O (.tup [.int (n:Int),.ref D,uw]) O=δ (.tup [.int (n:Int),.ref D,uw]):=jb;refine#[S,_,_,Z,Z,s6 _ _ w0,VV,J _ _ ?_];clear J;generalize af H5 O (.tup [.int (n:Int),.ref D,uw])=H6 at s6 e6;let b7:aH S H6 (af H6 S$ .lst$ R++[.ref O]):=λb o nb e=>by rw[jh nb];exact e
   let t3:ax H6 (af H6 S$ .lst$ R++[.ref O]):=λb xs e=>b7 _ _ (jP e (s6 _ _ w0) (by intro z;cases z)) e;let w':af H6 S (.lst$ R++[.ref O]) S=δ (.lst$ R++[.ref O]):=jb;generalize af H6 S (.lst$ R++[.ref O])=H7 at b7 t3 w';let t2:ax H5 H7:=λb xs e=>t3 _ _ (s6 _ _ e);let B:ax H3 H7:=t6.trans t2;let G:w.wh.side < c.ws.length:=by
    rw[c1.v.len,<- ed];cases e with
    |ask ta T=>show _ < 2;unfold Wh.side;split<;>(try split)<;>omega
    |st p0 l=>show _ < 1;cases w<;>first |exact Nat.one_pos |exact o1.elim | (cases l<;>exact ft.elim)
   obtain⟨I,h0⟩:∃I,c0[w.wh.side]?=δ I:=#[_,kr (by rw[l0];exact G)];let⟨e2,h'⟩:=a' _ _ I (kr G) h0;let sv:lv H7 nA d ys v O n D uw c hs w.wh e I:=#[P1.mono B,t3 _ _ e6,hc,B _ _ h6,hl,hi,(IE o1 hw).mono t2,ed,d0.mono B,ft,by rw[e2];exact kr G,h'.mono B];let b1:eU (R++[sn O]) (-1)=↑O:=CP;refine#[_,Z,_,Z,_,Z,S,_,_,_,Z,Z,aI.of w',b1,v,uw,O,D,n,d,ys,c,hs,w.wh,e,I,Z,sv,λu2 H8 b2 s8=>?_];let t7:=aa.tm s8;let t':=B.trans t7;let g1:=QU (H:=H7) b2 (qf sv.wdv.sets$ Yr ft gk) sv.wdv.goal;let e8:Ee g #[canon c.M,e,c0] hs w.wh=i9 (uY g) (dm I.sets$ sU e w.wh$ aP (canon c.M) hs) I.goal:=by show(match c0[w.wh.side]? with |some wd=>i9 (uY g) (dm wd.sets$ sU e w.wh$ aP (canon c.M) hs) wd.goal |none=>Gd.give 0)=_;rw[h0]
   rw[pr.nms,<- e8]at g1;rw[e7]at W;let W:OC.pre N ((n8 (ci x y j) y g m (Ee g #[canon c.M,e,c0] hs w.wh) L'$ t+N.size+1+w.size).cons (n:Int) hs w)=X:=W;rw[vO _ w3]at W;let s7:=Kz (n:=(n:Int)) (hs:=hs) (w:=w) w3;let R7:Rn H7 C r dx cA lA pA 60 (t+N.size+1+w.size) L' y:=#[b7 _ _ (Ne.symm s0)$ s6 _ _ R5.ins,b7 _ _ (Ne.symm s3)$ s6 _ _ R5.lf,b7 _ _ s9$ s6 _ _ R5.ce,R5.iL,R5.iC,R5.cl];let ez:t+N.size+1+w.size=t+(Sk.put (n:Int) hs w N).size:=by rw[s7];omega
   rw[ez]at R7 l5 t5 W;refine fE (kk - (w.size+1)) _ _ VV #[_,u2,_,m,Sk.put (n:Int) hs w N,R++[.ref O],L',Z,s8 _ _ w',(vS (t3 _ _ e6) (B _ _ h6) (hw.mono t2) w3$ w2.mono B).mono t7,Q7 o1 w3,?_,g1,R7.same s8,l5,t5,?_,by rw[s7];omega,W,VV]
   .let:=Q8 (n:=(n:Int)) (hs:=hs) (w:=w) (j:=j) d1 w3 VV;omega
   .intro b o n1 n2 e;exact s8 _ _$ b7 _ _ (ji e Y)$ s6 _ _$ K5 _ _ n1 n2$ w9 _ _ n1 n2 e
  .exact on.next ((t4.imp (λz=>by rw[z]at W;exact W.symm) (λz=>by rw[z]at W;exact W.symm)).mono λH5 kk=>λb o n1 n2 nx e=>kk b o n1 n2 nx (s4 _ _$ w9 _ _ n1 n2 e))
inductive pS(f e l:η)(o:List V)(H:Hp)(Q:VK)(E:XK):Prop
 |mk(n g h:η)(i:Nat)(c:aZ)(d:Df)(j:List Df)(m:List Nat)(p:List V)(b:List dM)(k:List Int)(_:o=[.ref n,.str d.f,.ref g,.ref h,.int 60])(_:Ps H l n j m p b)(_:j[i]?=δ d)(_:m[i]?=δ k.length)(_:H g=δ (.tup (k.map rz)))(_:∀z∈k,fu z)(_:H h=δ (.dK c))(_:GT c)(_:∀(u:V) (sk:Sk) (a:Int) (L':aZ) (H':Hp),ci b c 16 d.f k [] 0= .ok sk a L' sk.size->i6 H' d.f k sk a u->sk.ok μ->sk.dep<=15->sk.size<=60->aa H H'->Q u H')(_:on (ci b c 16 d.f k [] 0= .long) (ci b c 16 d.f k [] 0= .deep) E f e (Kp H))
theorem Av(h:aR H (fz n d) v []):∃p r,v= .ref p/\H p=δ (.tup (.str d.f:: .ref d.pa::r)):=by obtain⟨_,a,x,rfl,b,_,_,c,y,rfl,⟨rfl,_⟩,_,_,e,Y,rfl,⟨rfl,_⟩,_⟩:=h;exact#[a,_,Z,b]
theorem DE:ah P w K mg base (gj P w) k f c z13z (d9 C T b N 0):=by
 let n:∀{V H Q E},¬d9 C T b N 0 V H Q E:=by rintro V H Q E ⟨r,e,g,l,j,m,D,t,i,L,q,v,d,u,x,X,p,I,_,_,z,_⟩;omega
 exact#[λV H Q E h=>(n h).elim,λA o s H a U V Q E y B F G h=>(n h).elim]
theorem Gh(d:RK K C)(F:aQ K "chain_of" "BookRun.chain_of" AN k f)(B:aC K f z13z [])(m:bj K C "chain_of" k)(l:aQ K "what_of" "BookRun.what_of" AO D e)(o:aC K e z19z [])(M:bj K C "what_of" D)(p:Cl P w K mg base 9 Q E ["part","args"] (em n) "first_of")(q:Cl P w K mg base 9 U H z9z (eh n) "deed_at")(r:Cl P w K mg base 9 Y I ["part","step"] (oM n) "onward")(GT:ah P w K mg base (gj P w) 1 J g ["self"] (iW C T))(s:aC K g ["self"] [])(a:bj K C "take_turn" J)(G:ah P w K mg base aE 1 L h ["self","cell"] (gK C))(t:aC K h ["self","cell"] [])(b:bj K C "number_in" L)(u:ah P w K mg base (gj P w) 1 v i ["deep"] (fc N))(x:aC K i ["deep"] [])(y:iv K (.ref v)=μ)(z:mg "deeper"=↑v)(A:Cl P w K mg base 2 fP O ["parts","f"] iT "part_of")(c:mg "tuple"=θ):∀j,ah P w K mg base (gj P w) (2*j+12) k f z13z (d9 C T N n j)
 |0=>DE
 |j+1=>DO F d p q r (DS l d GT s a G t b u x y z A (Gh d F B m l o M p q r GT s a G t b u x y z A c j) B m) o M c
theorem Cp:ai ["parts","f","args","cells","most","part"] z27z (ae EO):=bN
theorem D8(F:tf K "run" EO f fd)(ck:RK K C)(mk:Mk K C fI)(GI:ah P w K mg base aE 2 fI y z24z (mJ C))(bI:aC K y z24z [])(mC:mg "BookRun"=↑C)(cB:Cl P w K mg base 2 fB f0 ["ones","f","args"] iz "begun")(GA:ah P w K mg base (gj P w) 44 fA B z13z (d9 C TL TD nA 16))(bA:aC K B z13z [])(M:bj K C "chain_of" fA):ah P w K mg base (gj P w) 45 f fd z27z (pS TL TD nA):=by
 refine F.ok1 Cp λc0 A O s H vs Q E G h=>?_
 let⟨g,I,j,i,J,d,ds,ns,X,k,is,rfl,x,L,hn,ha,R,t,T,q,U⟩:=h;refine#[_,(jd (jB 5 Cp.nd$ cB.e G.m$ ja (pv 0)$ ja (pv 1)$ ja (pv 2) jc)$ jg$ jm$ j7 (Zo mk GI G.m Z mC bI .nil a8$ ja (pv 0)$ ja (pv 3)$ ja (pv 4) jc) ck.cl M GA G.m bA .nil zX$ ja (pv 5)$ ja (pv 2)$ ja jf jc),?_];let⟨v,hv,tv,h0,V⟩:=x.at L;let⟨p,pr,rfl,hp⟩:=Av tv;let⟨ps,W,h1,_⟩:=x.pa.2 i d _ L hn;refine aj λF1 f1=>#[_,Z,_,Z,_,Z,g,I,d.f,X,_,i,.ref p,p,d.pa,pr,_,Z,x.at',hv,Z,hp,W,ha,by rw[MY,MY];omega,V,f1 _ _ ?_];clear f1;refine#[_,Z,_,Z,_,Z,λr D N nd ne=>?_];let s0:aa H (af (af H D$ .own r) r$ .ins C D []):=λc o e=>by rw[jh$ ji e N,jh$ ji e nd];exact e
 refine#[r,D,g,j,60,Z,jb,λl Y=>#[Z,?_]];let n0:l≠r:=λe=>by rw[e,jb]at Y;cases Y
 let n:H l=θ:=by
  cases z:H l with
  |none=>rfl
  |some o=>have:=s0 _ _ z;rw[Y]at this;cases this
 let S:aa H (af (af (af (af H D$ .own r) r$ .ins C D []) l$ .dK []) r$ .ins C D$ iB j l g 60 0):=λc o e=>by rw[jh$ ji e N,jh$ ji e n];exact s0 _ _ e
 let R1:Rn (af (af (af (af H D$ .own r) r$ .ins C D []) l$ .dK []) r$ .ins C D$ iB j l g 60 0) C r D j l g 60 0 [] J:=#[jb,by rw[jh n0];exact jb,S _ _ t,GT.nil,T,ji t n];generalize af (af (af (af H D$ .own r) r$ .ins C D []) l$ .dK []) r (.ins C D$ iB j l g 60 0)=H1 at S R1;let t0:=aa.tm S;refine#[r,D,_,Z,R1.ins,Z,_,Z,_,Z,r,D,j,l,g,I,0,0,i,[],J,.ref p,d,ds,ns,X,k,is,Z,Z,VU,R1,M0 _,VU,x.mono t0,L,hn,hv,S _ _ ha,R,λu sk a L' H2 eq hc ok dp ia R2 l2 t2 k2=>?_,on.next$ U.mono λH' kk=>λb o nx e=>kk b o (ji e N) (ji e n) nx (S _ _ e)];exact q u sk a L' H2 (by rw[Pa]at eq;exact eq) hc ok VV VV λc o e=>k2 c o (ji e N) (ji e n) (S _ _ e)
noncomputable def nE:Sk->Tr
 | .nil=>.nil
 | .st n h w r=>.cons (aA [aq n,aA (h.map aq),nE w]) (nE r)
 | .ask b=>aA [aK "ask",aq b]
 | .rd c i=>aA [aK "read",aq c,aq i]
 | .wr c i=>aA [aK "write",aq c,aq i]
 | .cl f I s a=>aA [aK "call",aA [aK f,aA (I.map aq),.tp (nE s),aq a]]
theorem Zg:∀{b:Bool} {s:Sk},s.ok b->(nE s).isL=b
 |true,.nil,_=>rfl
 |true,.st _ _ _ _,_=>rfl
 |false,.cl _ _ _ _,_=>rfl
 |false,.ask _,_=>rfl
 |false,.rd _ _,_=>rfl
 |false,.wr _ _,_=>rfl
theorem j9{H:Hp}{a:List Int}(e:H h=δ (.tup$ a.map rz)):aR H (aA$ a.map aq) (.ref h) []:=jC e Ka
theorem JO:∀{b:Bool} {s:Sk} {u:V} {X:List V},s.ok b->dD H s u X->(b=ξ->X=[])->(b=μ->u= .non)->aR H (nE s) u X
 |true,.nil,_,_,_,h,_,_=>h
 |true,.st n t w r,_,_,o,q,_,z=>by let⟨p,h,u,y,e,d,j,k,l⟩:=q;rw[e,z Z];exact#[Z,Zg o.2,_,_,Z,jC d$ jk Z jT$ jk Z (j9 j)$ jk (Zg o.1) (JO o.1 k (λ_=>Z) (λx=>nomatch x)) jA,JO o.2 l (λx=>nomatch x) (λ_=>Z)]
 |false,.ask b,_,_,_,q,z,_=>by let⟨p,e,h⟩:=q;rw[e,z Z];exact jC h (jk Z jS (jk Z jT jA))
 |false,.rd c i,_,_,_,q,z,_=>by let⟨p,e,h⟩:=q;rw[e,z Z];exact jC h (jk Z jS (jk Z jT (jk Z jT jA)))
 |false,.wr c i,_,_,_,q,z,_=>by let⟨p,e,h⟩:=q;rw[e,z Z];exact jC h (jk Z jS (jk Z jT (jk Z jT jA)))
 |false,.cl f I s a,_,_,o,q,z,_=>by let⟨p,c,g,e,S,E,d,j,k,l,m⟩:=q;rw[E,z Z];exact jC d$ jk Z jS$ jk Z (jC j$ jk Z jS$ jk Z (j9 k)$ jk Z #[Zg o,e,S,Z,l,JO (b:=μ) o m (λx=>nomatch x) (λ_=>Z)] (jk Z jT jA)) jA
theorem kC:∀i:List Int,(ay$ i.map aq).dep=0
 | []=>rfl
 |_::i=>by show max 0 (ay (i.map aq)).dep=0;rw[kC i];rfl
theorem QV:∀{b:Bool} {s:Sk},s.ok b->(nE s).dep<=4*s.dep+(if b=μ then 2 else 1)
 |true,.nil,_=>M6 _
 |true,.st n H w r,o=>by let h:=QV (b:=ξ) (s:=w) o.1;let c:=QV (b:=μ) (s:=r) o.2;let d:=kC H;let h:(nE w).dep<=4*w.dep+1:=h;let c:(nE r).dep<=4*r.dep+2:=c;show max (max 0 (max ((ay$ H.map aq).dep+1)$ max (nE w).dep 0)+1) (nE r).dep<=4*max w.dep r.dep+2;omega
 |false,.ask _,_=>M0 1
 |false,.rd _ _,_=>M0 1
 |false,.wr _ _,_=>M0 1
 |false,.cl f i s a,o=>by let h:=QV (b:=μ) (s:=s) o;let d:=kC i;let h:(nE s).dep<=4*s.dep+2:=h;show max 0 (max (max 0 (max ((ay$ i.map aq).dep+1)$ max ((nE s).dep+1)$ max 0 0)+1) 0)+1<=4*(s.dep+1)+1;omega
noncomputable def Gk(f:ρ)(i:List Int)(s:Sk)(a:Int):Tr:=ay [aK f,aA$ i.map aq,.tp$ nE s,aq a]
theorem BK(h:i6 H f i s a u)(o:s.ok μ):aR H (.tp$ Gk f i s a) u []:=by let⟨c,g,e,S,rfl,d,j,k,l⟩:=h;exact jC d$ jk Z jS$ jk Z (j9 j)$ jk Z #[Zg o,e,S,Z,k,JO (b:=μ) o l (λx=>nomatch x) (λ_=>Z)] (jk Z jT jA)
theorem CU{s:Sk}(o:s.ok μ)(d:s.dep<=15):(Gk f i s a).dep < 100:=by let h:=QV (b:=μ) (s:=s) o;let H:=kC i;let h:(nE s).dep<=4*s.dep+2:=h;show max 0 (max ((ay$ i.map aq).dep+1)$ max ((nE s).dep+1)$ max 0 0) < 100;omega
theorem En{p:List ρ}{v:V}(h:mZ H N d y v)(g:H d.pa=δ (.tup$ p.map ry)):∃q,yi H N d y q:=by
 let⟨W,E,i⟩:=h.way;let⟨a,J,L,O,rfl,Q,m,r,j⟩:=h.parts;let⟨C,s,t⟩:=yo (R:=λc u=>FQ H y N d c u) (bY N d) λc k=>by let⟨n,x,z⟩:=jq.mp k;let⟨S,T,U,X,A,_,o⟩:=h.cut j (n:=n) (c:=c) (by rw[<- z];exact MV x);let⟨e,B,D,F⟩:=Gw o.v.deed;let⟨G,I,l⟩:=yo (R:=λ(w:Wy) (W:WD)=>W.wy N=w/\xZ H y d.b.cuts d.b.size W) c.ws λw m=>o.v.ways w m;exact#[#[canon c.M,e,G],Z,B,D,F,I,l]
 exact#[#[d.f,p,W,C],Z,g,E,i,s,t]
theorem Hv{H:Hp}{D:List Df}(a:H l=δ (.tup x))(T:aR H (ay$ D.map$ fz n) .non x)(g:∃z,cQ H D z)(o:sW D N)(j:mP H D N):∃p,Ps H n l D N x p:=by
 let L:=zi T;rw[MY]at L;let⟨p,m,q⟩:=yo (R:=λd c=>∃y,(d.b.Ok y/\y.length<=20)/\yi H n d y c) D λd e=>by
  let⟨i,r,E⟩:=jq.mp e;let h:D[i]?=δ d:=by rw[<- E];exact MV r
  let s:x[i]?=δ (x[i]'VV):=MV _;let⟨t,k,u⟩:=qP T i _ s;rw[Ni,h]at k;cases k;let⟨z,A⟩:=g;obtain⟨⟨y,Y,o⟩,_,S⟩:=(o.1 d e).1;let⟨C,f,_⟩:=j.v d e;let⟨c,B⟩:=En (v:=x[i]'VV) #[u,ue A h,o,Y,S] f;exact#[c,y,#[o,Y],B]
 exact#[p,a,T,g,o,j,m,q]
theorem BM{call:n9}{w:Sk}(h:ip call C k L t e= .ok w l T):t < 60:=by
 by_cases z:t < 60
 .exact z
 .rw[ZI z]at h;cases h
end _K
namespace _K
open PySem PySem.Spec PyProof.Rows _L
variable {P:ψ}{w:bU}{K:γ}{mg:ρ->Option ζ}{base:de}
noncomputable def Du:V->Bool
 | .int _=>μ
 | .str _=>μ
 |_=>ξ
def _root_._L.Tr.In:Tr->Prop
 | .lf v=>Du v=μ
 | .tp l=>l.In
 | .nil=>True
 | .cons h t=>h.In/\t.In
def _root_._L.Tr.items:Tr->List Tr
 | .cons h t=>h::t.items
 |_=>[]
theorem QW{H:Hp}:∀{t u:Tr} {x:V} {xs:List V},aR H t x xs->aR H u x xs->t.isL=u.isL->t.In->u.In->t=u
 | .lf v,.lf w,_,_,h,k,_,_,_=>by rw[<- h.1,<- k.1]
 | .lf v,.tp m,_,_,h,k,_,i,_=>by let⟨_,a,_,e,_⟩:=k;let E:=h.1;rw[e]at E;rw[<- E]at i;cases i
 | .tp l,.lf v,_,_,k,h,_,_,i=>by let⟨_,a,_,e,_⟩:=k;let E:=h.1;rw[e]at E;rw[<- E]at i;cases i
 | .tp l,.tp m,_,_,h,k,_,i,j=>by let⟨o,a,xs,e,p,q⟩:=h;let⟨r,b,Y,c,d,f⟩:=k;rw[e]at c;cases c;rw[p]at d;cases d;rw[QW q f (o.trans r.symm) i j]
 | .nil,.nil,_,_,_,_,_,_,_=>rfl
 | .nil,.cons _ _,_,_,h,k,_,_,_=>by let⟨_,_,_,_,e,_⟩:=k;let h:_=[]:=h;rw[e]at h;cases h
 | .cons _ _,.nil,_,_,k,h,_,_,_=>by let⟨_,_,_,_,e,_⟩:=k;let h:_=[]:=h;rw[e]at h;cases h
 | .cons h t,.cons G T,_,_,k,s,_,i,j=>by let⟨A,B,y,Y,e,d,f⟩:=k;let⟨C,D,I,F,c,g,n⟩:=s;rw[e]at c;cases c;rw[QW d g (A.trans C.symm) i.1 j.1,QW f n (B.trans D.symm) i.2 j.2]
 | .lf _,.nil,_,_,_,_,z,_,_=>nomatch z
 | .lf _,.cons _ _,_,_,_,_,z,_,_=>nomatch z
 | .tp _,.nil,_,_,_,_,z,_,_=>nomatch z
 | .tp _,.cons _ _,_,_,_,_,z,_,_=>nomatch z
 | .nil,.lf _,_,_,_,_,z,_,_=>nomatch z
 | .nil,.tp _,_,_,_,_,z,_,_=>nomatch z
 | .cons _ _,.lf _,_,_,_,_,z,_,_=>nomatch z
 | .cons _ _,.tp _,_,_,_,_,z,_,_=>nomatch z
theorem qw:∀{l:Tr} {X:List V},l.isL=μ->l.In->aR H l .non X->X.length=l.items.length/\∀(j:Nat) (x:V),X[j]?=δ x->∃t,l.items[j]?=δ t/\t.isL=ξ/\t.In/\t.dep<=l.dep/\aR H t x []
 | .nil,X,_,_,h=>by let h:X=[]:=h;rw[h];exact#[Z,λj x z=>by simp at z]
 | .cons a t,X,_,i,h=>by
  let⟨A,c,y,Y,e,k,d⟩:=h;subst e;let⟨L,f⟩:=qw c i.2 d;refine#[Od (·+1) L,λj x b=>?_];cases j with
  |zero=>cases b;exact#[a,Z,A,i.1,Pn _ _,k]
  |succ j=>let⟨u,g,m,n,o,p⟩:=f j x (by simpa using b);exact#[u,by simpa [_L.Tr.items] using g,m,n,Ng o$ Pb _ _,p]
 | .lf _,_,z,_,_=>nomatch z
 | .tp _,_,z,_,_=>nomatch z
theorem XX:∀{l m:Tr} {x y:List V},l.isL=μ->m.isL=μ->aR H l .non x->aR H m .non y->(l=m↔l.items=m.items)
 | .nil,.nil,_,_,_,_,_,_=>#[λ_=>Z,λ_=>Z]
 | .nil,.cons _ _,_,_,_,_,_,_=>#[λz=>(nomatch z),λz=>(nomatch z)]
 | .cons _ _,.nil,_,_,_,_,_,_=>#[λz=>(nomatch z),λz=>(nomatch z)]
 | .cons a t,.cons b u,_,_,_,_,h,k=>by let⟨_,A,_,_,_,_,d⟩:=h;let⟨_,B,_,_,_,_,c⟩:=k;let i:=XX A B d c;refine#[λz=>by cases z;rfl,λz=>?_];let z:a::t.items=b::u.items:=z;injection z with e f;rw[e,i.mpr f]
 | .lf _,_,_,_,z,_,_,_=>nomatch z
 | .tp _,_,_,_,z,_,_,_=>nomatch z
 | .nil,.lf _,_,_,_,z,_,_=>nomatch z
 | .nil,.tp _,_,_,_,z,_,_=>nomatch z
 | .cons _ _,.lf _,_,_,_,z,_,_=>nomatch z
 | .cons _ _,.tp _,_,_,_,z,_,_=>nomatch z
open Classical in
def gi(t u:Tr):Bool:=decide (t=u)
open Classical in
theorem zn(h:t=u):gi t u=μ:=by unfold gi;exact M9 h
open Classical in
theorem zf(h:t≠u):gi t u=ξ:=by unfold gi;exact M5 h
def lr(l m:Tr)(j:Nat):Bool:=match l.items[j]?,m.items[j]? with
 |some t,δ u=>gi t u
 |_,_=>μ
theorem XY{l m:Tr}(a:l.isL=μ)(b:m.isL=μ)(h:aR H l .non x)(k:aR H m .non y)(d:n=l.items.length)(E:N=m.items.length):((dB$ min n N).all (lr l m)&&n==N)=gi l m:=by
 by_cases e:l=m
 .subst e;rw[zn Z,d,E,Rc,Bool.and_true,Ru];intro j _;unfold lr;cases l.items[j]? with
  |none=>rfl
  |some t=>exact zn Z
 .rw[zf e];let f:l.items≠m.items:=λz=>e ((XX a b h k).mpr z);by_cases g:n=N
  .let z:(dB$ min n N).all (lr l m)=ξ:=by rw[Um];intro z;rw[Ru]at z;refine f$ Rs VV λj i o=>?_;let:=z j (ro.mpr VV);unfold lr at this;rw[MV i,MV o]at this;exact Classical.byContradiction λc=>by let C:=zf c;dsimp only at this;rw[C]at this;cases this
   rw[z];rfl
  .rw[show(n==N)=ξ from beq_eq_false_iff_ne.mpr g,R0]
section
open PySem.SeqAt
variable {X:Cx}
theorem Hg{w:V}(H:Du v=μ)(h:Du w=μ)(R:aG v a)(r:aG w b):EqAt A s a b (gi (.lf v)$ .lf w):=by
 cases v with
 |int i=>
  let⟨T,rfl⟩:=R;cases w with
  |int j=>
   let⟨t,rfl⟩:=r;let z:=U9 (A:=A) (s:=s) i T j t;by_cases e:i=j
   .subst e;rw[Rc]at z;rw[zn Z];exact z
   .rw[beq_eq_false_iff_ne.mpr e]at z;rw[zf (λc=>e (by injection c with c;injection c))];exact z
  |str y=>let⟨t,rfl⟩:=r;rw[zf (λc=>by injection c with c;cases c)];exact EqAt.int_str _ _ _ _
  |_=>cases h
 |str i=>
  let⟨T,rfl⟩:=R;cases w with
  |str j=>
   let⟨t,rfl⟩:=r;let z:=U8 (A:=A) (s:=s) i T j t;by_cases e:i=j
   .subst e;rw[Rc]at z;rw[zn Z];exact z
   .rw[beq_eq_false_iff_ne.mpr e]at z;rw[zf (λc=>e (by injection c with c;injection c))];exact z
  |int y=>let⟨t,rfl⟩:=r;rw[zf (λc=>by injection c with c;cases c)];exact EqAt.str_int _ _ _ _
  |_=>cases h
 |_=>cases H
theorem HQ(I:au X p σ H s)(n:Nat)(G:∀(t:Tr) {A:cc},t.dep<=n->A.units+n < cLine->t.In->t.isL=ξ->∀{u:Tr} {x y:V},u.In->u.isL=ξ->aR H t x []->aR H u y []->∀a b,aG x a->aG y b->EqAt A s a b (gi t u)){l m:Tr}(hn:l.dep<=n)(hu:A.units+n+1 < cLine)(J:l.In)(L:m.In)(d:l.isL=μ)(f:m.isL=μ)(M:H g=δ (.tup i))(N:H B=δ (.tup o))(T:aR H l .non i)(q:aR H m .non o):RcAt A s (.ref g) (.ref B) (gi (.tp l)$ .tp m):=by
 let⟨v,r,O,_⟩:=I.tuple (aB.of (K:=X.K) M);let⟨C,R,Q,_⟩:=I.tuple (aB.of (K:=X.K) N);let⟨S,U⟩:=qw d J T;let⟨W,Y⟩:=qw f L q;let z:=RcAt.tuples (A:=A) (e:=lr l m) (show s.heap.IsTuple g v.toArray from O) (show s.heap.IsTuple B C.toArray from Q) VV (λj h1 h2=>?_)
 .rw[XY d f T q (by rw[M1,<- r.length,S]) (by rw[M1,<- R.length,W])]at z;let E:gi (.tp l) (.tp m)=gi l m:=by
   by_cases c:l=m
   .rw[zn c,zn (by rw[c])]
   .rw[zf c,zf (λk=>c (by injection k))]
  rw[E];exact z
 .let la:=r.length;let lb:=R.length;let D:j < i.length:=by simp at h1;omega
  let h:j < o.length:=by simp at h2;omega
  let⟨u1,q1,r1⟩:=r.get (MV D);let⟨u2,q2,r2⟩:=R.get (MV h);let e1:v.toArray[j]=u1:=by let⟨_,e⟩:=ν.mp q1;simpa using e
  let E:C.toArray[j]=u2:=by let⟨_,e⟩:=ν.mp q2;simpa using e
  rw[e1,E];let⟨F,g1,g2,g3,g4,g5⟩:=U j _ (MV D);let⟨u',k1,k2,k3,k4,k5⟩:=Y j _ (MV h);let et:lr l m j=gi F u':=by unfold lr;rw[g1,k1]
  rw[et];exact G F (A:=A.in1) VV (by show A.units+1+n < cLine;omega) g3 g2 k3 k2 g5 k5 _ _ r1 r2
theorem QX(I:au X z Y H s):∀(n:Nat) (t:Tr) {A:cc},t.dep<=n->A.units+n < cLine->t.In->t.isL=ξ->∀{u:Tr} {x y:V},u.In->u.isL=ξ->aR H t x []->aR H u y []->∀a b,aG x a->aG y b->EqAt A s a b (gi t u):=by
 intro n;induction n with
 |zero=>
  intro t A k J i L u x y d g j h a b R r;cases t with
  |tp l=>exact absurd k (by show ¬l.dep+1<=0;omega)
  |nil |cons _ _=>cases L
  |lf v=>
   let⟨rfl,_⟩:=j;cases u with
   |nil |cons _ _=>cases g
   |lf w=>let⟨rfl,_⟩:=h;exact Hg i d R r
   |tp m=>
    let⟨_,B,M,rfl,o,_⟩:=h;cases r;let⟨W,N,C,_⟩:=I.tuple (aB.of (K:=X.K) o);rw[zf (λc=>by cases c)];cases x<;>first |cases i |skip
    .let⟨T,rfl⟩:=R;exact EqAt.int_tuple _ _ C VV
    .let⟨T,rfl⟩:=R;exact EqAt.str_tuple _ _ C VV
 |succ n D=>
  intro t A k J i L u x y d g j h a b R r;cases t with
  |nil |cons _ _=>cases L
  |lf v=>exact D (.lf v) (M6 _) VV i L d g j h a b R r
  |tp l=>
   let⟨E,p,O,rfl,q,F⟩:=j;cases R;let⟨ia,Q,G,_⟩:=I.tuple (aB.of (K:=X.K) q);cases u with
   |nil |cons _ _=>cases g
   |lf w=>
    let⟨rfl,_⟩:=h;rw[zf (λc=>by cases c)];cases y<;>first |cases d |skip
    .let⟨T,rfl⟩:=r;exact UV _ _ G VV
    .let⟨T,rfl⟩:=r;exact EqAt.tuple_str _ _ G VV
   |tp m=>
    let f:=id h;let⟨S,B,M,rfl,o,U⟩:=h;cases r;by_cases e:p=B
    .subst e;rw[zn$ QW (H:=H) (t:=.tp l) (u:=.tp m) (x:=.ref p) (xs:=[]) #[E,p,O,Z,q,F] f Z i d];exact EqAt.same _
    .exact EqAt.of_refs e$ HQ I n D (by let:l.dep+1<=n+1:=k;omega) VV i d E S q o F U
inductive Ex(d:Nat)(x y:V)(H:Hp)(Q:VK):Prop
 |mk(l m:Tr)(_:l.dep < d)(_:l.In)(_:m.In)(_:aR H (.tp l) x [])(_:aR H (.tp m) y [])(_:Q (.bl (gi (.tp l) (.tp m))) H)
theorem Kr{d:Nat}(c:X.A.units+d+1 < cLine):fh X (compareOp .Eq) (Ex d):=by intro p s n H x y v u Q I r R h;obtain⟨l,m,o,i,e,⟨f,a,z,rfl,g,t⟩,⟨j,b,B,rfl,k,T⟩,q⟩:=h;cases r;cases R;exact HQ I d (QX I d) VV c i e f j g k t T X.prog X.w _ _ #[.bl _,H,I,Z,q]
end
end _K
namespace _K
open PySem PySem.Spec PyProof.Rows _L
variable {P:ψ}{w:bU}{K:γ}{mg:ρ->Option ζ}{base:de}
abbrev EJ:cv:=bP 27
theorem dP{w:V}:eU (v::u::w::y) 2=δ w:=jG (j:=2) Z
theorem IN{w:V}:eU (v::u::w::z::y) 3=δ z:=jG (j:=3) Z
theorem ZL{X:List V}{i:Nat}{x:V}(h:X[i]?=δ x):X.drop i=x::X.drop (i+1):=by let⟨H,e⟩:=ν.mp h;rw[<- e,Ov]
theorem zd(h:i6 H f i s a u)(k:ax H b):i6 b f i s a u:=by let⟨c,g,e,S,E,d,j,l,m⟩:=h;exact#[c,g,e,S,E,k _ _ d,k _ _ j,k _ _ l,m.mono k]
noncomputable def dI:Sk->Tr
 | .rd c _=>aA [aK "read",aq c]
 | .cl f I _ _=>aA [aK "call",aK f,aA (I.map aq)]
 | .wr c i=>aA [aK "write",aq c,aq i]
 | .ask b=>aA [aK "ask",aq b]
 |_=>.nil
theorem C5{call:n9}{w:Sk}(h:ip call C k L t e= .ok w i j):dI w=tR k e:=by
 let b:=BM h;cases e with
 |ask d T=>rw[Ys b]at h;cases h;rfl
 |st p l=>
  cases l with
  |gv d T |st x d T=>unfold ip at h;rw[M7 b]at h;cases h
  |rd x d T=>rw[tV b]at h;cases h;rfl
  |wr d u T U=>rw[tW b]at h;cases h;rfl
  |cl x f q g=>
   rw[Qp b]at h;cases e:call f (g.map λc=>c.2.ev k) L (t+1) with
   |long |deep=>rw[e]at h;cases h
   |ok s a _L m=>rw[e]at h;cases h;show aA [_,_,aA ((g.map λc=>c.2.ev k).map aq)]=_;rw[OQ];rfl
inductive nG(b:List V)(H:Hp)(Q:VK)(a:XK):Prop
 |mk(u:V)(w:Sk)(_:b=[u])(_:dD H w u [])(_:w.ok ξ)(_:∀(v:V) (H':Hp),aR H' (dI w) v []->aa H H'->Q v H')
theorem HU:ai ["what"] ["what"] (ae EJ):=bN
theorem DV(F:tf K "deed_in" EJ f B):ah P w K mg base aE 1 f B ["what"] nG:=by
 refine F.ok HU λC A o s H V Q E l h=>?_
 let⟨u,w,rfl,m,t,q⟩:=h;refine#[_,(jd (jy (jW$ jv$ pv 0) (jg$ jm$ jM kc (pv 0) jV$ jL jf) jo)$ jd (jy (jW$ jv$ pv 0) (jg$ jm$ jx ki (jl$ ja jw jc)$ jM kc (jv$ pv 0) jV$ jL jf) jo)$ jg$ jm$ pv 0),?_];cases w with
 |nil |st=>exact t.elim
 |ask b=>let⟨p,rfl,d⟩:=m;refine aj λk i=>(jp d Z #[Z,_,Z,aT VX$ i _ _ ?_]);clear i;refine aj λk i=>(jp d Z #[Z,_,Z,aT VX$ i _ _ ?_]);exact#[_,Z,q _ _ (jC d$ jk Z jS$ jk Z jT jA)$ aa.refl _]
 |wr b D=>let⟨p,rfl,d⟩:=m;refine aj λk i=>(jp d Z #[Z,_,Z,aT VX$ i _ _ ?_]);clear i;refine aj λk i=>(jp d Z #[Z,_,Z,aT VX$ i _ _ ?_]);exact#[_,Z,q _ _ (jC d$ jk Z jS$ jk Z jT$ jk Z jT jA)$ aa.refl _]
 |rd b D=>let⟨p,rfl,d⟩:=m;refine aj λk i=>(jp d Z #[Z,_,Z,cn VX #[_,Z,_,Z,p,_,Z,d,λr y l S=>q _ _ ?_ S]]);let l:y r=δ (.tup [.str "read",.int b]):=l;exact jC l$ jk Z jS$ jk Z jT jA
 |cl f R s a=>let⟨p,c,g,e,T,rfl,d,G,I,U,W⟩:=m;refine aj λk i=>(jp d Z #[Z,_,Z,aT VX$ i _ _ ?_]);clear i;refine aj λk i=>(jp d Z #[Z,_,Z,cn VX #[iZ,λJ n=>(jp (am d n) io #[_,Z,c,_,Z,am G n,λL y v S=>#[J,L,_,_,Z,Z,S _ _ jb,v,ie,λM N j z=>q _ _ ?_ (((je n).trans S).trans z)]])]]);let j:N M=δ (.tup [.str "call",.str f,.ref g]):=j;exact jC j$ jk Z jS$ jk Z jS$ jk Z (j9$ z _ _$ S _ _$ am I n) jA
abbrev A2:cv:=bP 7
abbrev A3:cv:=bP 8
abbrev AX:cv:=bP 9
abbrev aL:=List Int
abbrev aO:=Int×List Int×Sk
abbrev RA(a:Type):=Hp->V->a->Prop
def bu{a:Type}(R:RA a)(H:Hp):List a->List V->Prop
 | [],v=>v=[]
 |w::W,v=>∃x r,v=x::r/\R H x w/\bu R H W r
def IJ{a:Type}(R:RA a):Prop:=∀(H h:Hp) (x:V) (w:a),ax H h->R H x w->R h x w
section
variable {α:Type}{R:RA α}
theorem bu.mono(a:IJ R)(k:ax H b):∀{W:List α} {v:List V},bu R H W v->bu R b W v
 | [],_,h=>h
 |_::_,_,z=>by let⟨x,r,e,c,d⟩:=z;exact #[x,r,e,a _ _ _ _ k c,bu.mono a k d]
theorem bu.app(a:bu R H b y):∀{W:List α} {v:List V},bu R H W v->bu R H (W++b) (v++y)
 | [],_,h=>by let e:_=[]:=h;rw[e];exact a
 |_::_,_,z=>by let⟨x,r,e,c,d⟩:=z;exact #[x,r++y,by rw[e];rfl,c,bu.app a d]
theorem bu.len:∀{W:List α} {v:List V},bu R H W v->v.length=W.length
 | [],_,h=>by let e:_=[]:=h;rw[e];rfl
 |_::_,_,z=>by let⟨x,r,e,b,a⟩:=z;rw[e];exact Od (·+1) (bu.len a)
theorem bu.at:∀{W:List α} {v:List V},bu R H W v->∀{i:Nat} {x:V},v[i]?=δ x->∃w,W[i]?=δ w/\R H x w
 | [],_,h,i,x,a=>by let e:_=[]:=h;rw[e]at a;simp at a
 |w::_,_,q,0,x,a=>by let⟨y,r,e,b,c⟩:=q;rw[e]at a;cases a;exact#[w,Z,b]
 |w::W,_,q,i+1,x,a=>by let⟨y,r,e,b,c⟩:=q;rw[e]at a;exact bu.at c (i:=i) (by simpa using a)
theorem bu.one{w:α}(h:R H x w):bu R H [w] [x]:=#[x,[],Z,h,Z]
theorem bu.map{a:Type}{S:RA a}{g:α->a}{f:V->V}(h:∀x w,R H x w->S H (f x) (g w)):∀{W:List α} {v:List V},bu R H W v->bu S H (W.map g) (v.map f)
 | [],_,e=>by let e:_=[]:=e;rw[e];rfl
 |_::_,_,z=>by let⟨x,r,e,b,c⟩:=z;exact #[f x,r.map f,by rw[e];rfl,h _ _ b,bu.map h c]
end
def gQ:RA aL:=λH x p=>∃a,x= .ref a/\H a=δ (.tup$ p.map rz)
theorem cq:IJ gQ:=λ_ _ _ _ k #[a,e,h]=>#[a,e,k _ _ h]
def Gc:RA (aL×Sk):=λH x w=>∃q p u,x= .ref q/\H q=δ (.tup [.ref p,u])/\H p=δ (.tup$ w.1.map rz)/\dD H w.2 u []
theorem oY:IJ Gc:=λ_ _ _ _ k #[q,p,u,e,h,H,a]=>#[q,p,u,e,k _ _ h,k _ _ H,a.mono k]
noncomputable def Sk.steps:Sk->List aO
 | .st n h w r=>(n,h,w)::r.steps
 |_=>[]
noncomputable def Sk.ws:Sk->aL->Nat->List (aL×Sk)
 | .st _ _ w r,p,k=>((p++[(k:Int)],w)::w.ws (p++[(k:Int)]) 0)++r.ws p (k+1)
 | .cl _ _ s _,p,_=>s.ws p 0
 |_,_,_=>[]
noncomputable def eG:List aO->aL->Nat->List (aL×Sk)
 | [],_,_=>[]
 |s::r,p,k=>((p++[(k:Int)],s.2.2)::s.2.2.ws (p++[(k:Int)]) 0)++eG r p (k+1)
theorem zC:∀{s:Sk},s.ok μ->∀p k,s.ws p k=eG s.steps p k
 | .nil,_,_,_=>rfl
 | .st _ _ w r,o,p,k=>by show _++r.ws p (k+1)=_++eG r.steps p (k+1);rw[zC o.2]
theorem zL:∀(a b:List aO) (p:aL) (k:Nat),eG (a++b) p k=eG a p k++eG b p (k+a.length)
 | [],_,_,_=>rfl
 |s::a,b,p,k=>by show _++eG (a++b) p (k+1)=(_++eG a p (k+1))++eG b p (k+(a.length+1));rw[zL a b,OB,show k+1+a.length=k+(a.length+1) by omega]
theorem za:∀{b:Bool} {s:Sk},s.ok b->∀(p:aL) (k:Nat),(s.ws p k).length=s.size
 |true,.nil,_,_,_=>rfl
 |true,.st _ _ w r,o,p,k=>by let h:=za (b:=ξ) (s:=w) o.1 (p++[(k:Int)]) 0;let H:=za (b:=μ) (s:=r) o.2 p (k+1);show(((p++[(k:Int)],w)::w.ws (p++[(k:Int)]) 0)++r.ws p (k+1)).length=w.size+r.size+1;rw[MZ,Nz,h,H];omega
 |false,.cl _ _ s _,o,p,_=>za (b:=μ) (s:=s) o p 0
 |false,.ask _,_,_,_=>rfl
 |false,.rd _ _,_,_,_=>rfl
 |false,.wr _ _,_,_,_=>rfl
theorem QY(a:List aO)(i:Nat)(p:aL)(k:Nat):(eG (a.take i) p k).length<=(eG a p k).length:=by let:=Od ri (zL (a.take i) (a.drop i) p k);rw[O4,MZ]at this;omega
theorem qt:∀{s:Sk} {S:List V},s.ok μ->dD H s .non S->∀{i:Nat} {x:V},S[i]?=δ x->∃n b w p h u,s.steps[i]?=δ (n,b,w)/\w.ok ξ/\w.dep<=s.dep/\w.size+1<=s.size/\x= .ref p/\H p=δ (.tup [.int n,.ref h,u])/\H h=δ (.tup$ b.map rz)/\dD H w u []
 | .nil,_,_,e,i,x,a=>by let e:_=[]:=e;rw[e]at a;simp at a
 | .st n b w r,_,o,q,0,x,a=>by let⟨p,h,u,y,e,d,f,g,j⟩:=q;rw[e]at a;cases a;exact#[n,b,w,p,h,u,Z,o.1,Pn _ _,by show w.size+1<=w.size+r.size+1;omega,Z,d,f,g]
 | .st n b w r,_,o,q,i+1,x,a=>by let⟨p,h,u,y,e,d,f,g,j⟩:=q;rw[e]at a;let⟨N,c,W,k,l,U,t,T,m,z,v⟩:=qt o.2 j (i:=i) (x:=x) (by simpa using a);exact#[N,c,W,k,l,U,t,T,Ng m$ Pb _ _,by show W.size+1<=w.size+r.size+1;omega,v]
theorem zr:∀{s:Sk} {S:List V},s.ok μ->dD H s .non S->S.length=s.steps.length
 | .nil,_,_,e=>by let e:_=[]:=e;rw[e];rfl
 | .st n b w r,_,o,z=>by let⟨p,h,u,y,e,c,d,f,a⟩:=z;rw[e];exact Od (·+1) (zr o.2 a)
theorem lR(p:aL)(k:Nat):p.map rz++[rz (k:Int)]=(p++[(k:Int)]).map rz:=by rw[Nl];rfl
inductive nR(n:Nat)(d:List V)(H:Hp)(Q:VK)(a:XK):Prop
 |mk(b:η)(c:aL)(w:Sk)(u:V)(_:d=[.ref b,u])(_:H b=δ (.tup (c.map rz)))(_:c.length+n<=100)(_:dD H w u [])(_:w.ok ξ)(_:w.dep < n)(_:w.size<=1000)(_:∀(r:η) (xs:List V) (H':Hp),H r=θ->H' r=δ (.lst xs)->bu Gc H' ((c,w)::w.ws c 0) xs->aa H H'->Q (.ref r) H')
inductive iY(n:Nat)(g:List V)(H:Hp)(Q:VK)(b:XK):Prop
 |mk(d:η)(e:aL)(f:ρ)(c:List Int)(s:Sk)(a:Int)(u:V)(_:g=[.ref d,u])(_:H d=δ (.tup (e.map rz)))(_:e.length+n+1<=100)(_:i6 H f c s a u)(_:s.ok μ)(_:s.dep < n)(_:s.size<=1000)(_:∀(r:η) (xs:List V) (H':Hp),H r=θ->H' r=δ (.lst xs)->bu Gc H' (s.ws e 0) xs->aa H H'->Q (.ref r) H')
inductive Mm(h k:η)(j:aL)(u:V)(s:Sk)(H:Hp)(i:Nat)(m:_L.St)(a:Hp):Prop
 |mk(f g:Option V)(l:List V)(b:m=[↑h,δ u,↑k,f,g])(c:a k=δ (.lst l))(d:bu Gc a (eG (s.steps.take i) j 0) l)(e:aa H a)
noncomputable def cg(p:aL)(w:Sk):List aL:=p::(w.ws p 0).map (·.1)
theorem qx{w:Sk}(o:w.ok ξ)(p:aL):(cg p w).length=w.size+1:=by unfold cg;rw[Nz,MY,za o]
inductive lO(n:Nat)(d:List V)(H:Hp)(Q:VK)(a:XK):Prop
 |mk(b:η)(c:aL)(w:Sk)(u:V)(_:d=[.ref b,u])(_:H b=δ (.tup (c.map rz)))(_:c.length+n<=100)(_:dD H w u [])(_:w.ok ξ)(_:w.dep < n)(_:w.size<=1000)(_:∀(r:η) (xs:List V) (H':Hp),H r=θ->H' r=δ (.lst xs)->bu gQ H' (cg c w) xs->aa H H'->Q (.ref r) H')
noncomputable def rC(H:Hp):V->V
 | .ref q=>match H q with
  |some (.tup (x::_))=>x
  |_=>.non
 |_=>.non
theorem Jl(l:List V):(dB l.length).map (λi=>(l[i]?).getD .non)=l:=by refine Rs VW λi H h=>?_;simp [MV h]
theorem BU{H:Hp}(h:H q=δ (.tup [.ref p,u])):rC H (.ref q)= .ref p:=by show(match H q with |some (.tup (x::_))=>x |_=>V.non)=_;rw[h]
theorem Cw:ai ["path","what","within"] z7z (ae A2):=bN
theorem vq{n:Nat}(F:tf K "whats_at" A2 f fd)(cI:Cl P w K mg base (2*n+2) fI f0 ["path","chain"] (iY n) "whats_in"):ah P w K mg base aE (2*n+3) f fd z7z (nR$ n+1):=by
 refine F.ok Cw λc0 A O s H vs Q E hr h=>?_
 let⟨j,v,w,u,rfl,U,h0,D,k,W,hz,q⟩:=h;refine#[_,(jd (jB 2 Cw.nd$ kQ (jW$ jv$ pv 1) (cI.e hr.m$ ja (pv 0)$ ja (jv$ pv 1) jc)$ jK jc)$ jg$ jm$ jx qN (jK$ ja (jl$ ja (pv 0)$ ja (pv 1) jc) jc)$ pv 2),?_];let b0:=aJ;let fl:=za k v 0;refine aj λF1 G=>?_;suffices X:∀(l:η) (x:List V) (d:Hp),d l=δ (.lst x)->bu Gc d (w.ws v 0) x->aa H d->F1 [↑j,δ u,↑l] d by
  clear G;cases w with
  |nil |st=>exact k.elim
  |ask b |rd c i |wr c i=>let⟨p,rfl,y⟩:=D;exact(jp y Z #[Z,_,Z,aT VX #[fj,λl Y=>X l [] _ jb Z (je Y)]])
  |cl f is s a=>let⟨p,c,g,e,ss,rfl,y,h2,h3,h4,h5⟩:=D;let W:s.dep+1 < n+1:=W;exact(jp y Z #[Z,_,Z,cn VX #[_,Z,jp y Z #[j,v,f,is,s,a,.ref c,Z,U,VV,#[c,g,e,ss,Z,h2,h3,h4,h5],k,VV,hz,λl x d Y I B S=>X l x d I B S]]])
 intro l x d I B S;refine G _ _ ?_;clear G;let lx:=B.len;refine#[_,Z,_,Z,cp,λt J=>#[iZ,λL N=>#[_,Z,L,l,_,_,Z,Z,jb,am (am I J) N,by show 1+x.length<=_;omega,λr M=>?_]]];let C:aa d (af (af (af d t$ .tup [.ref j,u]) L$ .lst [.ref t]) r$ .lst ([.ref t]++x)):=((je J).trans$ je N).trans (je M);let ht:af (af (af d t$ .tup [.ref j,u]) L$ .lst [.ref t]) r (.lst ([.ref t]++x)) t=δ (.tup [.ref j,u]):=am (am jb N) M;let R:H r=θ:=by
  cases z:H r with
  |none=>rfl
  |some o=>have:=((je (o:=.lst [.ref t]) N) _ _ ((je (o:=.tup [.ref j,u]) J) _ _ (S _ _ z)));rw[M]at this;cases this
 exact q r _ _ R jb #[.ref t,x,Z,#[t,j,u,Z,ht,C _ _$ S _ _ U,D.mono$ aa.tm$ S.trans C],B.mono oY$ aa.tm C] (S.trans C)
theorem pG:ai ["path","chain","told","number","step"] ["path","chain"] (ae A3):=bN
theorem Ed(F:tf K "whats_in" A3 f fd)(cA:Cl P w K mg base (2*n+1) fA f2 z7z (nR n) "whats_at")(U:mg "enumerate"=θ):ah P w K mg base aE (2*n+2) f fd ["path","chain"] (iY n):=by
 refine F.ok pG λc0 A V s H vs Q E Y h=>?_
 let⟨pa,k,f,is,s,a,u,rfl,hp,h6,hc,d,hd,hz,q⟩:=h;refine#[_,(jd (jB 2 pG.nd$ jK jc)$ jd (jU Nu Z (Jm Z U$ ja (jv$ pv 1) jc) (zz (n:=2) Z$ jE (jr (i:=3) pG.nd Z$ ω Z)$ jE (jr (i:=4) pG.nd Z$ ω Z) kH)$ jg$ jH$ j8 M' Oi Oh zw (pv 2)$ ja (cA.e Y.m$ ja (jx ki (pv 0)$ jl$ ja (pv 3) jc)$ ja (jv$ pv 4) jc) jc)$ jg$ jm$ pv 2),?_];let b0:=aJ;let⟨c,g,e,ss,rfl,h1,h2,h3,h4⟩:=hc;let fl:=za d k 0;rw[zC d]at fl;let lt:=zr d h4;refine aj λF1 v=>#[fj,λT N=>v _ _ ?_];clear v;let s1:aa H (af H T$ .lst []):=je N;refine aj λF1 v=>dj λJ j=>(jp (s1 _ _ h1) Z #[e,Z,#[_,aB.of$ s1 _ _ h3],j _ _ ?_]);clear j;refine qj (K:=K) (xs:=ss) (Mm pa T k (.ref c) s H) #[θ,θ,[],Z,jb,Z,s1] (λi σ Hx _ h=>?_) ?_ (λσ Hx h=>v _ _ ?_)
 .let⟨_,_,_,_,_,_,y⟩:=h;exact aB.of$ y _ _ h3
 .intro E hE i x B σ O hx np f0 Gq l h;clear v;let⟨o3,o4,xs,rfl,R,W,y⟩:=h;let C:aa O (af O B$ .tup [.int i,x]):=je np;let e8:af O B (.tup [.int i,x]) B=δ (.tup [.int i,x]):=jb;refine l ?_;clear l;generalize af O B (.tup [.int i,x])=H8 at C e8 ⊢;let S8:=y.trans C;let⟨n1,D,w,p,hh,u,ht,o1,d0,s2,rfl,h0,h7,hw⟩:=qt d (h4.mono$ aa.tm S8) hx;refine#[B,_,Z,aB.of e8,Z,_,_,Z,_,_,Z,Z,?_];refine#[_,Z,.inl #[Z,_,aI.of$ C _ _ R],_,Z,_,Z,iZ,λt nt=>#[pa,t,_,_,Z,Z,am (S8 _ _ hp) nt,jb,by rw[MY];show _+1<=_;omega,λr9 H9 e9 s9=>?_]];let S9:=(je (o:=.tup [.int i]) nt).trans s9;rw[lR]at e9;refine(jp (S9 _ _ h0) Z #[r9,_,w,u,Z,e9,by rw[MZ];show _+1+_<=_;omega,hw.mono$ aa.tm S9,o1,VV,VV,λr X G nr Y I s0=>?_]);let S:=S9.trans s0;let L:=S _ _ (C _ _ R);let lx:=W.len;let l0:=I.len;let bl:=QY s.steps (i+1) k 0;let h5:i < s.steps.length:=(ν.mp ht).1;let et:s.steps.take (i+1)=s.steps.take i++[(n1,D,w)]:=by rw[N0,ht];rfl
  let eb:eG [(n1,D,w)] k (0+(s.steps.take i).length)=(k++[(i:Int)],w)::w.ws (k++[(i:Int)]) 0:=by rw[Nq,Pm$ OT h5,Pa];show(_::_)++[]=_;rw[Nx]
  rw[fl,et,zL,eb]at bl;rw[MZ]at bl;let M:ax G (af G T$ .lst$ xs++X):=λb ys e=>by rw[jh$ jP e L (by intro z;cases z)];exact e
  refine#[T,r,_,_,Z,Z,L,Y,VV,f0 _ _ #[_,_,xs++X,Z,jb,?_,λb o e=>?_]]
  .rw[et,zL,eb];exact(I.mono oY M).app ((W.mono oY$ aa.tm$ C.trans S).mono oY M)
  .rw[jh$ ji e N];exact S _ _$ S8 _ _ e
 .let⟨o3,o4,xs,rfl,R,W,y⟩:=h;rw[lt,NJ,<- zC d]at W;exact#[_,Z,q T xs Hx N R W y]
theorem DJ:ah P w K mg base aE k f c ["path","chain"] (iY 0):=by
 let n:∀v H Q E,¬iY 0 v H Q E:=λv H Q E h=>by let⟨p,d,f,i,s,a,u,_,_,_,_,_,z,_⟩:=h;omega
 exact#[λv H Q E h=>absurd h (n v H Q E),λA o s H b U v Q E _ _ _ _ h=>absurd h (n v H Q E)]
theorem IF(F:tf K "whats_at" A2 g a)(B:aC K a z7z [])(M:mg "whats_at"=↑g)(b:tf K "whats_in" A3 c f)(d:aC K f ["path","chain"] [])(e:mg "whats_in"=↑c)(m:mg "enumerate"=θ):∀n,ah P w K mg base aE (2*n+2) c f ["path","chain"] (iY n)
 |0=>DJ
 |n+1=>by let h:=IF F B M b d e m n;let H:=vq F #[h,d,b.kp,e];exact Ed b #[H,B,F.kp,M] m
theorem HY:ai z7z z7z (ae AX):=bN
noncomputable def sM:ir:=#[.function,[(".0",.local),("one",.local),("done",.local)],ξ,ξ,[]]
theorem uX:(["one","done"]:List ρ).Nodup:=by decide+kernel
theorem CZ:be z7z (ae AX) sM ["one","done"] 2 []:=oR
theorem D6{n:Nat}(F:tf K "paths_at" AX f I)(J:Cl P w K mg base (2*n+3) fA L z7z (nR$ n+1) "whats_at"):ah P w K mg base aE (2*n+4) f I z7z (lO$ n+1):=by
 refine F.ok HY λM A O s H vs Q E R h=>?_
 let⟨y,p,w,u,rfl,T,j,V,b,W,Y,q⟩:=h;refine#[_,(jg$ jm$ @zK _ _ _ _ _ _ _ (["one","done"]) (2) ([]) _ _ _ _ Z (zc$ J.e R.m$ ja (pv 0)$ ja (pv 1) jc) CZ (λ_ _ _ _ _=>Zz (K:=K) (n:=2) Z Z (jE (jr (i:=0) uX Z$ ω Z)$ jE (jr (i:=1) uX Z$ ω Z) kH) Z Z) (λ_ _ _ _ _=>(@zZ _)) (λ_ _ _ _ _=>(pv 0)) (by intro _;rfl)),?_];let b0:=aJ;let fl:=za b p 0;refine#[_,Z,_,Z,y,p,w,u,Z,T,j,V,b,W,Y,λr X a nr c k C=>?_];let lx:=k.len;rw[Nz,fl]at lx;let lm:(X.map$ rC a).length=X.length:=MY _;refine#[r,Z,#[_,aI.of c],Yh (λi=>((X.map$ rC a)[i]?).getD .non) VV (aI.of c) (λi x D=>?_) λl N=>q l (X.map$ rC a) _ ?_ ?_ ?_ (C.trans$ je N)]
 .obtain⟨⟨p',w'⟩,_,t,v,U,rfl,g,G,g3⟩:=k.at D;refine#[t,.ref v,U,Z,aB.of g,λQ d=>#[_,Z,?_]];rw[Ni,D]at d;let d:Q (rC a$ .ref t) a:=d;rw[BU g]at d;exact d
 .cases z:H l with
  |none=>rfl
  |some o=>rw[C _ _ z]at N;cases N
 .rw[jb,<- lm,Jl]
 .let e:cg p w=((p,w)::w.ws p 0).map (·.1):=rfl;rw[e];exact(bu.map (S:=gQ) (f:=rC a) (λx w #[t,v,U,e0,g,G,g3]=>by subst e0;rw[BU g];exact#[v,Z,G]) k).mono cq (aa.tm$ je N)
abbrev wj:cv:=bP 33
abbrev wg:cv:=bP 34
abbrev EQ:cv:=bP 35
theorem lG(h:bJ k A):A.units+10+1 < cLine:=by let:=h.un;omega
theorem qy:∀{I J:List Int},ay (I.map aq)=ay (J.map aq)->I=J
 | [],[],_=>rfl
 | [],_::_,e=>by cases e
 |_::_,[],e=>by cases e
 |i::I,j::J,e=>by let e:Tr.cons (aq i) (ay$ I.map aq)= .cons (aq j) (ay$ J.map aq):=e;injection e with E a;injection E with E;injection E with E;rw[E,qy a]
theorem kX:∀i:List Int,(ay$ i.map aq).In
 | []=>trivial
 |_::i=>#[Z,kX i]
theorem JG(n:Int)(h:List Int):(ay [aq n,aA$ h.map aq]).In:=#[Z,kX h,trivial]
theorem Xa(n:Int)(H:List Int):(ay [aq n,aA$ H.map aq]).dep < 10:=by let h:=kC H;show max 0 (max ((ay$ H.map aq).dep+1) 0) < 10;omega
noncomputable def rB(P:aO->Bool):Nat->List aO->Option Nat
 |_,[]=>θ
 |k,s::r=>if P s=μ then δ k else rB P (k+1) r
noncomputable def lS(P:aO->Bool)(os:List aO)(m:Nat):Option Nat:=rB P m (os.drop m)
theorem uy{P:aO->Bool}{os:List aO}(h:os[m]?=δ s):lS P os m=if P s=μ then δ m else lS P os (m+1):=by let⟨H,e⟩:=ν.mp h;unfold lS;rw[<- Ov (h:=H),e];rfl
theorem ZM{P:aO->Bool}{os:List aO}(h:os.length<=m):lS P os m=θ:=by unfold lS;rw[Tt h];rfl
theorem ZN{P:aO->Bool}:∀{os:List aO} {k j:Nat},rB P k os=δ j->∃i s,j=k+i/\os[i]?=δ s/\P s=μ
 | [],_,_,h=>nomatch h
 |s::r,k,j,h=>by
  let h:(if P s=μ then δ k else rB P (k+1) r)=δ j:=h;by_cases H:P s=μ
  .rw[M7 H]at h;cases h;exact#[0,s,Z,Z,H]
  .rw[Na H]at h;let⟨i,S,e,a,b⟩:=ZN h;exact#[i+1,S,VV,by simpa using a,b]
theorem ZO{P:aO->Bool}{os:List aO}(h:lS P os m=δ j):m<=j/\∃s,os[j]?=δ s/\P s=μ:=by let⟨i,s,e,H,a⟩:=ZN h;rw[P']at H;exact#[VV,s,by rw[e];exact H,a]
noncomputable def vE:Option Nat->V
 |some j=>.int (j:Int)
 |none=>.non
noncomputable def aS(n:Int)(h:List Int)(s:aO):Bool:=decide (s.1=n/\s.2.1=h)
noncomputable def cV(f:ρ)(i:List Int)(s:aO):Bool:=match s.2.2 with
 | .cl g j _ _=>decide (g=f/\j=i)
 |_=>ξ
noncomputable def lJ(os:List aO)(m:Nat):Sk->Option Nat
 | .cl f i _ _=>lS (cV f i) os m
 |_=>θ
noncomputable def fo(os:List aO)(m:Nat)(n:Int)(h:List Int)(w:Sk):Option Nat:=match lS (aS n h) os m with
 |some j=>δ j
 |none=>lJ os m w
theorem yz{H h:List Int}(e:aA [aq n,aA$ H.map aq]=aA [aq N,aA$ h.map aq]):n=N/\H=h:=by let e:Tr.tp (.cons (aq n)$ .cons (aA$ H.map aq) .nil)= .tp (.cons (aq N)$ .cons (aA$ h.map aq) .nil):=e;injection e with e;injection e with a A;injection A with b _;injection a with a;injection a with a;let b:Tr.tp (ay$ H.map aq)= .tp (ay$ h.map aq):=b;injection b with b;exact#[a,qy b]
theorem Yu{a H:List Int}{w:Sk}:gi (aA [aq N,aA$ H.map aq]) (aA [aq n,aA$ a.map aq])=aS n a (N,H,w):=by
 by_cases h:N=n/\H=a
 .rw[h.1,h.2,zn Z];exact(M9 #[Z,Z]).symm
 .rw[zf λe=>h (yz e)];exact(M5 h).symm
theorem XZ{i j:List Int}(e:aA [aK "call",aK g,aA$ j.map aq]=aA [aK "call",aK f,aA$ i.map aq]):g=f/\j=i:=by let e:Tr.tp (.cons (aK "call")$ .cons (aK g)$ .cons (aA$ j.map aq) .nil)= .tp (.cons (aK "call")$ .cons (aK f)$ .cons (aA$ i.map aq) .nil):=e;injection e with e;injection e with _ e;injection e with a A;injection A with b _;injection a with a;injection a with a;let b:Tr.tp (ay$ j.map aq)= .tp (ay$ i.map aq):=b;injection b with b;exact#[a,qy b]
theorem Jf(e:aA (aK a::x)=aA (aK b::y)):a=b:=by let e:Tr.tp (.cons (aK a)$ ay x)= .tp (.cons (aK b)$ ay y):=e;injection e with e;injection e with e _;injection e with e;injection e
theorem Dr{n':Int}{hs':List Int}{w:Sk}(o:w.ok ξ):gi (dI w) (dI$ .cl f i s a)=cV f i (n',hs',w):=by
 cases w with
 |nil |st _ _ _ _=>exact o.elim
 |ask b |rd b c |wr b c=>show gi (aA _) (aA _)=_;rw[zf λe=>absurd (Jf e) VU];rfl
 |cl g j S A=>
  by_cases h:g=f/\j=i
  .rw[h.1,h.2];show gi (aA _) (aA _)=_;rw[zn Z];exact(M9 #[Z,Z]).symm
  .show gi (aA _) (aA _)=_;rw[zf λe=>h (XZ e)];exact(M5 h).symm
theorem ZP{w:Sk}(o:w.ok ξ):∃l,dI w= .tp l/\l.dep < 10/\l.In/\∃v t,l= .cons (aK v) t/\(v="call"↔∃f i s a,w= .cl f i s a):=by
 cases w with
 |nil |st _ _ _ _=>exact o.elim
 |ask b |rd b B=>exact#[_,Z,by show max 0 (max 0 0) < 10;decide,#[Z,Z,trivial],_,_,Z,λe=>absurd e VU,λ#[_,_,_,_,e]=>nomatch e]
 |wr b B=>exact#[_,Z,by show max 0 (max 0 (max 0 0)) < 10;decide,#[Z,Z,Z,trivial],_,_,Z,λe=>absurd e VU,λ#[_,_,_,_,e]=>nomatch e]
 |cl f i s a=>exact#[_,Z,by show max 0 (max 0 (max ((ay (i.map aq)).dep+1) 0)) < 10;rw[kC];decide,#[Z,Z,kX i,trivial],_,_,Z,λ_=>#[_,_,_,_,Z],λ_=>Z]
inductive mG(f:List V)(H:Hp)(Q:VK)(a:XK):Prop
 |mk(e:η)(d:List V)(s:Sk)(m:Nat)(n:Int)(c:List Int)(b:V)(_:f=[.ref e,.int (m:Int),b])(_:H e=δ (.tup d))(_:dD H s .non d)(_:s.ok μ)(_:s.size<=1000)(_:m<=1000)(_:aR H (aA [aq n,aA (c.map aq)]) b [])(_:∀H',aa H H'->Q (vE (lS (aS n c) s.steps m)) H')
inductive mE(d:List V)(H:Hp)(Q:VK)(a:XK):Prop
 |mk(e:η)(c:List V)(s w:Sk)(m:Nat)(b:V)(_:d=[.ref e,.int (m:Int),b])(_:H e=δ (.tup c))(_:dD H s .non c)(_:s.ok μ)(_:s.size<=1000)(_:m<=1000)(_:aR H (dI w) b [])(_:w.ok ξ)(_:∀H',aa H H'->Q (vE (lJ s.steps m w)) H')
inductive nQ(d:List V)(H:Hp)(Q:VK)(a:XK):Prop
 |mk(e p h:η)(c:List V)(s w:Sk)(m:Nat)(n:Int)(b:List Int)(u:V)(_:d=[.ref e,.int (m:Int),.ref p])(_:H e=δ (.tup c))(_:dD H s .non c)(_:s.ok μ)(_:s.size<=1000)(_:m<=1000)(_:H p=δ (.tup [.int n,.ref h,u]))(_:H h=δ (.tup (b.map rz)))(_:dD H w u [])(_:w.ok ξ)(_:∀H',aa H H'->Q (vE (fo s.steps m n b w)) H')
theorem wL:ai ["steps","mark","cut","at"] ["steps","mark","cut"] (ae wj):=bN
theorem Ag(F:tf K "like_from" wj f T)(R:mg "len"=θ)(U:mg "range"=θ):ah P w K mg base aE 1 f T ["steps","mark","cut"] mG:=by
 refine F.ok wL λV A O s H vs Q E W h=>?_
 let⟨e,v,s,m,n,c,C,rfl,G,g,k,Y,hm,hc,q⟩:=h;refine#[_,(jd (jU Nu Z (zW Z U$ ja (pv 1)$ ja (jN jI Z R NO$ ja (pv 0) jc) jc) (jr (i:=3) wL.nd Z$ ω Z)$ jg$ jy (jz (Kr (d:=10)$ lG W) (jM kc (ju jF (pv 0) (pv 3) (λ_ _=>Z)) jV$ jL jf) (pv 2)$ aF _) (jg$ jm$ pv 3) jo)$ jg$ jm$ @JA _ _ _),?_];let b0:=aJ;let l0:=zr k g;let l1:=qr k g;refine aj λF1 f1=>dj λJ j=>#[_,Z,_,Z,e,_,Z,.inr$ aB.of G,_,_,Z,#[VV,VV,VV,VV],j _ _ ?_];clear j;refine ke (λi x I=>(∃y,x=[↑e,δ$ .int (m:Int),δ C,y])/\aa H I/\lS (aS n c) s.steps m=lS (aS n c) s.steps (m+i)) #[#[_,Z],aa.refl _,Z] ?_ (λx I h=>f1 _ _ ?_)
 .intro L rt i x H2 hi fE X l h;obtain⟨⟨y,rfl⟩,S,b⟩:=h;refine l ?_;clear l;let e0:(m:Int)+(i:Int)=((m+i:Nat):Int):=by omega
  rw[e0];let o:m+i < v.length:=by omega
  let⟨N,a,w,p,h,u,ht,o1,_,_,ex,hp,hh,_⟩:=qt k (g.mono$ aa.tm S) (MV o);let B:v[m+i]?=↑p:=by rw[MV o,ex]
  show gZ _ _ _ L _ _;refine lH λG1 kT kF=>#[_,Z,_,Z,e,_,_,_,Z,Z,aB.of$ S _ _ G,jG B,_,Z,p,_,Z,hp,λq2 H1 D r=>#[_,Z,_,_,Xa N a,JG N a,JG n c,jC D$ jk Z jT$ jk Z (j9$ r _ _ hh) jA,hc.mono$ aa.tm$ S.trans r,_,Z,?_]];rw[show gi (.tp$ ay [aq N,aA$ a.map aq]) (.tp$ ay [aq n,aA$ c.map aq])=aS n c (N,a,w) from Yu];let t:=uy (P:=aS n c) ht;cases M:aS n c (N,a,w) with
  |true=>refine kT _ ?_;show gg _ L _ _;unfold gg;rw[rt];rw[M7 M]at t;let z:=q _ (S.trans r);rw[b,t]at z;exact#[_,Z,z]
  |false=>rw[Na (by rw[M];intro z;cases z)]at t;exact kF _$ fE _ _ #[#[_,Z],S.trans r,by rw[b,t];rfl]
 .obtain⟨⟨y,rfl⟩,S,b⟩:=h;let z:=q _ S;rw[b,ZM VV]at z;exact z
theorem wK:ai ["steps","mark","deed","at"] ["steps","mark","deed"] (ae wg):=bN
theorem Af(F:tf K "lender_from" wg f fd)(cI:Cl P w K mg base 1 fI f0 ["what"] nG "deed_in")(ml:mg "len"=θ)(mr:mg "range"=θ):ah P w K mg base aE 2 f fd ["steps","mark","deed"] mE:=by
 refine F.ok wK λc0 A O s H vs Q E hr h=>?_
 let⟨e,D,s,w,m,dv,rfl,he,c,g,h0,hm,G,L,q⟩:=h;refine#[_,(jd (jy (jz Xs (jv$ pv 2) jw$ aF _) (jg$ jm$ @JA _ _ _) jo)$ jd (jU Nu Z (zW Z mr$ ja (pv 1)$ ja (jN jI Z ml NO$ ja (pv 0) jc) jc) (jr (i:=3) wK.nd Z$ ω Z)$ jg$ jy (jz (Kr (d:=10)$ lG hr) (cI.e hr.m$ ja (jv$ ju jF (pv 0) (pv 3) (λ_ _=>Z)) jc) (pv 2)$ aF _) (jg$ jm$ pv 3) jo)$ jg$ jm$ @JA _ _ _),?_];let b0:=aJ;let l0:=zr g c;let l1:=qr g c;let⟨l,el,dl,il,v0,ts,ev,r⟩:=ZP L;rw[el]at G;let⟨_,da,ds,rfl,M,t⟩:=id G;rw[ev]at t;obtain⟨_,_,y0,y1,rfl,⟨rfl,_⟩,_⟩:=t;refine aj λF1 y=>(jp M eQ #[Z,_,Z,?_]);by_cases B:v0="call"
 .let⟨f,I,s1,a1,rfl⟩:=r.mp B;subst B;refine aT VX$ y _ _ ?_;clear y;refine aj λF1 y=>dj λJ j=>#[_,Z,_,Z,e,_,Z,.inr$ aB.of he,_,_,Z,#[VV,VV,VV,VV],j _ _ ?_];clear j;refine ke (λi N R=>(∃T,N=[↑e,δ$ .int (m:Int),↑da,T])/\aa H R/\lS (cV f I) s.steps m=lS (cV f I) s.steps (m+i)) #[#[_,Z],aa.refl _,Z] ?_ (λN R h=>y _ _ ?_)
  .intro E2 rt i N H2 hi fE Gq n h;obtain⟨⟨T,rfl⟩,S,b⟩:=h;refine n ?_;clear n;let e0:(m:Int)+(i:Int)=((m+i:Nat):Int):=by omega
   rw[e0];let v:m+i < D.length:=by omega
   let⟨n',hs',w,p,h,u,ht,o,_,_,ex,hp,hh,hw⟩:=qt g (c.mono$ aa.tm S) (MV v);let U:D[m+i]?=↑p:=by rw[MV v,ex]
   let⟨l',x,W,X,_⟩:=ZP o;show gZ _ _ _ E2 _ _;refine lH λG1 kT kF=>#[_,Z,_,Z,e,_,_,_,Z,Z,aB.of$ S _ _ he,jG U,p,_,_,_,Z,Z,aB.of hp,dP,u,w,Z,hw,o,λv1 H1 Y k=>#[_,Z,l',l,W,X,il,x▸Y,G.mono$ aa.tm$ S.trans k,_,Z,?_]];rw[<- x,<- el,Dr (n':=n') (hs':=hs') o];let C:=uy (P:=cV f I) ht;cases hb:cV f I (n',hs',w) with
   |true=>refine kT _ ?_;show gg _ E2 _ _;unfold gg;rw[rt];rw[M7 hb]at C;let z:Q (vE$ lS (cV f I) s.steps m) H1:=q _ (S.trans k);rw[b,C]at z;exact#[_,Z,z]
   |false=>rw[Na (by rw[hb];intro z;cases z)]at C;exact kF _$ fE _ _ #[#[_,Z],S.trans k,by rw[b,C];rfl]
  .obtain⟨⟨T,rfl⟩,S,b⟩:=h;let z:Q (vE$ lS (cV f I) s.steps m) R:=q _ S;rw[b,ZM VV]at z;exact z
 .refine cn ?_ ?_
  .show(!decide (ry v0=ry "call"))=μ;rw[M5 λz=>B (by injection z)];rfl
  let z:=q _ (aa.refl _);let en:lJ s.steps m w=θ:=by
   cases w with
   |cl f I s a=>exact absurd (r.mpr #[f,I,s,a,Z]) B
   |_=>rfl
  rw[en]at z;exact z
theorem Cq:ai ["steps","mark","step","like"] ["steps","mark","step"] (ae EQ):=bN
theorem Ea(F:tf K "taken_from" EQ f I)(J:Cl P w K mg base 1 fL L ["steps","mark","cut"] mG "like_from")(M:Cl P w K mg base 2 fD N ["steps","mark","deed"] mE "lender_from")(R:Cl P w K mg base 1 fI T ["what"] nG "deed_in"):ah P w K mg base aE 3 f I ["steps","mark","step"] nQ:=by
 refine F.ok Cq λU A O s H vs Q E i h=>?_
 let⟨e,p,h,k,s,w,m,n,a,u,rfl,y,b,c,d,B,C,V,W,o,q⟩:=h;refine#[_,(jd (jB 3 Cq.nd$ J.e i.m$ ja (pv 0)$ ja (pv 1)$ ja (jM kc (pv 2) jV$ jL jf) jc)$ jg$ jm$ kQ (QQ$ @vF _ _ _ _ _$ pv 3) (M.e i.m$ ja (pv 0)$ ja (pv 1)$ ja (R.e i.m$ ja (jv$ pv 2) jc) jc)$ pv 3),?_];refine aj λF1 D=>#[_,Z,_,Z,_,Z,_,Z,p,_,Z,C,λq2 H1 l g=>#[e,k,s,m,n,a,_,Z,g _ _ y,b.mono$ aa.tm g,c,d,B,jC l$ jk Z jT$ jk Z (j9$ g _ _ V) jA,λH2 X=>D _ _ ?_]];clear D;let S:=g.trans X;cases G:lS (aS n a) s.steps m with
 |some j=>
  refine#[_,Z,_,Z,aT (M5 (by intro z;cases z)) #[_,Z,?_]];let z:=q _ S;let r:fo s.steps m n a w=δ j:=by unfold fo;rw[G]
  rw[r]at z;exact z
 |none=>
  refine#[_,Z,_,Z,cn (M9 Z) #[_,Z,_,Z,jp (S _ _ C) dP #[u,w,Z,W.mono$ aa.tm S,o,λY H3 t v=>#[e,k,s,w,m,Y,Z,v _ _$ S _ _ y,b.mono$ aa.tm$ S.trans v,c,d,B,t,o,λH4 s4=>?_]]]];let z:=q _ ((S.trans v).trans s4);let r:fo s.steps m n a w=lJ s.steps m w:=by unfold fo;rw[G]
  rw[r]at z;exact z
abbrev FK:=aL×aL
structure Ly where
 k:List FK
 t:List FK
 f:List aL
 d:List aL
noncomputable def Ly.app(a b:Ly):Ly:=#[a.k++b.k,a.t++b.t,a.f++b.f,a.d++b.d]
noncomputable def Ly.nil:Ly:=#[[],[],[],[]]
noncomputable def Ly.tot(a:Ly):Nat:=a.k.length+a.t.length+a.f.length+a.d.length
theorem Ly.app_assoc(a b c:Ly):(a.app b).app c=a.app (b.app c):=by unfold Ly.app;simp [OB]
theorem Ly.app_nil(a:Ly):a.app .nil=a:=by unfold Ly.app Ly.nil;simp
theorem Ly.nil_app(a:Ly):Ly.nil.app a=a:=rfl
theorem Ly.tot_app(a b:Ly):(a.app b).tot=a.tot+b.tot:=by unfold Ly.app Ly.tot;simp only[MZ];omega
noncomputable def Sk.fnd:Sk->Int
 | .ask b=>b
 | .rd _ i=>i
 | .wr _ i=>i
 | .cl _ _ _ a=>a
 |_=>0
noncomputable def lD:Sk->List aO
 | .cl _ _ s _=>s.steps
 |_=>[]
noncomputable def eK(p:aL)(os:List aO)(m j:Nat):List aL:=(eG ((os.drop m).take$ j - m) p m).map (·.1)
noncomputable def one(p:aL)(o:aO)(a:aL)(n:Int)(h:List Int)(w:Sk):Ly:=
 if aS n h o=μ then (if o.2.2.fnd=w.fnd then #[[(p,a)],[],[],[]] else #[[],[(p,a)],[],[]]) else #[[],[],[a],[p]]
noncomputable def dR:Sk->aL->List aO->Nat->aL->Nat->Ly
 | .st n h w r,p,os,m,a,k=>match fo os m n h w with
  |none=>(#[[],[],cg (a++[(k:Int)]) w,[]]:Ly).app (dR r p os m a (k+1))
  |some j=>match os[j]? with
   |none=>.nil
   |some o=>((#[[],[],[],eK p os m j]:Ly).app ((one (p++[(j:Int)]) o (a++[(k:Int)]) n h w).app (dR w (p++[(j:Int)]) (lD o.2.2) 0 (a++[(k:Int)]) 0))).app (dR r p os (j+1) a (k+1))
 | .cl _ _ s _,p,os,m,a,k=>dR s p os m a k
 | .nil,p,os,m,_,_=>#[[],[],[],eK p os m os.length]
 |_,_,_,_,_,_=>.nil
theorem zU{w:Sk}{os:List aO}(h:fo os m n H w=θ):dR (.st n H w r) a os m p k=(#[[],[],cg (p++[(k:Int)]) w,[]]:Ly).app (dR r a os m p$ k+1):=by show(match fo os m n H w with |none=>_ |some j=>_)=_;rw[h]
theorem zV{w:Sk}{os:List aO}(h:fo os m n H w=δ j)(b:os[j]?=δ o):dR (.st n H w r) p os m a k=((#[[],[],[],eK p os m j]:Ly).app ((one (p++[(j:Int)]) o (a++[(k:Int)]) n H w).app$ dR w (p++[(j:Int)]) (lD o.2.2) 0 (a++[(k:Int)]) 0)).app (dR r p os (j+1) a$ k+1):=by show(match fo os m n H w with |none=>_ |some j=>match os[j]? with |none=>Ly.nil |some o=>_)=_;rw[h];dsimp only;rw[b]
abbrev DF:=ρ->Int->List Int->Tr
def Dt(D:DF):ρ->Sk->Prop
 |f,.st n h w r=>dI w=D f n h/\Dt D f w/\Dt D f r
 |_,.cl g _ s _=>Dt D g s
 |_,_=>True
theorem Kj:∀{s:Sk},Dt D f s->∀{j:Nat} {o:aO},s.steps[j]?=δ o->dI o.2.2=D f o.1 o.2.1/\Dt D f o.2.2
 | .st n H w r,h,0,o,e=>by cases e;exact#[h.1,h.2.1]
 | .st n H w r,h,j+1,o,e=>Kj h.2.2 (j:=j) (by let e:((n,H,w)::r.steps)[j+1]?=δ o:=e;simpa using e)
 | .nil,_,j,o,e=>by let e:([]:List aO)[j]?=δ o:=e;simp at e
 | .ask _,_,j,o,e=>by let e:([]:List aO)[j]?=δ o:=e;simp at e
 | .rd _ _,_,j,o,e=>by let e:([]:List aO)[j]?=δ o:=e;simp at e
 | .wr _ _,_,j,o,e=>by let e:([]:List aO)[j]?=δ o:=e;simp at e
 | .cl _ _ _ _,_,j,o,e=>by let e:([]:List aO)[j]?=δ o:=e;simp at e
theorem ze{os:List aO}{w:Sk}(h:fo os m n d w=δ j):m<=j/\∃o,os[j]?=δ o/\(aS n d o=μ∨∃f I s a,w= .cl f I s a/\cV f I o=μ):=by
 unfold fo at h;cases e:lS (aS n d) os m with
 |some i=>rw[e]at h;cases h;let⟨H,s,b,c⟩:=ZO e;exact#[H,s,b,.inl c]
 |none=>
  rw[e]at h;let h:lJ os m w=δ j:=h;cases w with
  |cl f I s a=>let⟨H,S,b,c⟩:=ZO (show lS (cV f I) os m=δ j from h);exact#[H,S,b,.inr #[f,I,s,a,Z,c]]
  |_=>cases h
theorem uR(h:aS n H o=μ):o.1=n/\o.2.1=H:=NV h
theorem uO(h:cV f i o=μ):∃s a,o.2.2= .cl f i s a:=by
 unfold cV at h;split at h
 .rename_i g j s a e
  let⟨rfl,rfl⟩:=NV h;exact#[s,a,e]
 .cases h
theorem Yv{w:Sk}(o:w.ok ξ)(e:dI w=dI (.cl f i s a)):∃S A,w= .cl f i S A:=by
 cases w with
 |nil |st _ _ _ _=>exact o.elim
 |ask b |rd b c |wr b c=>exact absurd (Jf e) VU
 |cl g j S A=>let⟨rfl,rfl⟩:=XZ e;exact#[S,A,Z]
theorem Yw{os s:Sk}{w:Sk}(r:os.ok μ)(k:Dt D f os)(h:fo os.steps m n l w=δ j)(b:os.steps[j]?=δ o)(O:o.2.2.ok ξ)(p:dI w=D f n l):∀g i s a,w= .cl g i s a->∃S A,o.2.2= .cl g i S A:=by
 intro g i s a e;let⟨_,t,H,c⟩:=ze h;rw[b]at H;cases H;rcases c with c | ⟨F,I,S,A,E,c⟩
 .let⟨C,q⟩:=uR c;let⟨d,_⟩:=Kj k b;rw[C,q,<- p,e]at d;exact Yv O d
 .rw[e]at E;cases E;exact uO c
def mQ:RA FK:=λH x p=>∃q a b,x= .ref q/\H q=δ (.tup [.ref a,.ref b])/\H a=δ (.tup$ p.1.map rz)/\H b=δ (.tup$ p.2.map rz)
theorem fw:IJ mQ:=λ_ _ _ _ k #[q,a,b,e,h,H,c]=>#[q,a,b,e,k _ _ h,k _ _ H,k _ _ c]
structure LK(K:γ)(C:η):Prop where
 cl:oQ K C
 n1:a7 K C "kept"
 n2:a7 K C "turned"
 n3:a7 K C "fresh"
 n4:a7 K C "dropped"
noncomputable def IZ(k t f d:η):List (ρ×V):=[("kept",.ref k),("turned",.ref t),("fresh",.ref f),("dropped",.ref d)]
structure L4(H:Hp)(ob:HO)(r kA tA fA dA:η)(y:Ly):Prop where
 ins:H r=δ ob
 kv:∃xs,H kA=δ (.lst xs)/\bu mQ H y.k xs
 tv:∃xs,H tA=δ (.lst xs)/\bu mQ H y.t xs
 fv:∃xs,H fA=δ (.lst xs)/\bu gQ H y.f xs
 dv:∃xs,H dA=δ (.lst xs)/\bu gQ H y.d xs
 ne:kA≠tA/\kA≠fA/\kA≠dA/\tA≠fA/\tA≠dA/\fA≠dA
 nl:∀xs,ob≠ .lst xs
abbrev Lg(H:Hp)(C r D k t f d:η)(y:Ly):Prop:=L4 H (.ins C D$ IZ k t f d) r k t f d y
abbrev Lt(H:Hp)(z k t f d:η)(y:Ly):Prop:=L4 H (.tup [.ref k,.ref t,.ref f,.ref d]) z k t f d y
def a6(a b c d:η)(H h:Hp):Prop:=∀x o,x≠a->x≠b->x≠c->x≠d->H x=δ o->h x=δ o
theorem a6.of_same(s:aa H h):a6 a b c d H h:=λ_ _ _ _ _ _ e=>s _ _ e
theorem a6.trans(h:a6 a b c d H i)(k:a6 a b c d i j):a6 a b c d H j:=λx o n N f g e=>k x o n N f g (h x o n N f g e)
section
variable {H H':Hp}{ob:HO}{r kA tA fA dA:η}{y:Ly}
theorem L4.tm(h:L4 H ob r kA tA fA dA y)(k:a6 kA tA fA dA H H'):ax H H':=λb x e=>by let⟨_,a,_⟩:=h.kv;let⟨_,c,_⟩:=h.tv;let⟨_,d,_⟩:=h.fv;let⟨_,f,_⟩:=h.dv;exact k b _ (jP e a (by intro z;cases z)) (jP e c (by intro z;cases z)) (jP e d (by intro z;cases z)) (jP e f (by intro z;cases z)) e
theorem L4.same(h:L4 H ob r kA tA fA dA y)(s:aa H H'):L4 H' ob r kA tA fA dA y:=by let⟨x,a,g⟩:=h.kv;let⟨X,b,G⟩:=h.tv;let⟨c,d,g3⟩:=h.fv;let⟨e,f,i⟩:=h.dv;exact#[s _ _ h.ins,#[x,s _ _ a,g.mono fw$ aa.tm s],#[X,s _ _ b,G.mono fw$ aa.tm s],#[c,s _ _ d,g3.mono cq$ aa.tm s],#[e,s _ _ f,i.mono cq$ aa.tm s],h.ne,h.nl]
theorem z9{o:HO}(h:H a=δ (.lst x)):ax H (af H a o):=λb Y e=>by rw[jh$ jP e h (by intro z;cases z)];exact e
theorem L4.setK(h:L4 H ob r kA tA fA dA y)(a:H kA=δ (.lst x))(g:bu mQ H p Y):L4 (af H kA$ .lst$ x++Y) ob r kA tA fA dA (y.app #[p,[],[],[]])/\a6 kA tA fA dA H (af H kA$ .lst$ x++Y):=by
 let T:=z9 (o:=.lst (x++Y)) a;let⟨v,c,G⟩:=h.kv;let⟨X,i,j⟩:=h.tv;let⟨k,l,g3⟩:=h.fv;let⟨m,n,q⟩:=h.dv;let⟨N,s,u,z,B,C⟩:=h.ne;rw[c]at a;cases a;refine#[#[?_,#[_,jb,(bu.app g G).mono fw T],#[X,?_,?_],#[k,?_,?_],#[m,?_,?_],h.ne,h.nl],λb o A D E F e=>by rw[jh A];exact e]
 .rw[jh$ jP h.ins c$ h.nl _];exact h.ins
 .rw[jh$ NA N];exact i
 .show bu mQ _ (y.t++[]) _;rw[Nx];exact j.mono fw T
 .rw[jh$ NA s];exact l
 .show bu gQ _ (y.f++[]) _;rw[Nx];exact g3.mono cq T
 .rw[jh$ NA u];exact n
 .show bu gQ _ (y.d++[]) _;rw[Nx];exact q.mono cq T
theorem L4.setT(h:L4 H ob r kA tA fA dA y)(a:H tA=δ (.lst x))(g:bu mQ H p Y):L4 (af H tA$ .lst$ x++Y) ob r kA tA fA dA (y.app #[[],p,[],[]])/\a6 kA tA fA dA H (af H tA$ .lst$ x++Y):=by
 let t:=z9 (o:=.lst (x++Y)) a;let⟨X,i,G⟩:=h.kv;let⟨z,c,j⟩:=h.tv;let⟨l,m,g3⟩:=h.fv;let⟨n,q,s⟩:=h.dv;let⟨N,B,C,u,v,D⟩:=h.ne;rw[c]at a;cases a;refine#[#[?_,#[X,?_,?_],#[_,jb,(bu.app g j).mono fw t],#[l,?_,?_],#[n,?_,?_],h.ne,h.nl],λb o E A F I e=>by rw[jh A];exact e]
 .rw[jh$ jP h.ins c$ h.nl _];exact h.ins
 .rw[jh N];exact i
 .show bu mQ _ (y.k++[]) _;rw[Nx];exact G.mono fw t
 .rw[jh$ NA u];exact m
 .show bu gQ _ (y.f++[]) _;rw[Nx];exact g3.mono cq t
 .rw[jh$ NA v];exact q
 .show bu gQ _ (y.d++[]) _;rw[Nx];exact s.mono cq t
theorem L4.setF(h:L4 H ob r kA tA fA dA y)(a:H fA=δ (.lst x))(f:bu gQ H p Y):L4 (af H fA$ .lst$ x++Y) ob r kA tA fA dA (y.app #[[],[],p,[]])/\a6 kA tA fA dA H (af H fA$ .lst$ x++Y):=by
 let T:=z9 (o:=.lst (x++Y)) a;let⟨X,g,G⟩:=h.kv;let⟨i,j,l⟩:=h.tv;let⟨v,c,g3⟩:=h.fv;let⟨m,n,q⟩:=h.dv;let⟨z,N,B,s,C,u⟩:=h.ne;rw[c]at a;cases a;refine#[#[?_,#[X,?_,?_],#[i,?_,?_],#[_,jb,(bu.app f g3).mono cq T],#[m,?_,?_],h.ne,h.nl],λb o D E A F e=>by rw[jh A];exact e]
 .rw[jh$ jP h.ins c$ h.nl _];exact h.ins
 .rw[jh N];exact g
 .show bu mQ _ (y.k++[]) _;rw[Nx];exact G.mono fw T
 .rw[jh s];exact j
 .show bu mQ _ (y.t++[]) _;rw[Nx];exact l.mono fw T
 .rw[jh$ NA u];exact n
 .show bu gQ _ (y.d++[]) _;rw[Nx];exact q.mono cq T
theorem L4.setD(h:L4 H ob r kA tA fA dA y)(a:H dA=δ (.lst x))(d:bu gQ H p Y):L4 (af H dA$ .lst$ x++Y) ob r kA tA fA dA (y.app #[[],[],[],p])/\a6 kA tA fA dA H (af H dA$ .lst$ x++Y):=by
 let T:=z9 (o:=.lst (x++Y)) a;let⟨X,g,G⟩:=h.kv;let⟨i,j,l⟩:=h.tv;let⟨m,n,g3⟩:=h.fv;let⟨v,c,q⟩:=h.dv;let⟨z,B,N,C,s,u⟩:=h.ne;rw[c]at a;cases a;refine#[#[?_,#[X,?_,?_],#[i,?_,?_],#[m,?_,?_],#[_,jb,(bu.app d q).mono cq T],h.ne,h.nl],λb o D E F A e=>by rw[jh A];exact e]
 .rw[jh$ jP h.ins c$ h.nl _];exact h.ins
 .rw[jh N];exact g
 .show bu mQ _ (y.k++[]) _;rw[Nx];exact G.mono fw T
 .rw[jh s];exact j
 .show bu mQ _ (y.t++[]) _;rw[Nx];exact l.mono fw T
 .rw[jh u];exact n
 .show bu gQ _ (y.f++[]) _;rw[Nx];exact g3.mono cq T
end
theorem yB(p:aL)(os:List aO)(m:Nat):eK p os m m=[]:=by unfold eK;rw[P8,List.take_zero];rfl
theorem t9{po:aL}{os:List aO}{m j:Nat}(h:m<=j)(H:os[j]?=δ o):eK po os m (j+1)=eK po os m j++cg (po++[(j:Int)]) o.2.2:=by
 unfold eK;let e:(os.drop m).take (j+1 - m)=(os.drop m).take (j - m)++[o]:=by rw[show j+1 - m=(j - m)+1 by omega,N0,P',show m+(j - m)=j by omega,H];rfl
 let a:((os.drop m).take$ j - m).length=j - m:=by let:=(ν.mp H).1;rw[Nq,NN];omega
 rw[e,zL,Nl,a,show m+(j - m)=j by omega];congr 1;show(((_,_)::_)++[]).map _=_;rw[Nx];rfl
noncomputable abbrev we:cv:=bp (bP 36) 0
noncomputable abbrev AV:cv:=bp (bP 36) 1
noncomputable abbrev wb:cv:=bp (bP 36) 2
noncomputable abbrev AU:cv:=bp (bP 36) 3
abbrev wf:cv:=bP 37
section
open SeqAt
variable {X:Cx}
theorem LA(I:au X p σ H s)(n:Nat)(G:∀(t:Tr) {A:cc},t.dep<=n->A.units+n < cLine->t.In->t.isL=ξ->∀{u:Tr} {x y:V},u.In->u.isL=ξ->aR H t x []->aR H u y []->∀a b,aG x a->aG y b->EqAt A s a b (gi t u)){l m:Tr}(hn:l.dep<=n)(hu:A.units+n+1 < cLine)(J:l.In)(L:m.In)(d:l.isL=μ)(f:m.isL=μ)(M:H g=δ (.tup i))(N:H B=δ (.tup o))(T:aR H l .non i)(q:aR H m .non o):RcNeAt A s (.ref g) (.ref B) (!gi (.tp l) (.tp m)):=by
 let⟨v,r,O,_⟩:=I.tuple (aB.of (K:=X.K) M);let⟨C,R,Q,_⟩:=I.tuple (aB.of (K:=X.K) N);let⟨S,U⟩:=qw d J T;let⟨W,Y⟩:=qw f L q;let z:=RcNeAt.tuples (A:=A) (e:=lr l m) (show s.heap.IsTuple g v.toArray from O) (show s.heap.IsTuple B C.toArray from Q) VV (λj h1 h2=>?_)
 .rw[XY d f T q (by rw[M1,<- r.length,S]) (by rw[M1,<- R.length,W])]at z;let E:gi (.tp l) (.tp m)=gi l m:=by
   by_cases c:l=m
   .rw[zn c,zn (by rw[c])]
   .rw[zf c,zf (λk=>c (by injection k))]
  rw[E];exact z
 .let la:=r.length;let lb:=R.length;let D:j < i.length:=by simp at h1;omega
  let h:j < o.length:=by simp at h2;omega
  let⟨u1,q1,r1⟩:=r.get (MV D);let⟨u2,q2,r2⟩:=R.get (MV h);let e1:v.toArray[j]=u1:=by let⟨_,e⟩:=ν.mp q1;simpa using e
  let E:C.toArray[j]=u2:=by let⟨_,e⟩:=ν.mp q2;simpa using e
  rw[e1,E];let⟨F,g1,g2,g3,g4,g5⟩:=U j _ (MV D);let⟨u',k1,k2,k3,k4,k5⟩:=Y j _ (MV h);let et:lr l m j=gi F u':=by unfold lr;rw[g1,k1]
  rw[et];exact G F (A:=A.in1) VV (by show A.units+1+n < cLine;omega) g3 g2 k3 k2 g5 k5 _ _ r1 r2
inductive Ey(d:Nat)(x y:V)(H:Hp)(Q:VK):Prop
 |mk(l m:Tr)(_:l.dep < d)(_:l.In)(_:m.In)(_:aR H (.tp l) x [])(_:aR H (.tp m) y [])(_:Q (.bl (!gi (.tp l) (.tp m))) H)
theorem vA{d:Nat}(c:X.A.units+d+1 < cLine):fh X (compareOp .NotEq) (Ey d):=by intro p s n H x y v u Q I r R h;obtain⟨l,m,o,i,e,⟨f,a,z,rfl,g,t⟩,⟨j,b,B,rfl,k,T⟩,q⟩:=h;cases r;cases R;exact LA I d (QX I d) VV c i e f j g k t T X.prog X.w _ _ #[.bl _,H,I,Z,q]
end
inductive iP(b:List V)(H:Hp)(Q:VK)(a:XK):Prop
 |mk(u:V)(w:Sk)(_:b=[u])(_:dD H w u [])(_:w.ok ξ)(_:Q (.int w.fnd) H)
inductive my(C:η)(d:List V)(H:Hp)(Q:VK)(a:XK):Prop
 |mk(r c:η)(_:d=[.ref r])(_:H r=δ (.ins C c []))(_:∀(kA tA fA dA:η) (H':Hp),Lg H' C r c kA tA fA dA .nil->(∀b o,b≠r->H b=δ o->H' b=δ o)->H kA=θ->H tA=θ->H fA=θ->H dA=θ->Q .non H')
inductive iO(C:η)(o:List V)(H:Hp)(Q:VK)(b:XK):Prop
 |mk(r e i n g d k c:η)(l:aL)(f:ρ)(h:List Int)(s:Sk)(a:Int)(m j:Nat)(y:Ly)(_:o=[.ref r,.ref k,.ref c,.int (m:Int),.int (j:Int)])(_:Lg H C r e i n g d y)(_:H k=δ (.tup (l.map rz)))(_:l.length<=50)(_:i6 H f h s a (.ref c))(_:s.ok μ)(_:s.dep<=15)(_:s.size<=1000)(_:m<=j)(_:j<=s.steps.length)(_:y.d.length+(eK l s.steps m j).length<=100000)(_:∀H',Lg H' C r e i n g d (y.app #[[],[],[],eK l s.steps m j])->a6 i n g d H H'->Q .non H')
inductive nL(C:η)(n:Nat)(A:List V)(H:Hp)(Q:VK)(b:XK):Prop
 |mk(D:DF)(r f k w h e t q i o p j:η)(v u:aL)(l m:Int)(c d:List Int)(x z:V)(B E:Sk)(y:Ly)(_:A=[.ref r,.ref t,.ref q,.ref o,.ref p])(_:Lg H C r f k w h e y)(_:H t=δ (.tup (v.map rz)))(_:H o=δ (.tup (u.map rz)))(_:v.length+n<=50)(_:u.length+n<=50)(_:H q=δ (.tup [.int l,.ref i,x]))(_:H i=δ (.tup (c.map rz)))(_:dD H B x [])(_:B.ok ξ)(_:B.dep<=15)(_:B.size<=1000)(_:H p=δ (.tup [.int m,.ref j,z]))(_:H j=δ (.tup (d.map rz)))(_:dD H E z [])(_:E.ok ξ)(_:E.dep < n)(_:E.dep<=15)(_:E.size<=1000)(_:∀g is s a,E= .cl g is s a->∃s' a',B= .cl g is s' a'/\Dt D g s/\Dt D g s')(_:(y.app ((one v (l,c,B) u m d E).app (dR E v (lD B) 0 u 0))).tot<=100000)(_:∀H',Lg H' C r f k w h e (y.app ((one v (l,c,B) u m d E).app (dR E v (lD B) 0 u 0)))->a6 k w h e H H'->Q .non H')
inductive lN(C:η)(n:Nat)(v:List V)(H:Hp)(Q:VK)(a:XK):Prop
 |mk(D:DF)(r h l u i g o c m b:η)(q p:aL)(f:ρ)(j k:List Int)(s t:Sk)(d e:Int)(y:Ly)(_:v=[.ref r,.ref o,.ref c,.ref m,.ref b])(_:Lg H C r h l u i g y)(_:H o=δ (.tup (q.map rz)))(_:H m=δ (.tup (p.map rz)))(_:q.length+n<=49)(_:p.length+n<=49)(_:i6 H f j s d (.ref c))(_:s.ok μ)(_:s.dep<=15)(_:s.size<=1000)(_:i6 H f k t e (.ref b))(_:t.ok μ)(_:t.dep < n)(_:t.dep<=15)(_:t.size<=1000)(_:Dt D f s)(_:Dt D f t)(_:(y.app (dR t q s.steps 0 p 0)).tot<=100000)(_:∀H',Lg H' C r h l u i g (y.app (dR t q s.steps 0 p 0))->a6 l u i g H H'->Q .non H')
inductive Mc(C r d k q h b o c:η)(p:aL)(n:List aO)(m j:Nat)(y:Ly)(H:Hp)(i:Nat)(s:_L.St)(a:Hp):Prop
 |mk(l:Option V)(e:s=[↑r,↑o,↑c,δ (.int (m:Int)),δ (.int (j:Int)),l])(f:Lg a C r d k q h b (y.app #[[],[],[],eK p n m (m+i)]))(g:a6 k q h b H a)
inductive Me(D:DF)(C r h w M v g F c x b:η)(J I:aL)(f:ρ)(G:List aO)(L:List V)(K:Sk)(d:Ly)(H:Hp)(i:Nat)(N:_L.St)(e:Hp):Prop
 |mk(z A B E:Option V)(m:Nat)(a:Sk)(y:Ly)(j:N=[↑r,↑F,↑c,↑x,↑b,δ (.int (m:Int)),z,A,B,E])(k:Lg e C r h w M v g y)(l:dD e a .non (L.drop i))(n:a.ok μ)(o:a.dep<=K.dep)(p:a.size<=K.size)(q:Dt D f a)(s:m<=G.length)(t:y.app (dR a J G m I i)=d)(u:a6 w M v g H e)
theorem Ht:one p (n,h,b) a N H c=if aS N H (n,h,b)=μ then (if b.fnd=c.fnd then #[[(p,a)],[],[],[]] else #[[],[(p,a)],[],[]]) else #[[],[],[a],[p]]:=rfl
theorem rR(F:tf K "found_in" gE f r):ah P w K mg base aE 1 f r ["what"] iP:=by
 refine F.ok lK λC A o s H v Q E x h=>?_
 let⟨u,w,rfl,l,d,q⟩:=h;refine#[_,(jg$ jm$ kQ (jW$ jv$ pv 0) (jv$ ju jF (pv 0) jf (λ_ _=>Z))$ ju jF (pv 0) (vI Yl jf) (λ_ _=>Z)),?_];cases w with
 |nil |st _ _ _ _=>exact d.elim
 |ask b |rd a i |wr a i=>let⟨p,rfl,m⟩:=l;exact(jp m eQ #[Z,_,Z,aT VX #[_,Z,_,Z,p,_,_,_,Z,Z,aB.of m,Z,q]])
 |cl f I s i=>let⟨p,c,g,e,S,rfl,n,t,_⟩:=l;exact(jp n eQ #[Z,_,Z,cn VX$ jp n io #[c,_,_,_,Z,Z,aB.of t,jG (j:=3) Z,q]])
theorem ET:ai ["self"] ["self"] (ae we):=bN
theorem Ah(F:aQ K "__init__" "Laying.__init__" we f U)(c:LK K C):ah P w K mg base aE 1 f U ["self"] (my C):=by
 refine F.ok ET λR A O s H V Q E S h=>?_
 let⟨r,D,rfl,g,q⟩:=h;refine#[_,(jd (@zB _ _ _ _ _ _ _ _ (pv 0) (jK jc) Z)$ jd (@zB _ _ _ _ _ _ _ _ (pv 0) (jK jc) Z)$ jd (@zB _ _ _ _ _ _ _ _ (pv 0) (jK jc) Z)$ jg$ @zB _ _ _ _ _ _ _ _ (pv 0) (jK jc) Z),?_];refine aj λM d=>#[fj,λk l=>#[_,Z,r,C,D,_,Z,am g l,c.cl,c.n1,(by show 0 < 1000;decide),d _ _ ?_]];clear d;refine aj λM d=>#[fj,λt a=>#[_,Z,r,C,D,_,Z,am jb a,c.cl,c.n2,(by show 1 < 1000;decide),d _ _ ?_]];clear d;refine aj λM d=>#[fj,λi N=>#[_,Z,r,C,D,_,Z,am jb N,c.cl,c.n3,(by show 2 < 1000;decide),d _ _ ?_]];clear d;refine#[fj,λj n=>#[_,Z,r,C,D,_,Z,am jb n,c.cl,c.n4,(by show 3 < 1000;decide),?_]];let m:k≠r:=(ji g l).symm;let T:t≠r:=λz=>by rw[z,jb]at a;cases a
 let p:i≠r:=λz=>by rw[z,jb]at N;cases N
 let u:j≠r:=λz=>by rw[z,jb]at n;cases n
 rw[jh T]at a;let x:t≠k:=λz=>by rw[z,jb]at a;cases a
 rw[jh x]at a;rw[jh p]at N;let y:i≠t:=λz=>by rw[z,jb]at N;cases N
 rw[jh y,jh p]at N;let B:i≠k:=λz=>by rw[z,jb]at N;cases N
 rw[jh B]at N;rw[jh u]at n;let G:j≠i:=λz=>by rw[z,jb]at n;cases n
 rw[jh G,jh u]at n;let I:j≠t:=λz=>by rw[z,jb]at n;cases n
 rw[jh I,jh u]at n;let J:j≠k:=λz=>by rw[z,jb]at n;cases n
 rw[jh J]at n;refine q k t i j _ #[jb,#[[],?_,Z],#[[],?_,Z],#[[],?_,Z],#[[],?_,Z],#[x.symm,B.symm,J.symm,y.symm,I.symm,G.symm],λ_ z=>nomatch z] (λb o v e=>?_) l a N n
 .rw[jh m,jh J.symm,jh m,jh B.symm,jh m,jh x.symm,jh m,jb]
 .rw[jh T,jh I.symm,jh T,jh y.symm,jh T,jb]
 .rw[jh p,jh G.symm,jh p,jb]
 .rw[jh u,jb]
 .rw[jh v,jh$ ji e n,jh v,jh$ ji e N,jh v,jh$ ji e a,jh v,jh$ ji e l];exact e
theorem wF:ai ["self","path","chain","begin","end","at"] z20z (ae wb):=bN
theorem Ad(F:aQ K "drop" "Laying.drop" wb f fd)(ck:LK K C)(cP:Cl P w K mg base 36 fP f0 z7z (lO 17) "paths_at")(mr:mg "range"=θ):ah P w K mg base aE 37 f fd z20z (iO C):=by
 refine F.ok wF λc0 A O s H vs Q E hr h=>?_
 let⟨r,D,kA,tA,fA,G,I,c,po,f,is,s,a,m,j,y,rfl,hL,M,h5,hc,b,h6,h7,h8,h',h0,q⟩:=h;refine#[_,(jg$ jU Nu Z (zW Z mr$ ja (pv 3)$ ja (pv 4) jc) (jr (i:=5) wF.nd Z$ ω Z)$ jg$ jH$ j8 M' Oi Oh zw (j6 (pv 0) Z)$ ja (cP.e hr.m$ ja (jx ki (pv 1)$ jl$ ja (pv 5) jc)$ ja (jv$ ju jF (ju jF (pv 2) jf (λ_ _=>Z)) (pv 5) (λ_ _=>Z)) jc) jc),?_];let b1:=aJ;let⟨_,g,e,ss,ec,h1,h2,h3,N⟩:=id hc;cases ec;let l0:=zr b N;let l1:=qr b N;refine dj λJ jj=>#[_,Z,_,Z,_,_,Z,#[VV,VV,VV,VV],jj _ _ ?_];clear jj;refine ke (Mc C r D kA tA fA G I c po s.steps m j y H) #[θ,Z,?_,λ_ _ _ _ _ _ e=>e] ?_ (λσ H' h=>?_)
 .rw[Vl,yB];exact(Ly.app_nil y).symm▸hL
 .intro E2 rt i σ H2 hi fE Gq k h;let⟨o5,rfl,_L,B⟩:=h;refine k ?_;clear k;let T:=hL.tm B;let e0:(m:Int)+(i:Int)=((m+i:Nat):Int):=by omega
  rw[e0];let n:m+i < ss.length:=by omega
  let⟨n',a0,w,p,h,u,ht,R,d0,s0,ex,hp,hh,hw⟩:=qt b (N.mono T) (MV n);let U:ss[m+i]?=↑p:=by rw[MV n,ex]
  let⟨xs,W,lx⟩:=_L.dv;refine#[_,Z,r,C,D,_,_,Z,_L.ins,ck.cl,ck.n4,Z,.inl #[Z,_,aI.of W],_,Z,_,Z,iZ,λt nt=>#[I,t,_,_,Z,Z,am (T _ _ M) nt,jb,by rw[MY];show _+1<=_;omega,λr9 H9 z s9=>?_]];let v:=(je (o:=.tup [.int ((m+i:Nat):Int)]) nt).trans s9;let z:H9 r9=δ (.tup$ po.map rz++[.int ((m+i:Nat):Int)]):=z;rw[lR]at z;refine(jp (v _ _$ T _ _ h1) dP #[_,Z,e,_,_,_,Z,Z,aB.of$ v _ _$ T _ _ h3,jG U,p,_,_,_,Z,Z,aB.of$ v _ _ hp,dP,r9,_,w,u,Z,z,by rw[MZ];show _+1+_<=_;omega,hw.mono$ aa.tm v,R,VV,VV,λl zs H0 nl hl hz X=>?_]);let S:=v.trans X;let Y:=_L.same S;let lz:=hz.len;let x:=lx.len;let ds:eK po s.steps m (m+i+1)=eK po s.steps m (m+i)++cg (po++[((m+i:Nat):Int)]) w:=t9 (po:=po) (os:=s.steps) (m:=m) (j:=m+i) VV ht;let dl:(eK po s.steps m$ m+i+1).length<=(eK po s.steps m j).length:=by unfold eK;rw[MY,MY];let:=QY ((s.steps.drop m).take$ j - m) (m+i+1 - m) po m;rw[SV,Pm VV]at this;exact this
  rw[ds,MZ]at dl;let x:xs.length=y.d.length+(eK po s.steps m$ m+i).length:=by rw[x];exact MZ
  let⟨L,b0⟩:=Y.setD (S _ _ W) hz;refine#[G,l,_,_,Z,Z,S _ _ W,hl,VV,fE _ _ #[_,Z,?_,(B.trans$ a6.of_same S).trans b0]];rw[Ly.app_assoc]at L;let ee:(#[[],[],[],eK po s.steps m$ m+i]:Ly).app #[[],[],[],cg (po++[((m+i:Nat):Int)]) w]=#[[],[],[],eK po s.steps m$ m+(i+1)]:=by rw[show m+(i+1)=m+i+1 by omega,ds];rfl
  rw[ee]at L;exact L
 .let⟨o5,rfl,_L,B⟩:=h;rw[show m+((j:Int) - (m:Int)).toNat=j by omega]at _L;exact q _ _L B
theorem uN{w:Sk}{os:List aO}(o:w.ok ξ)(h:∀f i s a,w≠ .cl f i s a):dR w p os m b k= .nil:=by
 cases w with
 |nil |st _ _ _ _=>exact o.elim
 |cl f i s a=>exact absurd Z (h f i s a)
 |_=>rfl
theorem Jg{w:Sk}(o:w.ok ξ)(h:dD H w u []):∃p v r,u= .ref p/\H p=δ (.tup (.str v::r))/\(v="call"↔∃f i s a,w= .cl f i s a):=by
 cases w with
 |nil |st _ _ _ _=>exact o.elim
 |ask b |rd b c |wr b c=>let⟨p,e,h⟩:=h;exact#[p,_,_,e,h,λe=>absurd e VU,λ#[_,_,_,_,e]=>nomatch e]
 |cl f i s a=>let⟨p,c,g,E,S,e,h,_⟩:=h;exact#[p,_,_,e,h,λ_=>#[_,_,_,_,Z],λ_=>Z]
theorem qC:decide (ry a=ry b)=decide (a=b):=by
 by_cases h:a=b
 .rw[M9 h,M9 (by rw[h])]
 .rw[M5 h,M5 λz=>h (by injection z)]
theorem Ly.f_le(a b:Ly):a.f.length<=(a.app b).tot/\a.k.length<=(a.app b).tot/\a.t.length<=(a.app b).tot/\a.d.length<=(a.app b).tot:=by rw[Ly.tot_app];unfold Ly.tot;omega
theorem HX:ai z4z z4z (ae AU):=bN
theorem D2(F:aQ K "lay_step" "Laying.lay_step" AU f fd)(l:LK K C)(cF:Cl P w K mg base 1 fF f3 ["what"] iP "found_in")(GL:ah P w K mg base aE (2*n+38) fL f0 z4z (lN C n))(bL:aC K f0 z4z [])(m0:bj K C "lay" fL):ah P w K mg base aE (2*n+39) f fd z4z (nL C$ n+1):=by
 refine F.ok HX λc2 A o2 s H vs Q E hr h=>?_
 let⟨D,r,x,kA,tA,fA,dA,O,q0,h0,N,p,h1,B,G,I,V,b,c,u0,u1,W,w1,y,rfl,hL,h3,h4,a',b0,X,h',h5,o1,h6,a2,hp,a3,Y,o,h7,J,a4,h2,L,q⟩:=h;refine#[_,(jd (jy (jz (vA (d:=10)$ lG hr) (jM kc (pv 2) jV$ jL jf) (jM kc (pv 4) jV$ jL jf)$ aF _) (jd (jH$ j8 M' Nt Nr jR (j6 (pv 0) Z)$ ja (pv 3) jc)$ jg$ jH$ j8 M' Nt Nr jR (j6 (pv 0) Z)$ ja (pv 1) jc)$ jg$ jy (jz qW (cF.e hr.m$ ja (jv$ pv 2) jc) (cF.e hr.m$ ja (jv$ pv 4) jc)$ aF _) (jg$ jH$ j8 M' Nt Nr jR (j6 (pv 0) Z)$ ja (jl$ ja (pv 1)$ ja (pv 3) jc) jc)$ jg$ jH$ j8 M' Nt Nr jR (j6 (pv 0) Z)$ ja (jl$ ja (pv 1)$ ja (pv 3) jc) jc)$ jg$ jy (jW$ jv$ ju jF (pv 4) jf (λ_ _=>Z)) (jg$ jH$ j7 (pv 0) l.cl m0 GL hr.m bL .nil a8$ ja (pv 1)$ ja (jv$ ju jF (pv 2) jf (λ_ _=>Z))$ ja (pv 3)$ ja (jv$ ju jF (pv 4) jf (λ_ _=>Z)) jc) jo),?_];let b1:=aJ;refine aj λF1 f1=>?_;suffices M:∀H',Lg H' C r x kA tA fA dA (y.app$ one B (I,b,W) G V c w1)->a6 kA tA fA dA H H'->F1 [↑r,↑O,↑q0,↑N,↑p] H' by
  clear f1;let vv:=Ly.f_le y ((one B (I,b,W) G V c w1).app$ dR w1 B (lD W) 0 G 0);refine#[_,Z,_,Z,q0,_,Z,X,λq1 H1 e1 u=>#[_,Z,_,Z,p,_,Z,u _ _ hp,λq2 H2 e2 s2=>#[_,_,Xa I b,JG I b,JG V c,jC (s2 _ _ e1)$ jk Z jT$ jk Z (j9$ s2 _ _$ u _ _ h') jA,jC e2$ jk Z jT$ jk Z (j9$ s2 _ _$ u _ _ a3) jA,_,Z,?_]]];rw[show gi (.tp$ ay [aq I,aA$ b.map aq]) (.tp$ ay [aq V,aA$ c.map aq])=aS V c (I,b,W) from Yu];let v:=u.trans s2;let _L:=hL.same v;let t0:=aa.tm v;let i:=v _ _ h3;let j:=v _ _ h4;rw[Ht]at M;cases hb:aS V c (I,b,W) with
  |false=>
   rw[hb,Na (by intro z;cases z)]at M;refine cn Z ?_;let⟨xs,k,lx⟩:=_L.fv;let l0:=lx.len;refine aj λF2 f2=>#[_,Z,r,C,x,_,_,Z,_L.ins,l.cl,l.n3,Z,.inl #[Z,_,aI.of k],_,Z,fA,_,_,Z,Z,k,VV,f2 _ _ ?_];clear f2;let⟨U,b3⟩:=_L.setF k (bu.one (R:=gQ) (w:=G) #[N,Z,j]);let T:=_L.tm b3;generalize af H2 fA (.lst$ xs++[.ref N])=H3 at U b3 T ⊢;let⟨zs,hz,lz⟩:=U.dv;let l1:=lz.len;let l1:zs.length=y.d.length:=by rw[l1];show(y.d++[]).length=_;rw[Nx]
   refine#[_,Z,r,C,x,_,_,Z,U.ins,l.cl,l.n4,Z,.inl #[Z,_,aI.of hz],_,Z,dA,_,_,Z,Z,hz,VV,?_];let⟨L4,b4⟩:=U.setD hz (bu.one (R:=gQ) (w:=B) #[O,Z,T _ _ i]);rw[Ly.app_assoc]at L4;exact M _ L4 (((a6.of_same v).trans b3).trans b4)
  |true=>
   rw[hb,M7 Z]at M;refine aT Z ?_;refine(jp (v _ _ X) dP #[u0,W,Z,h5.mono t0,o1,jp (v _ _ hp) dP #[u1,w1,Z,Y.mono t0,o,Z,_,Z,?_]]);by_cases hf:W.fnd=w1.fnd
   .rw[M7 hf]at M;refine cn (M9 (by rw[hf])) ?_;let⟨xs,k,lx⟩:=_L.kv;let l0:=lx.len;refine#[_,Z,r,C,x,_,_,Z,_L.ins,l.cl,l.n1,Z,.inl #[Z,_,aI.of k],_,Z,_,Z,cp,λt nt=>#[kA,_,_,Z,Z,am k nt,VV,?_]];let S:aa H2 (af H2 t$ .tup [.ref O,.ref N]):=je nt;let⟨L4,b4⟩:=(_L.same S).setK (S _ _ k) (bu.one (R:=mQ) (w:=(B,G)) #[t,O,N,Z,jb,S _ _ i,S _ _ j]);exact M _ L4 ((a6.of_same$ v.trans S).trans b4)
   .rw[Na hf]at M;refine aT (M5 λz=>hf (by injection z)) ?_;let⟨xs,k,lx⟩:=_L.tv;let l0:=lx.len;refine#[_,Z,r,C,x,_,_,Z,_L.ins,l.cl,l.n2,Z,.inl #[Z,_,aI.of k],_,Z,_,Z,cp,λt nt=>#[tA,_,_,Z,Z,am k nt,VV,?_]];let S:aa H2 (af H2 t$ .tup [.ref O,.ref N]):=je nt;let⟨L4,b4⟩:=(_L.same S).setT (S _ _ k) (bu.one (R:=mQ) (w:=(B,G)) #[t,O,N,Z,jb,S _ _ i,S _ _ j]);exact M _ L4 ((a6.of_same$ v.trans S).trans b4)
 intro H3 U b3;refine f1 _ _ ?_;clear f1;let T:=hL.tm b3;rw[<- Ly.app_assoc]at L q;let⟨p3,v3,r3,eu,a5,h8⟩:=Jg o (Y.mono T);subst eu;refine(jp (T _ _ hp) dP #[p3,_,_,_,Z,Z,aB.of a5,eQ,Z,_,Z,?_]);rw[qC];by_cases hv:v3="call"
 .let⟨g,is,u,a1,rfl⟩:=h8.mp hv;let⟨s0,a0,rfl,D1,D0⟩:=h2 g is u a1 Z;refine cn (M9 hv) ?_;let⟨x1,c1,g1,e1,s4,e3,k1,k2,k3,k4,k5⟩:=Y.mono T;let⟨x0,c0,g0,e0,s5,e4,i1,i2,i3,i4,i5⟩:=h5.mono T;cases e3;subst e4;let h7:u.dep+1 < n+1:=h7;let J:u.dep+1<=15:=J;let h6:s0.dep+1<=15:=h6;exact#[_,Z,r,x,_,Z,U.ins,Z,_,Z,jp (T _ _ X) dP #[x0,_,_,_,Z,Z,aB.of i1,io,_,Z,jp (T _ _ hp) dP #[p3,_,_,_,Z,Z,aB.of k1,io,D,r,x,kA,tA,fA,dA,O,c0,N,c1,B,G,g,is,is,s0,u,a0,a1,_,Z,U,T _ _ h3,T _ _ h4,VV,VV,#[c0,g0,e0,s5,Z,i2,i3,i4,i5],o1,VV,a2,#[c1,g1,e1,s4,Z,k2,k3,k4,k5],o,VV,VV,a4,D0,D1,L,λH4 L4 b4=>q H4 L4 (b3.trans b4)]]]
 .refine aT (M5 hv) ?_;rw[uN o (λf is s a e=>hv (h8.mpr #[f,is,s,a,e])),Ly.app_nil]at q;exact q H3 U b3
theorem iH:ai ["self","old_path","old","new_path","new","mark","number","step","here","taken"] z4z (ae AV):=bN
theorem vg(F:aQ K "lay" "Laying.lay" AV f fd)(ck:LK K C)(cT:Cl P w K mg base 3 fT f3 ["steps","mark","step"] nQ "taken_from")(cP:Cl P w K mg base 36 fP f4 z7z (lO 17) "paths_at")(GD:ah P w K mg base aE 37 fD f0 z20z (iO C))(bD:aC K f0 z20z [])(m0:bj K C "drop" fD)(GS:ah P w K mg base aE (2*n+37) fS f2 z4z (nL C n))(bS:aC K f2 z4z [])(m1:bj K C "lay_step" fS)(m2:mg "enumerate"=θ)(ml:mg "len"=θ):ah P w K mg base aE (2*n+38) f fd z4z (lN C n):=by
 refine F.ok iH λd3 A o1 s H vs Q E hr h=>?_
 let⟨D,r,U,kA,tA,fA,dA,X,c,na,b,u,G,f,is,js,p,s1,a0,a1,y,rfl,hL,h6,c1,d4,d5,h7,O,a3,h8,c2,o2,d6,c9,d7,D0,D1,M,q⟩:=h;refine#[_,(jd (jB 5 iH.nd jf)$ jd (jU Nu Z (Jm Z m2$ ja (jv$ pv 4) jc) (zz (n:=2) Z$ jE (jr (i:=6) iH.nd Z$ ω Z)$ jE (jr (i:=7) iH.nd Z$ ω Z) kH)$ jd (jB 8 iH.nd$ jx ki (pv 3)$ jl$ ja (pv 6) jc)$ jd (jB 9 iH.nd$ cT.e hr.m$ ja (jv$ pv 2)$ ja (pv 5)$ ja (pv 7) jc)$ jg$ jy (QQ$ @vF _ _ _ _ _$ pv 9) (jg$ jH$ j8 M' Oi Oh zw (j6 (pv 0) Z)$ ja (cP.e hr.m$ ja (pv 8)$ ja (jv$ pv 7) jc) jc)$ jd (jH$ j7 (pv 0) ck.cl m0 GD hr.m bD .nil a8$ ja (pv 1)$ ja (pv 2)$ ja (pv 5)$ ja (pv 9) jc)$ jd (jH$ j7 (pv 0) ck.cl m1 GS hr.m bS .nil a8$ ja (jx ki (pv 1)$ jl$ ja (pv 9) jc)$ ja (ju jF (jv$ pv 2) (pv 9) (λ_ _=>Z))$ ja (pv 8)$ ja (pv 7) jc)$ jg$ jB 5 iH.nd$ jx jX (pv 9) jf)$ jg$ jH$ j7 (pv 0) ck.cl m0 GD hr.m bD .nil a8$ ja (pv 1)$ ja (pv 2)$ ja (pv 5)$ ja (jN jI Z ml NO$ ja (jv$ pv 2) jc) jc),?_];let d8:=aJ;let⟨_,g0,e0,s2,e4,h1,h2,h3,h4⟩:=id h7;cases e4;let⟨_,g1,e1,s3,e6,k1,k2,k3,k4⟩:=id c2;cases e6;let l0:=zr O h4;let l1:=qr O h4;refine aj λF1 v=>v _ _ ?_;clear v;refine aj λF1 v=>dj λJ jj=>(jp k1 dP #[e1,Z,#[_,aB.of k3],jj _ _ ?_]);clear jj;refine qj (K:=K) (xs:=s3) (Me D C r U kA tA fA dA X c na b u G f p.steps s3 s1 (y.app$ dR s1 u p.steps 0 G 0) H) #[θ,θ,θ,θ,0,s1,y,Z,hL,k4,o2,M0 _,M0 _,D1,M6 _,Z,λ_ _ _ _ _ _ e=>e] (λk σ Hx _ h=>?_) ?_ (λσ Hx h=>v _ _ ?_)
 .let⟨_,_,_,_,_,_,_,_,_,_,_,_,_,_,_,_,b7⟩:=h;exact aB.of$ hL.tm b7 _ _ k3
 .intro E rt k x pp σ H4 c3 n2 fE Gq kq h;clear v;let⟨o6,o7,o8,o9,m,R,Y,rfl,L4,w2,w3,w4,w5,w6,w7,W,b4⟩:=h;let s5:aa H4 (af H4 pp$ .tup [.int k,x]):=je n2;let e5:af H4 pp (.tup [.int k,x]) pp=δ (.tup [.int k,x]):=jb;refine kq ?_;clear kq;generalize af H4 pp (.tup [.int k,x])=H5 at s5 e5 ⊢;let b5:=b4.trans (a6.of_same s5);let c4:=hL.tm b5;let L5:=L4.same s5;refine#[pp,_,Z,aB.of e5,Z,_,_,Z,_,_,Z,Z,?_];rw[ZL c3]at w2;let w2:=w2.mono (aa.tm s5);cases R with
  |nil=>exact nomatch (show _::_=[] from w2)
  |ask _ |rd _ _ |wr _ _ |cl _ _ _ _=>exact w3.elim
  |st n1 h5 w r1=>
   let⟨p',h',u',y0,ex,i1,i2,i3,i4⟩:=w2;injection ex with ex ey;subst ex;subst ey;let d':w.dep<=s1.dep:=Ng (Pn _ _) w4;let d2:r1.dep<=s1.dep:=Ng (Pb _ _) w4;let w5:w.size+r1.size+1<=s1.size:=w5;show cy (fe _ _) (cy _ _) E [↑r,↑X,↑c,↑na,↑b,δ$ .int (m:Int),δ$ .int k,↑p',o8,o9] H5;refine aj λF1 v=>#[_,Z,_,Z,iZ,λt nt=>#[na,t,_,_,Z,Z,am (c4 _ _ c1) nt,jb,by rw[MY];show _+1<=_;omega,λr9 H9 e9 s9=>v _ _ ?_]];clear v;let S9:aa H5 H9:=(je (o:=.tup [.int k]) nt).trans s9;let e9:H9 r9=δ (.tup$ G.map rz++[.int (k:Int)]):=e9;rw[lR]at e9;let b9:=b5.trans (a6.of_same S9);let a2:=hL.tm b9;refine aj λF1 v=>(jp (a2 _ _ h1) dP #[_,Z,_,Z,e0,p',h',s2,p,w,m,n1,h5,u',Z,a2 _ _ h3,h4.mono a2,O,h8,VV,S9 _ _ i1,S9 _ _ i2,i3.mono$ aa.tm S9,w3.1,λH0 s4=>v _ _ ?_]);clear v;let B:=S9.trans s4;let b1:=b5.trans (a6.of_same B);let t5:=hL.tm b1;let L:=L5.same B;let e3:=s4 _ _ e9;let i0:=B _ _ i1;let j0:=i3.mono (aa.tm B);cases hb:fo p.steps m n1 h5 w with
   |none=>
    rw[zU hb]at W;show gZ _ _ _ E [↑r,↑X,↑c,↑na,↑b,δ$ .int (m:Int),δ$ .int k,↑p',↑r9,δ .non] H0;refine lH λG1 yT yF=>#[_,Z,_,Z,?_];rw[M9 Z];refine yT _ ?_;let⟨xs,hx,lx⟩:=L.fv;let l2:=lx.len;let pl:=qx w3.1 (G++[(k:Int)]);let tt:Y.tot+((w.size+1)+(dR r1 u p.steps m G$ k+1).tot)<=100000:=by
     let z:=M;rw[<- W,Ly.tot_app,Ly.tot_app]at z;let z2:(#[[],[],cg (G++[(k:Int)]) w,[]]:Ly).tot=w.size+1:=by show 0+0+(cg (G++[(k:Int)]) w).length+0=_;rw[pl];omega
     rw[z2]at z;exact z
    let ty:Y.f.length<=Y.tot:=by unfold Ly.tot;omega
    refine#[_,Z,r,C,U,_,_,Z,L.ins,ck.cl,ck.n3,Z,.inl #[Z,_,aI.of hx],_,Z,jp i0 dP #[r9,G++[(k:Int)],w,u',Z,e3,by rw[MZ];show _+1+_<=_;omega,j0,w3.1,VV,VV,λl zs H1 nl hl hz I=>?_]];let lz:=hz.len;let⟨L1,b2⟩:=(L.same I).setF (I _ _ hx) hz;refine#[fA,l,_,_,Z,Z,I _ _ hx,hl,VV,fE _ _ #[_,_,_,_,m,r1,_,Z,L1,?_,w3.2,d2,VV,w6.2.2,w7,?_,?_]]
    .exact i4.mono ((aa.tm$ B.trans I).trans ((L.same I).tm b2))
    .rw[Ly.app_assoc];exact W
    .exact(b1.trans$ a6.of_same I).trans b2
   |some j=>
    let⟨c5,o,ho,e7⟩:=ze hb;let e8:=(ν.mp ho).1;let⟨n0,a4,w0⟩:=o;rw[zV hb ho]at W;show gZ _ _ _ E [↑r,↑X,↑c,↑na,↑b,δ$ .int (m:Int),δ$ .int k,↑p',↑r9,δ$ .int (j:Int)] H0;refine lH λG1 yT yF=>#[_,Z,_,Z,?_];rw[M5 (by intro z;cases z)];refine yF _ ?_;let tt:=M;rw[<- W,Ly.tot_app,Ly.tot_app,Ly.tot_app,Ly.tot_app]at tt;let z2:(#[[],[],[],eK u p.steps m j]:Ly).tot=(eK u p.steps m j).length:=Pa _;rw[z2]at tt;let ty:Y.d.length<=Y.tot:=by unfold Ly.tot;omega
    show cy _ (cy _ _) E [↑r,↑X,↑c,↑na,↑b,δ$ .int (m:Int),δ$ .int k,↑p',↑r9,δ$ .int (j:Int)] H0;refine aj λF1 v=>#[_,Z,r,U,_,Z,L.ins,Z,_,Z,_,Z,_,Z,_,Z,r,U,kA,tA,fA,dA,X,c,u,f,is,p,a0,m,j,Y,Z,L,t5 _ _ h6,VV,zd h7 t5,O,a3,h8,c5,VV,VV,λH1 L0 b3=>v _ _ ?_];clear v;let b0:=b1.trans b3;let T:=hL.tm b0;let N:=L.tm b3;obtain⟨xv,a5⟩:∃xv,s2[j]?=δ xv:=#[_,MV VV];let⟨n4,c',w1,q,h0,u0,t1,t2,t3,t4,rfl,t6,t7,t8⟩:=qt O (h4.mono T) a5;rw[ho]at t1;cases t1;refine aj λF1 v=>#[_,Z,r,U,_,Z,L0.ins,Z,_,Z,_,Z,iZ,λt nt=>#[X,t,_,_,Z,Z,am (T _ _ h6) nt,jb,by rw[MY];show _+1<=_;omega,λr0 H2 e2 s6=>?_]];let S:aa H1 H2:=(je (o:=.tup [.int (j:Int)]) nt).trans s6;let e2:H2 r0=δ (.tup$ u.map rz++[.int (j:Int)]):=e2;rw[lR]at e2;let t':=T.trans (aa.tm S);let c6:=Yw (s:=.nil) O D0 hb ho t2 w6.1;refine(jp (t' _ _ h1) dP #[_,Z,e0,_,_,_,Z,Z,aB.of$ t' _ _ h3,jG a5,_,Z,_,Z,D,r,U,kA,tA,fA,dA,r0,q,h0,r9,p',h',u++[(j:Int)],G++[(k:Int)],n0,n1,a4,h5,u0,u',w0,w,_,Z,L0.same S,e2,aa.tm S _ _$ N _ _ e3,by rw[MZ];show _+1+_<=_;omega,by rw[MZ];show _+1+_<=_;omega,S _ _ t6,S _ _ t7,t8.mono$ aa.tm S,t2,VV,VV,aa.tm S _ _$ N _ _ i0,aa.tm S _ _$ N _ _$ B _ _ i2,(j0.mono N).mono$ aa.tm S,w3.1,VV,VV,VV,λg is s a e=>?_,?_,λH3 L3 b8=>v _ _ ?_])
    .let⟨s',a',ew⟩:=c6 g is s a e;let ew:w0= .cl g is s' a':=ew;let d0:Dt D f w0:=(Kj D0 ho).2;let d1:Dt D f w:=w6.2.1;rw[e]at d1;rw[ew]at d0;exact#[s',a',ew,d1,d0]
    .rw[Ly.tot_app,Ly.tot_app,Ly.tot_app,z2];let tt:Y.tot+(((eK u p.steps m j).length+((one (u++[(j:Int)]) (n0,a4,w0) (G++[(k:Int)]) n1 h5 w).tot+(dR w (u++[(j:Int)]) (lD w0) 0 (G++[(k:Int)]) 0).tot))+(dR r1 u p.steps (j+1) G$ k+1).tot)<=100000:=tt;omega
    clear v;let b':=(b0.trans$ a6.of_same S).trans b8;let c0:=(L0.same S).tm b8;let ej:(j:Int)+1=((j+1:Nat):Int):=by omega
    refine#[_,Z,_,_,Z,Z,fE _ _ #[δ$ .int k,↑p',↑r9,δ$ .int (j:Int),j+1,r1,_,?_,L3,?_,w3.2,d2,VV,w6.2.2,VV,?_,b']]
    .rw[<- ej];rfl
    .exact i4.mono (((aa.tm B).trans N).trans ((aa.tm S).trans c0))
    .rw[Ly.app_assoc,Ly.app_assoc];rw[Ly.app_assoc]at W;exact W
 .let⟨o6,o7,o8,o9,m,R,Y,rfl,L4,w2,w3,w4,w5,w6,w7,W,b4⟩:=h;let t0:=hL.tm b4;rw[Ut]at w2;cases R with
  |st n hs w r=>let⟨_,_,_,_,z,_⟩:=w2;cases z
  |ask _ |rd _ _ |wr _ _ |cl _ _ _ _=>exact w3.elim
  |nil=>
   let W:Y.app #[[],[],[],eK u p.steps m p.steps.length]=_:=W;let tt:=M;rw[<- W,Ly.tot_app]at tt;let z2:(#[[],[],[],eK u p.steps m p.steps.length]:Ly).tot=(eK u p.steps m p.steps.length).length:=Pa _;rw[z2]at tt;let ty:Y.d.length<=Y.tot:=by unfold Ly.tot;omega
   refine#[_,Z,r,U,_,Z,L4.ins,Z,_,Z,_,Z,_,Z,jp (t0 _ _ h1) dP #[e0,_,Z,.inr$ aB.of$ t0 _ _ h3,r,U,kA,tA,fA,dA,X,c,u,f,is,p,a0,m,p.steps.length,Y,by rw[<- l0];rfl,L4,t0 _ _ h6,VV,zd h7 t0,O,a3,h8,w7,M0 _,VV,λH5 L5 b5=>q H5 (W▸L5) (b4.trans b5)]]
theorem C6(p:aL)(os:List aO)(m j:Nat):(eK p os m j).length<=(eG (os.drop m) p m).length:=by unfold eK;rw[MY];exact QY _ _ _ _
theorem xU{os:List aO}(p:aL)(h:m<=j)(H:os[j]?=δ o)(O:o.2.2.ok ξ):(eG (os.drop m) p m).length=(eK p os m j).length+(o.2.2.size+1)+(eG (os.drop$ j+1) p$ j+1).length:=by
 let d:=(ν.mp H).1;let e:os.drop m=(os.drop m).take (j - m)++(o::os.drop (j+1)):=by let z:=O4 (j - m) (os.drop m);rw[UQ,show m+(j - m)=j by omega]at z;let⟨a,E⟩:=ν.mp H;rw[<- Ov (h:=a),E]at z;exact z.symm
 let b:((os.drop m).take$ j - m).length=j - m:=by rw[Nq,NN];omega
 let z:(eG (os.drop m) p m).length=((eG ((os.drop m).take$ j - m) p m)++eG (o::os.drop (j+1)) p (m+(j - m))).length:=by
  conv=>lhs;rw[e]
  rw[zL,b]
 rw[z,MZ,show m+(j - m)=j by omega];let c:(eG (o::os.drop (j+1)) p j).length=(o.2.2.size+1)+(eG (os.drop$ j+1) p$ j+1).length:=by show(((_,_)::_)++_).length=_;rw[MZ,Nz,za O]
 rw[c];unfold eK;rw[MY];omega
theorem Ks:∀{s:Sk},s.ok μ->∀{j:Nat} {o:aO},s.steps[j]?=δ o->o.2.2.ok ξ
 | .st n H w r,h,0,o,e=>by cases e;exact h.1
 | .st n H w r,h,j+1,o,e=>Ks h.2 (j:=j) (by let e:((n,H,w)::r.steps)[j+1]?=δ o:=e;simpa using e)
 | .nil,_,j,o,e=>by let e:([]:List aO)[j]?=δ o:=e;simp at e
theorem CT{w:Sk}(o:w.ok ξ)(p:aL):(eG (lD w) p 0).length=w.size:=by
 cases w with
 |nil |st _ _ _ _=>exact o.elim
 |cl f i s a=>show(eG s.steps p 0).length=s.size;rw[<- zC (show s.ok μ from o),za (show s.ok μ from o)]
 |_=>rfl
theorem At(p:aL)(o:aO)(a:aL)(n:Int)(h:List Int)(w:Sk):(one p o a n h w).tot<=2:=by
 unfold one;split
 .split
  .exact NW 1
  .exact NW 1
 .exact M0 2
theorem qD:∀{b:Bool} {s:Sk},s.ok b->∀(p:aL) (os:List aO) (m:Nat) (c:aL) (k:Nat),(∀o∈os,o.2.2.ok ξ)->(dR s p os m c k).tot<=s.size+(eG (os.drop m) p m).length
 |true,.nil,_,p,os,m,c,k,_=>by let:=C6 p os m os.length;show 0+0+0+(eK p os m os.length).length<=0+_;omega
 |true,.st n q w r,o,p,os,m,c,k,H=>by
  show _<=w.size+r.size+1+_;cases h:fo os m n q w with
  |none=>
   rw[zU h,Ly.tot_app];let t:(#[[],[],cg (c++[(k:Int)]) w,[]]:Ly).tot=w.size+1:=by show 0+0+(cg (c++[(k:Int)]) w).length+0=_;rw[qx o.1];omega
   let u:=qD o.2 p os m c (k+1) H;omega
  |some j=>
   let⟨g,x,l,_⟩:=ze h;let O:=H x (Nc l);rw[zV h l,Ly.tot_app,Ly.tot_app,Ly.tot_app];let t:(#[[],[],[],eK p os m j]:Ly).tot=(eK p os m j).length:=Pa _;let u:=At (p++[(j:Int)]) x (c++[(k:Int)]) n q w;let v:=qD o.1 (p++[(j:Int)]) (lD x.2.2) 0 (c++[(k:Int)]) 0 (λy d=>by
    cases e:x.2.2 with
    |cl f I s a=>rw[e]at d O;let⟨i,z⟩:=RZ d;exact Ks (show s.ok μ from O) z
    |_=>rw[e]at d;cases d)
   rw[OU,CT O]at v;let A:=qD o.2 p os (j+1) c (k+1) H;let B:=xU p g l O;omega
 |false,.cl _ _ s _,o,p,os,m,c,k,H=>qD (b:=μ) (s:=s) o p os m c k H
 |false,.ask _,_,p,os,m,c,k,_=>M6 _
 |false,.rd _ _,_,p,os,m,c,k,_=>M6 _
 |false,.wr _ _,_,p,os,m,c,k,_=>M6 _
def FE(H:Hp)(x:V)(k t f d:η)(y:Ly):Prop:=∃q,x= .ref q/\Lt H q k t f d y
inductive mz(k:List V)(H:Hp)(Q:VK)(a:XK):Prop
 |mk(D:DF)(c b:η)(f:ρ)(g h:List Int)(i j:Sk)(d e:Int)(_:k=[.ref c,.ref b])(_:i6 H f g i d (.ref c))(_:i.ok μ)(_:i.dep<=15)(_:i.size<=1000)(_:i6 H f h j e (.ref b))(_:j.ok μ)(_:j.dep<=15)(_:j.size<=1000)(_:Dt D f i)(_:Dt D f j)(_:∀(x:V) (kA tA fA dA:η) (H':Hp),FE H' x kA tA fA dA (dR j [] i.steps 0 [] 0)->H kA=θ->H tA=θ->H fA=θ->H dA=θ->aa H H'->Q x H')
theorem DH:ah P w K mg base aE k f d z4z (nL C 0):=by
 let n:∀{v H Q E},¬nL C 0 v H Q E:=by rintro v H Q E ⟨D,r,e,g,t,F,i,O,q,j,N,p,l,m,u,x,B,b,c,U,G,W,I,y,_,_,_,_,_,_,_,_,_,_,_,_,_,_,_,_,z,_⟩;omega
 exact#[λv H Q E h=>(n h).elim,λA o s H a J v Q E L M R S h=>(n h).elim]
theorem GZ(c:LK K C)(F:aQ K "lay" "Laying.lay" AV k f)(l:aC K f z4z [])(b:bj K C "lay" k)(o:aQ K "lay_step" "Laying.lay_step" AU q d)(B:aC K d z4z [])(m:bj K C "lay_step" q)(e:Cl P w K mg base 3 v r ["steps","mark","step"] nQ "taken_from")(g:Cl P w K mg base 36 x s z7z (lO 17) "paths_at")(G:ah P w K mg base aE 37 t h z20z (iO C))(i:aC K h z20z [])(M:bj K C "drop" t)(p:Cl P w K mg base 1 y u ["what"] iP "found_in")(a:mg "enumerate"=θ)(j:mg "len"=θ):∀n,ah P w K mg base aE (2*n+38) k f z4z (lN C n)
 |0=>vg F c e g G i M DH B m a j
 |n+1=>vg F c e g G i M (D2 o c p (GZ c F l b o B m e g G i M p a j n) l b) B m a j
theorem wJ:ai ["old","new","laying"] ["old","new"] (ae wf):=bN
theorem Ae(F:tf K "laid" wf f fd)(a:LK K C)(mk:Mk K C fI)(GI:ah P w K mg base aE 1 fI v ["self"] (my C))(bI:aC K v ["self"] [])(mC:mg "Laying"=↑C)(GL:ah P w K mg base aE 70 fL y z4z (lN C 16))(bL:aC K y z4z [])(M:bj K C "lay" fL):ah P w K mg base aE 71 f fd ["old","new"] mz:=by
 refine F.ok wJ λc0 A B s H vs Q E hr h=>?_
 let⟨D,c,b,f,is,js,G,S,a0,a1,rfl,I,O,J,R,T,g,U,V,D0,D1,q⟩:=h;refine#[_,(jd (jB 2 wJ.nd$ @vG _ _ _ _ _ _ _ _ _ _ _ _ _ _ mk GI hr.m Z mC bI .nil a8 VU)$ jd (jH$ j7 (pv 2) a.cl M GL hr.m bL .nil a8$ ja (jl jc)$ ja (pv 0)$ ja (jl jc)$ ja (pv 1) jc)$ jg$ jm$ jl$ ja (j6 (pv 2) Z)$ ja (j6 (pv 2) Z)$ ja (j6 (pv 2) Z)$ ja (j6 (pv 2) Z) jc),?_];let b0:=aJ;refine aj λF1 j=>λr d nr N h0=>#[r,d,Z,jb,λW X Y dA t L1 k nk nt nf nd=>#[Z,j _ _ ?_]];clear j;let up:∀b o,b≠r->b≠d->H b=δ o->t b=δ o:=λb o n1 n2 e=>k b o n1 (by rw[jh n1,jh n2];exact e);let s1:aa H t:=λb o e=>up b o (ji e nr) (ji e N) e;let n:∀x,af (af H d$ .own r) r (.ins C d []) x=θ->H x=θ:=λx hx=>by
  cases z:H x with
  |none=>rfl
  |some o=>rw[jh (ji z nr),jh (ji z N),z]at hx;cases hx
 let t0:=qD g [] G.steps 0 [] 0 λo ho=>by let⟨i,hi⟩:=RZ ho;exact Ks O hi
 rw[OU,<- zC O,za O]at t0;refine aj λF1 j=>#[_,Z,r,d,_,Z,L1.ins,Z,fj,λpa n0=>#[_,Z,fj,λpb l=>#[_,Z,?_]]];let u:aa t (af (af t pa$ .tup []) pb$ .tup []):=(je n0).trans (je l);refine#[D,r,d,W,X,Y,dA,pa,c,pb,b,[],[],f,is,js,G,S,a0,a1,.nil,Z,L1.same u,am jb l,jb,VU,VU,zd I$ aa.tm$ s1.trans u,O,J,R,zd T$ aa.tm$ s1.trans u,g,VV,U,V,D0,D1,by rw[Ly.nil_app];omega,λH3 L b3=>j _ _ ?_];clear j;rw[Ly.nil_app]at L;refine#[_,Z,r,C,d,_,_,Z,L.ins,a.cl,a.n1,Z,_,Z,r,C,d,_,_,Z,L.ins,a.cl,a.n2,Z,_,Z,r,C,d,_,_,Z,L.ins,a.cl,a.n3,Z,_,Z,r,C,d,_,_,Z,L.ins,a.cl,a.n4,Z,pU,λz nz=>?_];let s4:aa H3 (af H3 z$ .tup [.ref W,.ref X,.ref Y,.ref dA]):=je nz;let p:=L.same s4;refine q _ W X Y dA _ #[z,Z,jb,p.kv,p.tv,p.fv,p.dv,p.ne,λ_ z=>nomatch z] (n _ nk) (n _ nt) (n _ nf) (n _ nd) λx o e=>?_;exact s4 _ _$ b3 _ _ (ji e$ n _ nk) (ji e$ n _ nt) (ji e$ n _ nf) (ji e$ n _ nd)$ u _ _$ s1 _ _ e
abbrev oB:cv:=bP 67
abbrev EH:cv:=bP 68
abbrev mh:cv:=bP 79
theorem AF(a:aZ)(k:bH)(v:V):(a9 a k v).length<=a.length+1:=zT
inductive iA(b:List V)(H:Hp)(Q:VK)(a:XK):Prop
 |mk(p:η)(_:b=[.ref p])(_:ap H p)(_:∀(l:η) (C:aZ) (H':Hp),H l=θ->H' l=δ (.dK C)->GT C->C.length<=13->ap H' p->aH p H H'->Q (.ref l) H')
inductive CL(p l:η)(H:Hp)(i:Nat)(k:_L.St)(a:Hp):Prop
 |mk(h j:Option V)(C:aZ)(b:k=[↑p,↑l,h,j])(c:a l=δ (.dK C))(d:GT C)(e:C.length<=i)(f:ap a p)(g:aH p H a)
theorem u6:NX (.lst x):=λa z=>by cases z
theorem DK:NX (.tup x):=λa z=>by cases z
theorem Kp.tm{H H':Hp}(k:Kp H H'):ax H H':=λb x e=>k b _ DK e
theorem Kp.seq{K:γ}(e:Kp H b)(h:aI K H a x):aI K b a x:=by
 rcases h with (h | ⟨o,h⟩) |h
 .exact .inl$ .inl$ e _ _ u6 h
 .exact .inl$ .inr #[o,e _ _ (by intro c z;cases z) h]
 .exact .inr h
theorem El{H:Hp}{D:List Df}{n:List Nat}(h:mP H D n){i:Nat}{d:Df}{p:List ρ}(a:D[i]?=δ d)(c:H d.pa=δ (.tup$ p.map ry)):n[i]?=δ p.length:=by let f:i < D.length:=(ν.mp a).1;let b:n[i]?=δ (n[i]'(by rw[<- h.1];exact f)):=MV _;let⟨g,e,l,_⟩:=h.2 i d _ a b;rw[c]at e;injection e with e;injection e with e;let:=Od ri e;rw[MY,MY]at this;rw[b,<- l,this]
theorem Hm:NX (.dK x):=λa z=>by cases z
theorem ap.kp(B:ap H p)(k:Kp H h):ap h p:=by let⟨a,b,c,d,f,e⟩:=B;exact#[a,b,c,d,f,k _ _ u6 e]
def sZ(H:Hp)(X:List V):Prop:=∀x∈X,∃(q:η) (c i:Int),x= .ref q/\H q=δ (.tup [.int c,.int i])/\fu i
theorem sZ.mono(k:ax H a)(h:sZ H b):sZ a b:=λx d=>let #[q,c,i,e,f,g]:=h x d;#[q,c,i,e,k _ _ f,g]
inductive pM(b:List V)(H:Hp)(Q:VK)(a:XK):Prop
 |mk(p:η)(m:Int)(_:b=[.ref p,.int m])(_:ap H p)(_:0 < m)(_:m<=100)(_:∀(l:η) (xs:List V) (H':Hp),H l=θ->H' l=δ (.lst xs)->sZ H' xs->xs.length<=100->ap H' p->aH p H H'->Q (.ref l) H')
inductive LZ(p l:η)(m:Int)(H:Hp)(i:Nat)(n:_L.St)(a:Hp):Prop
 |mk(h j:Option V)(k:List V)(b:n=[↑p,δ (.int m),↑l,h,j])(c:a l=δ (.lst k))(d:sZ a k)(e:k.length<=i)(f:ap a p)(g:aH p H a)
def Lz(r R:R2):R2:=λx y H Q=>r x y H Q∨R x y H Q
theorem vC{X:Cx}(b:fh X o c)(d:fh X o e):fh X o (Lz c e):=λp s a H x y v u Q I r R h=>h.elim (b p s a H x y v u Q I r R) (d p s a H x y v u Q I r R)
structure ya(H:Hp)(nA pA ag cA:η)(i:Nat)(Cs:aZ)(d:Df)(ds:List Df)(ns:List Nat)(xs:List V)(pds:List dM)(is:List Int):Prop where
 ps:Ps H nA pA ds ns xs pds
 xl:xs.length<=1000
 hd:ds[i]?=δ d
 hn:ns[i]?=δ is.length
 ag:H ag=δ (.tup$ is.map rz)
 hi:∀z∈is,fu z
 il:is.length<=100
 ce:H cA=δ (.dK Cs)
 gc:GT Cs
theorem ya.kp(h:ya H n a A c i C d D N x p I)(k:Kp H b):ya b n a A c i C d D N x p I:=#[h.ps.mono k.tm,h.xl,h.hd,h.hn,k.tm _ _ h.ag,h.hi,h.il,k _ _ Hm h.ce,h.gc]
inductive iS(l:η)(o:List V)(H:Hp)(Q:VK)(b:XK):Prop
 |mk(n g h:η)(i:Nat)(f:aZ)(d:Df)(j:List Df)(m:List Nat)(p:List V)(e:List dM)(k:List Int)(_:o=[.ref n,.str d.f,.ref g,.ref h])(_:ya H l n g h i f d j m p e k)(_:∀(c:η) (sk:Sk) (a:Int) (L':aZ) (H':Hp),ci e f 16 d.f k [] 0= .ok sk a L' sk.size->i6 H' d.f k sk a (.ref c)->sk.ok μ->sk.dep<=15->sk.size<=60->Kp H H'->Q (.ref c) H')(_:(∀sk a L' t',ci e f 16 d.f k [] 0≠ .ok sk a L' t')->∀H',Kp H H'->Q .non H')
inductive nM(K:γ)(d:List V)(H:Hp)(Q:VK)(b:XK):Prop
 |mk(a:η)(c:List Int)(_:d=[.ref a])(_:aI K H a (c.map rz))(_:c.length<=63)(_:∀H',Q (.bl μ) H')
theorem gF:ai ["_law_box_here","_law_cells_here","_law_k","_law_cell"] z2z (ae oB):=bN
theorem u8(F:tf K "_law_cells" oB f fd)(r:Cl P w K mg base 1 fT f0 z1z bq "_law_take")(cU:Cl P w K mg base 2 fU f2 z2z fV "_law_number")(mr:mg "range"=θ):ah P w K mg base aE 3 f fd z2z iA:=by
 refine F.ok gF λc0 A O s H vs Q E g h=>?_
 let⟨p,rfl,B,q⟩:=h;refine#[_,(jd (jB 1 gF.nd XE)$ jd (jU Nu Z (kM Z mr$ ja (r.e g.m$ ja (pv 0)$ ja jf jc) jc) (jr (i:=2) gF.nd Z$ ω Z)$ jd (jB 3 gF.nd$ r.e g.m$ ja (pv 0)$ ja jf jc)$ jd (jy (zY$ r.e g.m$ ja (pv 0)$ ja jf jc) (jg$ jB 3 gF.nd$ jx kP (jx kP (jx JB jf jf) jf)$ r.e g.m$ ja (pv 0)$ ja jf jc) jo)$ jg$ q9 (zI g) (pv 1) (pv 3) (cU.e g.m$ ja (pv 0) jc) Z)$ jg$ jm$ pv 1),?_];let b0:=aJ;let t0:=pX;refine aj λt a=>λl N=>a _ _ ?_;clear a;let S:aa H (af H l$ .dK []):=je N;let I:af H l (.dK []) l=δ (.dK []):=jb;generalize af H l (.dK [])=H1 at S I;let L:l≠p:=B.ne N;let B1:=B.same S;refine aj λt a=>dj λJ j=>#[_,Z,p,14,Z,B1,VU,VU,λd H2 d0 d1 B2 M=>#[_,Z,VV,VV,j _ _ ?_]];clear j;refine ke (lo:=0) (CL p l H) #[θ,θ,[],Z,by rw[M l L];exact I,_K.GT.nil,M0 _,B2,(aH.of_same S).trans$ aH.of_eq M] ?_ (λσ H' h=>a _ _ ?_)
 .clear a;intro E0 _ i σ H3 hi fE Gq o h;let⟨o2,o3,C,rfl,x,G,lC,y,D⟩:=h;refine o ?_;clear o;show cy (fe _ _) _ E0 _ _;refine aj λt a=>#[_,Z,p,14,Z,y,VU,VU,λc4 H4 d2 d3 B4 R=>a _ _ ?_];clear a;refine aj λt a=>?_;let c:∀(u:Int) (v:Hp),ap v p->(∀b,b≠p->v b=H3 b)->t [↑p,↑l,δ$ .int (0+(i:Int)),δ$ .int u] v:=λu v BH T=>a _ _ (by
   refine#[_,Z,p,Z,BH,λm H7 m0 m1 B7 U=>?_];let h7:H7 l=δ (.dK C):=by rw[U l L,T l L];exact x
   let pl:=AF C (.inl u) (.int m);exact#[_,Z,_,Z,l,_,Z,oe.k (k:=.inl u) h7 VV,fE _ _ #[_,_,_,Z,jb,G.put _ #[m0,m1],VV,B7.eq$ jh$ NA L,(D.trans ((aH.of_eq T).trans$ aH.of_eq U)).upd_own N]])
  refine lH λG1 yT yF=>#[_,Z,p,8,Z,B4,VU,VU,λd5 H5 d4 d7 W X=>#[Z,_,Z,?_]];by_cases Y:d5=0
  .rw[Y,M9 (Z:rz 0=rz 0)];refine yT _ #[_,_,Z,Z,#[VU,VU,VU],_,_,Z,Z,_,Z,p,4,Z,W,VU,VU,λd6 H6 d8 d' B6 e6=>#[_,_,Z,Z,c _ H6 B6 λb n=>(e6 b n).trans ((X b n).trans$ R b n)]]
  .rw[M5 (λz=>Y (by injection z))];exact yF _$ c _ H5 W λb n=>(X b n).trans (R b n)
 .let⟨o2,o3,C,rfl,x,G,lC,y,D⟩:=h;exact#[_,Z,q l C H' N x G VV y D]
theorem nC:ai ["_law_box_here","_law_most","_law_found_here","_law_k","_law_cell"] ["_law_box_here","_law_most"] (ae EH):=bN
theorem DU(F:tf K "_law_changes" EH f fd)(D:Cl P w K mg base 1 fT f0 z1z bq "_law_take")(cN:Cl P w K mg base 2 fN f2 z2z fV "_law_number")(mr:mg "range"=θ):ah P w K mg base aE 3 f fd ["_law_box_here","_law_most"] pM:=by
 refine F.ok nC λc0 A O s H vs Q E g h=>?_
 let⟨p,m,rfl,B,m0,m1,q⟩:=h;refine#[_,(jd (jB 2 nC.nd$ jK jc)$ jd (jU Nu Z (kM Z mr$ ja (jx jX jf$ D.e g.m$ ja (pv 0)$ ja (pv 1) jc) jc) (jr (i:=3) nC.nd Z$ ω Z)$ jd (jB 4 nC.nd$ D.e g.m$ ja (pv 0)$ ja jf jc)$ jd (jy (zY$ D.e g.m$ ja (pv 0)$ ja jf jc) (jg$ jB 4 nC.nd$ jx kP (jx kP (jx JB jf jf) jf)$ D.e g.m$ ja (pv 0)$ ja jf jc) jo)$ jg$ jH$ j8 M' Nt Nr jR (pv 2)$ ja (jl$ ja (pv 4)$ ja (cN.e g.m$ ja (pv 0) jc) jc) jc)$ jg$ jm$ pv 2),?_];let b0:=aJ;let t0:=pX;refine aj λG a=>#[fj,λl I=>a _ _ ?_];clear a;let R:aa H (af H l$ .lst []):=je I;let e1:af H l (.lst []) l=δ (.lst []):=jb;generalize af H l (.lst [])=H1 at R e1;let L:l≠p:=B.ne I;let B1:=B.same R;refine aj λG a=>dj λJ j=>#[_,Z,_,Z,p,m,Z,B1,m0,VV,λd H2 d0 d1 B2 e2=>#[_,_,Z,Z,_,Z,VV,VV,j _ _ ?_]];clear j;refine ke (lo:=0) (LZ p l m H) #[θ,θ,[],Z,by rw[e2 l L];exact e1,(λ_ h=>nomatch h),M0 _,B2,(aH.of_same R).trans$ aH.of_eq e2] ?_ (λσ H' h=>a _ _ ?_)
 .clear a;intro E0 _ i σ H3 hi fE Gq k h;let⟨o3,o4,X,rfl,U,W,lV,M,Y⟩:=h;refine k ?_;clear k;show cy (fe _ _) _ E0 _ _;refine aj λG a=>#[_,Z,p,15,Z,M,VU,VU,λc4 H4 d2 d3 B4 e4=>a _ _ ?_];clear a;refine aj λG a=>?_;let c:∀(C:Int) (r:Hp),ap r p->(∀b,b≠p->r b=H3 b)->G [↑p,δ$ .int m,↑l,δ$ .int (0+(i:Int)),δ$ .int C] r:=λC r BH eH=>a _ _ (by
   let u:r l=δ (.lst X):=by rw[eH l L];exact U
   refine#[_,Z,.inl #[Z,_,aI.of u],_,Z,_,Z,p,Z,BH,λn v n0 n1 B7 e7=>#[cp,λt nt=>?_]];let h7:v l=δ (.lst X):=by rw[e7 l L];exact u
   let S:aa v (af v t$ .tup [.int C,.int n]):=je nt;let t8:af v t (.tup [.int C,.int n]) t=δ (.tup [.int C,.int n]):=jb;refine#[l,_,_,Z,Z,S _ _ h7,VV,fE _ _ ?_];generalize af v t (.tup [.int C,.int n])=y at S t8;let k8:aH p H3 y:=((aH.of_eq eH).trans$ aH.of_eq e7).trans (aH.of_same S);let l8:=S _ _ h7;let kl:aH l y (af y l$ .lst$ X++[.ref t]):=λb o N e=>by rw[jh N];exact e
   let T:ax y (af y l$ .lst$ X++[.ref t]):=λb ys e=>kl _ _ (jP e l8 (by intro z;cases z)) e;refine#[_,_,X++[.ref t],Z,jb,?_,by rw[MZ];show X.length+1<=_;omega,(B7.same S).eq$ jh$ NA L,(Y.trans k8).upd_own I];intro x hx;rcases Ξ.mp hx with z |z
   .exact((W.mono$ k8.tm M).mono T) x z
   .rw[υ.mp z];exact#[t,C,n,Z,T _ _ t8,n0,n1])
  refine lH λG1 yT yF=>#[_,Z,p,8,Z,B4,VU,VU,λd5 H5 d4 d7 B5 e5=>#[Z,_,Z,?_]];by_cases h3:d5=0
  .rw[h3,M9 (Z:rz 0=rz 0)];refine yT _ #[_,_,Z,Z,#[VU,VU,VU],_,_,Z,Z,_,Z,p,4,Z,B5,VU,VU,λd6 H6 d8 d' B6 e6=>#[_,_,Z,Z,c _ H6 B6 λb N=>(e6 b N).trans ((e5 b N).trans$ e4 b N)]]
  .rw[M5 (λz=>h3 (by injection z))];exact yF _$ c _ H5 B5 λb N=>(e5 b N).trans (e4 b N)
 .let⟨o3,o4,X,rfl,U,W,lV,M,Y⟩:=h;exact#[_,Z,q l X H' I U W VV M Y]
abbrev oE:cv:=bP 73
abbrev EG:cv:=bP 74
structure Xb(K:γ)(mg:ρ->Option ζ)(B TL TD:η):Prop where
 g:mg "BookError"=↑B
 h:clsIn K B≠θ
 t:typeIn K (.ref B)=δ (.type "type")
 m:mroIn K B (.type "BaseException")=δ μ
 L:mroIn K TL (.ref B)=δ μ
 D:mroIn K TD (.ref B)=δ μ
theorem GT.drop(h:GT C)(k:bH):GT (lE C k):=λp H=>h p (rm.mp H).1
inductive pK(c:List V)(H:Hp)(Q:VK)(a:XK):Prop
 |mk(p b:η)(C:aZ)(_:c=[.ref p,.ref b])(_:ap H p)(_:H b=δ (.dK C))(_:GT C)(_:C.length<=100)(_:∀(l:η) (C':aZ) (H':Hp),H l=θ->H' l=δ (.dK C')->GT C'->C'.length<=C.length+100->ap H' p->aH p H H'->Q (.ref l) H')
inductive LY(p c l:η)(C:aZ)(H:Hp)(i:Nat)(n:_L.St)(b:Hp):Prop
 |mk(k m:Option V)(a:aZ)(d:n=[↑p,↑c,↑l,k,m])(e:b l=δ (.dK a))(f:GT a)(g:a.length<=C.length+i)(h:ap b p)(j:aM p l H b)
def IU(H:Hp)(p:List dM)(f:ρ)(i:List Int)(s:Sk)(a:Int)(u:V):Prop:=i6 H f i s a u/\s.ok μ/\s.dep<=15/\s.size<=60/\∃(C L:aZ),ci p C 16 f i [] 0= .ok s a L s.size
theorem iy:ai ["_law_parts","_law_f","_law_args","_law_cells_here","_law_book_here"] z35z (ae oE):=bN
theorem vh(F:tf K "_law_book" oE f fd)(GR:ah P w K mg base (gj P w) 45 Y q z27z (pS TL TD nA))(bR:aC K q z27z [])(kR:iv K (.ref Y)=μ)(mR:mg "run"=↑Y)(X:Xb K mg B TL TD)(M:mg "dict"=θ):ah P w K mg base aE 46 f fd z35z (iS nA):=by
 refine F.ok iy λc0 A r s H vs Q E hr h=>?_
 let⟨v,y,G,i,j,d,V,W,xs,p,is,rfl,c,q1,q2⟩:=h;refine#[_,(jd (jB 4 iy.nd$ @JA _ _ _)$ jd (@AC _ _ _ _ _ _ _ _ _ _ _ Z Z (@AD _ _ _ _ (4) _ _ iy.nd Z (ω Z) (@vJ _ _ _ _ _ _ _ _ _ _ _ _ _ _ GR hr.m Z mR kR bR .nil (ja (pv 0)$ ja (pv 1)$ ja (pv 2)$ ja (jJ QB Z M boot_dict$ ja (pv 3) jc)$ ja jf jc) VU VY VY) VY (by first |exact .inl Z |exact .inr Z)) Z X.g X.h X.t X.m (λ_=>(jg$ jB 4 iy.nd$ @JA _ _ _)) VU)$ jg$ jm$ pv 4),?_];refine aj λF1 k=>k _ _ ?_;clear k;refine aj λF1 k=>?_;show CB _ _ _ _ _ [↑v,δ$ .str d.f,↑y,↑G,δ .non] H;refine#[_,Z,_,Z,_,Z,_,Z,G,j,Z,c.ce,λO not=>?_];let S:aa H (af H O$ .dK j):=je not;let e1:af H O (.dK j) O=δ (.dK j):=jb;generalize af H O (.dK j)=H1 at S e1 ⊢;let c:=c.kp (Kp.of_same S);refine#[v,y,O,i,j,d,V,W,xs,p,is,Z,c.ps,c.hd,c.hn,c.ag,c.hi,e1,c.gc,λu sk a L' H2 l hc ok dp sz s2=>?_,λl=>?_,λl=>?_]
 .let⟨c',z⟩:=id hc;let⟨_,_,_,rfl,_⟩:=z;exact k _ _ #[_,Z,q1 c' sk a L' H2 l hc ok dp sz$ Kp.of_same$ S.trans s2]
 .intro _ H7 I x C T J R hT U;cases J;refine#[X.L,λT' n=>k _ _ #[_,Z,q2 (λ_ _ _ _ z=>by rw[l]at z;cases z) _ ?_]];exactλb o N e=>Kb (H:=H) (I _ _ N$ S _ _ e) N R n
 .intro _ H7 I x C T J R hT U;cases J;refine#[X.D,λT' n=>k _ _ #[_,Z,q2 (λ_ _ _ _ z=>by rw[l]at z;cases z) _ ?_]];exactλb o N e=>Kb (H:=H) (I _ _ N$ S _ _ e) N R n
theorem pC:ai ["_law_box_here","_law_cells_here","_law_other","_law_cell","_law_number_here"] ["_law_box_here","_law_cells_here"] (ae EG):=bN
theorem DT(F:tf K "_law_changed" EG f fd)(cG:Cl P w K mg base 3 fG f0 ["_law_box_here","_law_most"] pM "_law_changes")(cT:Cl P w K mg base 1 fT f2 z1z bq "_law_take")(Y:mg "dict"=θ):ah P w K mg base aE 4 f fd ["_law_box_here","_law_cells_here"] pK:=by
 refine F.ok pC λc0 A o1 s H vs Q E hr h=>?_
 let⟨p,O,C,rfl,B,hC,gC,h3,q⟩:=h;refine#[_,(jd (jB 2 pC.nd$ jJ QB Z Y boot_dict$ ja (pv 1) jc)$ jd (jU Nu Z (zc$ cG.e hr.m$ ja (pv 0)$ ja jf jc) (zz (n:=2) Z$ jE (jr (i:=3) pC.nd Z$ ω Z)$ jE (jr (i:=4) pC.nd Z$ ω Z) kH)$ jd (q9 (zI hr) (pv 2) (pv 3) (pv 4) Z)$ jg$ jy (zY$ cT.e hr.m$ ja (pv 0)$ ja jf jc) (jg$ jH$ j8 SQ Th PySem.F.type_dict_pop yU (pv 2)$ ja (pv 3) jc) jo)$ jg$ jm$ pv 2),?_];let b0:=aJ;refine aj λF1 g=>#[_,Z,O,C,Z,hC,λl R=>g _ _ ?_];clear g;let s1:aa H (af H l$ .dK C):=je R;let e1:af H l (.dK C) l=δ (.dK C):=jb;generalize af H l (.dK C)=H1 at s1 e1 ⊢;let S:l≠p:=B.ne R;let B1:=B.same s1;refine aj λF1 g=>dj λJ j=>#[_,Z,p,4,Z,B1,VU,VU,λT x0 H2 N u pV lV B2 k2=>#[T,Z,#[_,aI.of u],j _ _ ?_]];clear j;let l2:H2 l=δ (.dK C):=k2 _ _ S e1;let l0:T≠l:=(ji e1 N).symm;let p0:T≠p:=B1.ne N;refine zx (K:=K) (a:=T) (xs:=x0) (LY p O l C H2) #[θ,θ,C,Z,l2,gC,M0 _,B2,λ_ _ _ _ e=>e] (λk σ H' _ h=>?_) ?_ (λσ H' h=>g _ _ ?_)
 .let⟨_,_,_,_,_,_,_,_,kk⟩:=h;exact aI.of$ kk _ _ p0 l0 u
 .clear g;intro E rt k x σ r y fE Gq t h;let⟨o3,o4,d,rfl,l3,g3,n3,B3,U⟩:=h;refine t ?_;clear t;let h4:=(ν.mp y).1;let⟨qq,c,I,rfl,D,h1⟩:=pV x (Nc y);let⟨_,_,_,_,_,h2⟩:=B2.ob;let D:=U _ _ (jP D h2 (by intro z;cases z)) (jP D l2 (by intro z;cases z)) D;refine#[qq,_,Z,aB.of D,Z,_,_,Z,_,_,Z,Z,?_];show cy _ _ E [↑p,↑O,↑l,δ$ .int c,δ$ .int I] r;let pl:=zT (kvs:=d) (k:=.inl c) (v:=.int I);refine aj λF1 g=>#[_,Z,_,Z,_,Z,l,_,Z,oe.k (k:=.inl c) l3 VV,g _ _ ?_];clear g;let kE:aH l r (af r l$ .dK$ a9 d (.inl c)$ .int I):=λb o W e=>by rw[jh W];exact e
  let eE:af r l (.dK$ a9 d (.inl c)$ .int I) l=δ (.dK$ a9 d (.inl c)$ .int I):=jb;let B4:ap (af r l$ .dK$ a9 d (.inl c)$ .int I) p:=B3.eq (jh S.symm);generalize af r l (.dK$ a9 d (.inl c)$ .int I)=H4 at kE eE B4;let g4:=g3.put (.inl c) h1;refine lH λG1 yT yF=>#[_,Z,p,5,Z,B4,VU,VU,λd1 G d0 d2 L q1=>#[Z,_,Z,?_]];let l5:G l=δ (.dK$ a9 d (.inl c)$ .int I):=by rw[q1 l S];exact eE
  let k5:aM p l H2 G:=λb o X M e=>by rw[q1 b X];exact kE _ _ M$ U _ _ X M e
  by_cases h0:d1=0
  .rw[h0,M9 (Z:rz 0=rz 0)];refine yT _ #[_,Z,.inr$ .inr$ .inl #[Z,.inl #[_,l5]],_,Z,l,_,.inl c,.int I,Z,Z,l5,by rw[xP,M7 Z],fE _ _ #[_,_,_,Z,jb,g4.drop _,?_,L.eq$ jh S.symm,λb o X M e=>by rw[jh M];exact k5 _ _ X M e]];let:=XD (a9 d (.inl c)$ .int I) (.inl c);omega
  .rw[M5 (λz=>h0 (by injection z))];exact yF _$ fE _ _ #[_,_,_,Z,l5,g4,VV,L,k5]
 .let⟨_,_,d,rfl,l3,g3,n3,B3,U⟩:=h;exact#[_,Z,q l d H' R l3 g3 VV B3 λb o W e=>U _ _ W (ji e R) (k2 _ _ W$ s1 _ _ e)]
theorem yJ{call:n9}(h:n8 call C p (m+1) (.go n H) L t= .ok d a g i):∃c w l T r,p.cs[n]?=δ c/\ip call C (aP c.nm H) L t c.e= .ok w l T/\d= .st (n:Int) H w r/\n8 call C p m (Ee p c H w.wh) l T= .ok r a g i:=by
 unfold n8 at h;cases e:p.cs[n]? with
 |none=>rw[e]at h;cases h
 |some c=>
  rw[e]at h;dsimp only at h;cases E:ip call C (aP c.nm H) L t c.e with
  |long |deep=>rw[E]at h;cases h
  |ok w l T=>
   rw[E]at h;dsimp only at h;cases f:n8 call C p m (Ee p c H w.wh) l T with
   |long |deep=>rw[f]at h;cases h
   |ok r b _L j=>rw[f]at h;cases h;exact#[c,w,l,T,r,Z,E,Z,f]
noncomputable def oU(p:List dM):DF:=λf n h=>match eP p f with
 |none=>.nil
 |some a=>match a.cs[n.toNat]? with
  |none=>.nil
  |some c=>tR (aP c.nm h) c.e
def IW(D:DF)(call:n9):Prop:=∀f i L t s a l T,call f i L t= .ok s a l T->Dt D f s
theorem Gx{call:n9}{w:Sk}(H:IW D call)(h:ip call C k L t e= .ok w j m)(g:ρ):Dt D g w:=by
 let b:=BM h;cases e with
 |ask d T=>rw[Ys b]at h;cases h;trivial
 |st p l=>
  cases l with
  |gv d T |st x d T=>unfold ip at h;rw[M7 b]at h;cases h
  |rd x d T=>rw[tV b]at h;cases h;trivial
  |wr d u T U=>rw[tW b]at h;cases h;trivial
  |cl x f q i=>
   rw[Qp b]at h;cases e:call f (i.map λc=>c.2.ev k) L (t+1) with
   |long |deep=>rw[e]at h;cases h
   |ok s a _L n=>rw[e]at h;cases h;show Dt D f s;exact H _ _ _ _ _ _ _ _ e
theorem BV{call:n9}(H:IW (oU p) call)(d:eP p f=δ c):∀(m:Nat) {g:Gd} {L l:aZ} {t T:Nat} {R:Sk} {a:Int},n8 call q c m g L t= .ok R a l T->Dt (oU p) f R
 |0,_,_,_,_,_,_,_,h=>by cases h
 |m+1,.give b,_,_,_,_,_,_,h=>by cases h;trivial
 |m+1,.go n j,_,_,_,_,_,_,h=>by let⟨C,w,s,u,r,k,i,rfl,o⟩:=yJ h;refine#[?_,Gx H i f,BV H d m o];rw[C5 i];show _=(match eP p f with |none=>Tr.nil |some c=>match c.cs[((n:Int)).toNat]? with |none=>Tr.nil |some C=>tR (aP C.nm j) C.e);rw[d];dsimp only;rw[NQ,k]
theorem vW:∀j,IW (oU p) (ci p C j)
 |0=>λf i L t s a l T h=>by cases h
 |j+1=>λf i L t s a l T h=>by
  let h:(match eP p f with |none=>OC.long |some b=>n8 (ci p C j) C b 62 (i9 (uY b) (dm b.way.sets$ aP b.ps i) b.way.goal) L t)= .ok s a l T:=h;cases e:eP p f with
  |none=>rw[e]at h;cases h
  |some b=>rw[e]at h;exact BV (vW j) e 62 h
theorem IU.dt{H:Hp}{u:V}(h:IU H p f i s a u):Dt (oU p) f s:=by let⟨_,_,_,_,C,L,e⟩:=h;exact vW 16 _ _ _ _ _ _ _ _ e
noncomputable def iq:Sk->aL->List aO->Nat->List aL
 | .st n h w r,p,os,m=>match fo os m n h w with
  |none=>iq r p os m
  |some j=>match os[j]? with
   |none=>[]
   |some o=>((if aS n h o=μ then [p++[(j:Int)]] else [])++iq w (p++[(j:Int)]) (lD o.2.2) 0)++iq r p os (j+1)
 | .cl _ _ s _,p,os,m=>iq s p os m
 |_,_,_,_=>[]
theorem Jp{w:Sk}{os:List aO}(h:fo os m n H w=θ):iq (.st n H w r) p os m=iq r p os m:=by show(match fo os m n H w with |none=>_ |some j=>_)=_;rw[h]
theorem Jq{w:Sk}{os:List aO}(h:fo os m n H w=δ j)(a:os[j]?=δ o):iq (.st n H w r) p os m=((if aS n H o=μ then [p++[(j:Int)]] else [])++iq w (p++[(j:Int)]) (lD o.2.2) 0)++iq r p os (j+1):=by show(match fo os m n H w with |none=>_ |some j=>match os[j]? with |none=>([]:List aL) |some o=>_)=_;rw[h];dsimp only;rw[a]
def p7(a:aL)(m:Nat)(p:aL):Prop:=∃(j:Nat) (q:aL),m<=j/\p=a++(j:Int)::q
theorem wV(p:aL)(m:Nat):p7 p m (p++[(m:Int)]):=#[m,[],M0 _,Z]
theorem p7.le(h:p7 a m p)(l:M<=m):p7 a M p:=let #[j,q,H,b]:=h;#[j,q,Ng l H,b]
theorem p7.up{a:aL}{m j i:Nat}{p:aL}(h:p7 (a++[(j:Int)]) i p)(l:m<=j):∃q,p=a++(j:Int)::q/\q≠[]:=by let⟨k,q,_,e⟩:=h;exact#[(k:Int)::q,by rw[e,OB];rfl,λz=>by cases z]
theorem qc{q:aL}(h:p++(i:Int)::q=p++(j:Int)::Q):i=j/\q=Q:=by let:=Rt h;injection this with a H;exact#[VV,H]
theorem Qq:∀(s:Sk) (p:aL) (k:Nat),∀q∈(s.ws p k).map (·.1),p7 p 0 q
 | .st _ _ w r,p,k,q,h=>by
  let h:q∈(((p++[(k:Int)],w)::w.ws (p++[(k:Int)]) 0)++r.ws p (k+1)).map (·.1):=h;rw[Nl,Oe]at h;rcases Ξ.mp h with h |h
  .rcases Φ.mp h with rfl |h
   .exact(wV p k).le (M6 _)
   .let⟨Q,e,_⟩:=(Qq w _ 0 q h).up (m:=0) (M6 _);exact#[k,Q,M6 _,e]
  .exact Qq r p (k+1) q h
 | .cl _ _ s _,p,_,q,h=>Qq s p 0 q h
 | .nil,_,_,_,h=>nomatch h
 | .ask _,_,_,_,h=>nomatch h
 | .rd _ _,_,_,_,h=>nomatch h
 | .wr _ _,_,_,_,h=>nomatch h
theorem Kd{w:Sk}{p:aL}{k:Nat}{q:aL}(h:q∈cg (p++[(k:Int)]) w):∃Q,q=p++(k:Int)::Q:=by
 rcases Φ.mp h with rfl |h
 .exact#[[],Z]
 .let⟨Q,e,_⟩:=(Qq w _ 0 q h).up (m:=0) (M6 _);exact#[Q,e]
theorem KA(s:aO)(r:List aO)(p:aL)(k:Nat):(eG (s::r) p k).map (·.1)=cg (p++[(k:Int)]) s.2.2++(eG r p$ k+1).map (·.1):=by show((_::_)++_).map _=_;rw[Nl];rfl
theorem QZ:∀(os:List aO) (p:aL) (k:Nat),∀q∈(eG os p k).map (·.1),∃(i:Nat) (Q:aL),k<=i/\i < k+os.length/\q=p++(i:Int)::Q
 | [],_,_,_,h=>nomatch h
 |s::r,p,k,q,h=>by
  rw[KA]at h;rcases Ξ.mp h with h |h
  .let⟨Q,e⟩:=Kd h;exact#[k,Q,M0 _,by show k < k+(r.length+1);omega,e]
  .let⟨i,Q,H,a,e⟩:=QZ r p (k+1) q h;exact#[i,Q,VV,by show i < k+(r.length+1);omega,e]
theorem JH:∀(s:Sk) (a:aL) (os:List aO) (m:Nat),∀p∈iq s a os m,p7 a m p
 | .st n b w r,a,os,m,p,h=>by
  cases e:fo os m n b w with
  |none=>rw[Jp e]at h;exact JH r a os m p h
  |some j=>
   let⟨H,x,d,_⟩:=ze e;rw[Jq e d]at h;rcases Ξ.mp h with h |h
   .rcases Ξ.mp h with h |h
    .by_cases c:aS n b x=μ
     .rw[M7 c]at h;cases υ.mp h;exact(wV a j).le H
     .rw[Na c]at h;cases h
    .let⟨q,E,_⟩:=(JH w _ _ 0 p h).up (m:=m) H;exact#[j,q,H,E]
   .exact(JH r a os (j+1) p h).le VV
 | .cl _ _ s _,a,os,m,p,h=>JH s a os m p h
 | .nil,_,_,_,_,h=>nomatch h
 | .ask _,_,_,_,_,h=>nomatch h
 | .rd _ _,_,_,_,_,h=>nomatch h
 | .wr _ _,_,_,_,_,h=>nomatch h
theorem xV{os:List aO}(p:aL)(h:m<=j)(H:os[j]?=δ o):(eG (os.drop m) p m).map (·.1)=eK p os m j++(cg (p++[(j:Int)]) o.2.2++(eG (os.drop$ j+1) p$ j+1).map (·.1)):=by
 let e:os.drop m=(os.drop m).take (j - m)++(o::os.drop (j+1)):=by let z:=O4 (j - m) (os.drop m);rw[UQ,show m+(j - m)=j by omega]at z;let⟨a,E⟩:=ν.mp H;rw[<- Ov (h:=a),E]at z;exact z.symm
 let c:=(ν.mp H).1;let b:((os.drop m).take$ j - m).length=j - m:=by rw[Nq,NN];omega
 conv=>lhs;rw[e]
 rw[zL,b,Nl,show m+(j - m)=j by omega,KA];rfl
theorem yM{W w:Sk}(o:W.ok ξ)(O:w.ok ξ)(k:Dt D f W)(j:Dt D f w)(h:∀g i s a,w= .cl g i s a->∃S A,W= .cl g i S A)(H:∀g i s a,W= .cl g i s a->∃S A,w= .cl g i S A):∃g d,d.ok μ/\lD W=d.steps/\Dt D g d/\Dt D g w/\(∀G i s a,w= .cl G i s a->g=G)/\((∀g i s a,w≠ .cl g i s a)->d= .nil):=by
 cases W with
 |nil |st _ _ _ _=>exact o.elim
 |cl g i s a=>let⟨S,A,rfl⟩:=H g i s a Z;exact#[g,s,o,Z,k,j,λ_ _ _ _ e=>by cases e;rfl,λz=>absurd Z (z _ _ _ _)]
 |ask b |rd b c |wr b c=>exact#[f,.nil,trivial,Z,trivial,j,λg i s a e=>(let #[_,_,z]:=h g i s a e;nomatch z),λ_=>Z]
theorem Fj{os:Sk}{w:Sk}(O:w.ok ξ)(k:Dt D f os)(h:fo os.steps m n l w=δ j)(b:os.steps[j]?=δ o)(p:dI w=D f n l):∀g i s a,o.2.2= .cl g i s a->∃S A,w= .cl g i S A:=by
 intro g i s a e;let⟨_,t,H,c⟩:=ze h;rw[b]at H;cases H;rcases c with c | ⟨F,I,S,A,q,c⟩
 .let⟨C,r⟩:=uR c;let⟨d,_⟩:=Kj k b;rw[C,r,<- p,e]at d;exact Yv O d.symm
 .let⟨u,v,E⟩:=uO c;rw[e]at E;cases E;exact#[S,A,q]
noncomputable def eO(L:List aL)(l:List aL):List aL:=l.filter λp=>decide (p∉L)
theorem KB(L a b:List aL):eO L (a++b)=eO L a++eO L b:=Po ..
theorem X0(h:∀p∈a,p∉L):eO L a=a:=List.filter_eq_self.mpr λp H=>M9 (h p H)
theorem QO(L:List aL)(p:aL)(l:List aL):eO L (p::l)=if p∈L then eO L l else p::eO L l:=by
 unfold eO;by_cases h:p∈L
 .rw[M7 h,Rr (by simp [h])]
 .rw[Na h,Rq (by simp [h])]
theorem Gm{w:Sk}(o:w.ok ξ)(p:aL):w.ws p 0=eG (lD w) p 0:=by
 cases w with
 |nil |st _ _ _ _=>exact o.elim
 |cl f i s a=>exact zC (s:=s) o p 0
 |_=>rfl
theorem Xv{D:DF}:∀{b:Bool} {s:Sk},s.ok b->∀{f:ρ} {so:Sk} {po pn:aL} {m k:Nat} {L:List aL},so.ok μ->Dt D f so->Dt D f s->(∀g I t a,s= .cl g I t a->f=g)->(b=ξ->(∀g I t a,s≠ .cl g I t a)->so= .nil)->(∀p,p7 po m p->(p∈L↔p∈iq s po so.steps m))->
  (dR s po so.steps m pn k).d=eO L ((eG (so.steps.drop m) po m).map (·.1))
 |true,.nil,_,f,so,po,pn,m,k,L,_,_,_,_,_,H=>by show eK po so.steps m so.steps.length=_;unfold eK;rw[Ou (by rw[NN];exact M0 _),X0];intro p c z;let⟨i,Q,J,_,e⟩:=QZ _ _ _ p c;exact nomatch (H p #[i,Q,J,e]).mp z
 |true,.st n E w r,o,f,so,po,pn,m,k,L,O,v,y,_,_,H=>by
  let nr:∀g I t a,r= .cl g I t a->f=g:=λg I t a e=>by let z:=o.2;rw[e]at z;exact z.elim
  cases h:fo so.steps m n E w with
  |none=>rw[zU h];rw[Jp h]at H;exact Xv (b:=μ) (s:=r) o.2 O v y.2.2 nr (λz=>nomatch z) H
  |some j=>
   let⟨l,x,A,hc⟩:=ze h;let B:=Ks O A;let⟨d1,d2⟩:=Kj v A;let kd:=Yw (s:=.nil) O v h A B y.1;let N:=Fj o.1 v h A y.1;let⟨g,S,R,T,U,V,W,X⟩:=yM B o.1 d2 y.2.1 kd N;rw[Jq h A,T]at H;let M:∀p,p∈((if aS n E x=μ then [po++[(j:Int)]] else [])++iq w (po++[(j:Int)]) S.steps 0)++iq r po so.steps (j+1)↔((aS n E x=μ/\p=po++[(j:Int)])∨p∈iq w (po++[(j:Int)]) S.steps 0)∨p∈iq r po so.steps (j+1):=λp=>by
    rw[OP,OP];by_cases u:aS n E x=μ
    .rw[M7 u,P9];simp [u]
    .rw[Na u];simp [u]
   let C:∀p,p∈iq w (po++[(j:Int)]) S.steps 0->∃q,p=po++(j:Int)::q/\q≠[]:=λp c=>(JH w _ _ 0 p c).up (m:=m) l;let inR:∀p,p∈iq r po so.steps (j+1)->p7 po (j+1) p:=λp c=>JH r _ _ _ p c;let ih:=Xv (D:=D) (b:=ξ) (s:=w) o.1 (m:=0) (k:=0) (pn:=pn++[(k:Int)]) (po:=po++[(j:Int)]) (L:=L) R U V W (λ_=>X) λp c=>by
    let⟨q,e,Y⟩:=c.up (m:=m) l;rw[H p #[j,q,l,e],M p];constructor
    .rintro ((⟨_,z⟩ |z) |z)
     .rw[e]at z;let⟨_,z⟩:=qc z;exact absurd z Y
     .exact z
     .let⟨i,Q,hi,z⟩:=inR p z;rw[e]at z;let:=(qc z).1;omega
    .exactλz=>.inl (.inr z)
   let i0:=Xv (D:=D) (b:=μ) (s:=r) o.2 (m:=j+1) (k:=k+1) (pn:=pn) (po:=po) (L:=L) O v y.2.2 nr (λz=>nomatch z) λp c=>by
    let⟨i,q,hi,e⟩:=c;rw[H p #[i,q,VV,e],M p];constructor
    .rintro ((⟨_,z⟩ |z) |z)
     .rw[e]at z;let:=(qc z).1;omega
     .let⟨Q,z,_⟩:=C p z;rw[e]at z;let:=(qc z).1;omega
     .exact z
    .exactλz=>.inr z
   rw[OU]at ih;rw[zV h A,xV po l A,KB,KB,<- i0];let e1:eO L (eK po so.steps m j)=eK po so.steps m j:=X0 λp c z=>by
    let⟨i,Q,J,h2,e⟩:=QZ _ _ _ p c;rw[Nq,NN]at h2;rw[H p #[i,Q,J,e],M p]at z;rcases z with (⟨_,z⟩ |z) |z
    .rw[e]at z;let:=(qc z).1;omega
    .let⟨q2,z,_⟩:=C p z;rw[e]at z;let:=(qc z).1;omega
    .let⟨i',q2,hi,z⟩:=inR p z;rw[e]at z;let:=(qc z).1;omega
   let e2:eO L (cg (po++[(j:Int)]) x.2.2)=(one (po++[(j:Int)]) x (pn++[(k:Int)]) n E w).d++(dR w (po++[(j:Int)]) S.steps 0 (pn++[(k:Int)]) 0).d:=by
    rw[ih];unfold cg;rw[QO,Gm B,T];let hm:=(H (po++[(j:Int)]) #[j,[],l,Z]).trans (M _);unfold one;by_cases u:aS n E x=μ
    .rw[M7$ hm.mpr$ .inl$ .inl #[u,Z],M7 u];by_cases G:x.2.2.fnd=w.fnd
     .rw[M7 G];rfl
     .rw[Na G];rfl
    .rw[Na u,Na]
     .rfl
     .rw[hm];rintro ((⟨z,_⟩ |z) |z)
      .exact u z
      .let⟨q2,z,Y⟩:=C _ z;let⟨_,z⟩:=qc (q:=[]) z;exact Y z.symm
      .let⟨i',q2,hi,z⟩:=inR _ z;let:=(qc (q:=[]) z).1;omega
   rw[e1,e2,T];show(eK po so.steps m j++((one _ _ _ _ _ _).d++(dR _ _ _ _ _ _).d))++(dR _ _ _ _ _ _).d=_;rw[OB]
 |false,.cl g _ s _,o,f,so,po,pn,m,k,L,O,v,y,G,_,H=>by
  let z:=G g _ s _ Z;subst z;exact Xv (b:=μ) (s:=s) o O v y (λg I t a e=>by
   rw[e]at o;exact o.elim) (λz=>nomatch z) H
 |false,.ask _,_,f,so,po,pn,m,k,L,_,_,_,_,F,_=>by let z:=F Z (λ_ _ _ _ z=>nomatch z);subst z;show []=eO L ((eG (([]:List aO).drop m) po m).map (·.1));rw[Tk];rfl
 |false,.rd _ _,_,f,so,po,pn,m,k,L,_,_,_,_,F,_=>by let z:=F Z (λ_ _ _ _ z=>nomatch z);subst z;show []=eO L ((eG (([]:List aO).drop m) po m).map (·.1));rw[Tk];rfl
 |false,.wr _ _,_,f,so,po,pn,m,k,L,_,_,_,_,F,_=>by let z:=F Z (λ_ _ _ _ z=>nomatch z);subst z;show []=eO L ((eG (([]:List aO).drop m) po m).map (·.1));rw[Tk];rfl
theorem Xc:∀(p x y:aL),lX (p++x) (p++y)=lX x y
 | [],_,_=>rfl
 |a::p,x,y=>by show(if a=a then lX (p++x) (p++y) else _)=_;rw[M7 Z,Xc p]
theorem Xd{p q Q:aL}{i j:Nat}(h:i < j):lX (p++(i:Int)::q) (p++(j:Int)::Q)=μ:=by rw[Xc];show(if (i:Int)=(j:Int) then _ else decide ((i:Int) < (j:Int)))=μ;rw[Na VV];exact M9 VV
theorem Xe:lX p (p++(i:Int)::q)=μ:=by let:=Xc p [] ((i:Int)::q);rw[Nx]at this;exact this
abbrev tq(l:List aL):Prop:=l.Pairwise λa b=>lX a b=μ
theorem sR:∀(s:Sk) (p:aL) (k:Nat),s.ok μ->∀q∈(s.ws p k).map (·.1),p7 p k q
 |s,p,k,o,q,h=>by rw[zC o]at h;let⟨i,Q,H,_,e⟩:=QZ _ _ _ q h;exact#[i,Q,H,e]
theorem Yx(H:tq a)(c:tq b)(h:∀x∈a,∀y∈b,lX x y=μ):tq (a++b):=List.pairwise_append.mpr #[H,c,h]
theorem Zh:∀{b:Bool} {s:Sk},s.ok b->∀(p:aL) (k:Nat),tq ((s.ws p k).map (·.1))
 |true,.nil,_,_,_=>dO
 |true,.st _ _ w r,o,p,k=>by
  show tq ((((p++[(k:Int)],w)::w.ws (p++[(k:Int)]) 0)++r.ws p (k+1)).map (·.1));rw[Nl];refine Yx ?_ (Zh o.2 p$ k+1) λx H y h=>?_
  .rw[Oe];refine ks.mpr #[λy h=>?_,Zh o.1 _ 0];let⟨i,q,_,e⟩:=Qq w _ 0 y h;rw[e];exact Xe
  .let⟨q,e⟩:=Kd (w:=w) (show x∈cg (p++[(k:Int)]) w from H);let⟨i,Q,a,E⟩:=sR r p (k+1) o.2 y h;rw[e,E];exact Xd a
 |false,.cl _ _ s _,o,p,_=>Zh (b:=μ) (s:=s) o p 0
 |false,.ask _,_,_,_=>dO
 |false,.rd _ _,_,_,_=>dO
 |false,.wr _ _,_,_,_=>dO
theorem AE{w:Sk}(o:w.ok ξ)(p:aL):tq (cg p w):=by refine ks.mpr #[λy h=>?_,Zh o _ 0];let⟨i,q,_,e⟩:=Qq w _ 0 y h;rw[e];exact Xe
theorem Xw:∀{b:Bool} {s:Sk},s.ok b->∀(c:aL) (os:List aO) (m:Nat) (a:aL) (k:Nat),tq (dR s c os m a k).f/\∀p∈(dR s c os m a k).f,p7 a k p
 |true,.nil,_,_,_,_,_,_=>#[dO,λ_ h=>(nomatch h)]
 |true,.st n H w r,o,c,os,m,a,k=>by
  cases h:fo os m n H w with
  |none=>
   rw[zU h];let⟨l,I⟩:=Xw o.2 c os m a (k+1);show tq (cg (a++[(k:Int)]) w++_)/\∀p∈(cg (a++[(k:Int)]) w++_),_;refine#[Yx (AE o.1 _) l λx d y g=>?_,λp hp=>?_]
   .let⟨q,e⟩:=Kd d;let⟨i,Q,t,E⟩:=I y g;rw[e,E];exact Xd t
   .rcases Ξ.mp hp with hp |hp
    .let⟨q,e⟩:=Kd hp;exact#[k,q,M0 _,e]
    .exact(I p hp).le (NW _)
  |some j=>
   let⟨z,x,d,_⟩:=ze h;rw[zV h d];let⟨l,I⟩:=Xw o.2 c os (j+1) a (k+1);let⟨J,u⟩:=Xw o.1 (c++[(j:Int)]) (lD x.2.2) 0 (a++[(k:Int)]) 0;let o1:(one (c++[(j:Int)]) x (a++[(k:Int)]) n H w).f=[]∨(one (c++[(j:Int)]) x (a++[(k:Int)]) n H w).f=[a++[(k:Int)]]:=by
    unfold one;split
    .split
     .exact .inl Z
     .exact .inl Z
    .exact .inr Z
   let M:tq ((one (c++[(j:Int)]) x (a++[(k:Int)]) n H w).f++(dR w (c++[(j:Int)]) (lD x.2.2) 0 (a++[(k:Int)]) 0).f)/\∀p∈((one (c++[(j:Int)]) x (a++[(k:Int)]) n H w).f++(dR w (c++[(j:Int)]) (lD x.2.2) 0 (a++[(k:Int)]) 0).f),∃q,p=a++(k:Int)::q:=by
    let v:∀p∈(dR w (c++[(j:Int)]) (lD x.2.2) 0 (a++[(k:Int)]) 0).f,∃q,p=a++(k:Int)::q:=λp hp=>let #[q,e,_]:=(u p hp).up (m:=0) (M6 _);#[q,e]
    rcases o1 with o1 |o1
    .rw[o1];exact#[J,v]
    .rw[o1];refine#[ks.mpr #[λy g=>?_,J],λp hp=>?_]
     .let⟨i,q,_,e⟩:=u y g;rw[e];exact Xe
     .rcases Φ.mp hp with rfl |hp
      .exact#[[],Z]
      .exact v p hp
   show tq (([]++(_++_))++_)/\∀p∈(([]++(_++_))++_),_;rw[UF];refine#[Yx M.1 l λx d y g=>?_,λp hp=>?_]
   .let⟨q,e⟩:=M.2 x d;let⟨i,Q,t,E⟩:=I y g;rw[e,E];exact Xd t
   .rcases Ξ.mp hp with hp |hp
    .let⟨q,e⟩:=M.2 p hp;exact#[k,q,M0 _,e]
    .exact(I p hp).le (NW _)
 |false,.cl _ _ s _,o,c,os,m,a,k=>Xw (b:=μ) (s:=s) o c os m a k
 |false,.ask _,_,_,_,_,_,_=>#[dO,λ_ h=>(nomatch h)]
 |false,.rd _ _,_,_,_,_,_,_=>#[dO,λ_ h=>(nomatch h)]
 |false,.wr _ _,_,_,_,_,_,_=>#[dO,λ_ h=>(nomatch h)]
theorem Bh(h:tq l)(H:l[i]?=δ p)(c:l[i+1]?=δ q):lX p q=μ:=by let⟨a,e⟩:=ν.mp H;let⟨b,E⟩:=ν.mp c;let:=(rx.mp h) i (i+1) a b (Oy i);rw[e,E]at this;exact this
theorem Ic(h:p7 a k p):p≠[]:=by let⟨i,q,_,e⟩:=h;rw[e];intro z;simp at z
abbrev EL:cv:=bP 69
abbrev AM:cv:=bP 70
abbrev su:cv:=bP 71
abbrev AT:cv:=bP 72
noncomputable def Cb:Sk->V->V
 | .cl _ _ _ a,_=>.int a
 |_,u=>u
inductive nK(b:List V)(H:Hp)(Q:VK)(a:XK):Prop
 |mk(p h:η)(n:Int)(u:V)(w:Sk)(_:b=[.ref p])(_:H p=δ (.tup [.int n,.ref h,u]))(_:dD H w u [])(_:w.ok ξ)(_:Q (Cb w u) H)
theorem Dc{w W:Sk}(o:w.ok ξ)(O:W.ok ξ)(e:dI w=dI W):(w.fnd=W.fnd->(∃f I s a S A,w= .cl f I s a/\W= .cl f I S A/\a=A)∨(w=W/\∀f I s a,w≠ .cl f I s a))/\(w.fnd≠W.fnd->(∃f I s a S A,w= .cl f I s a/\W= .cl f I S A/\a≠A)∨∃c i d,w= .rd c i/\W= .rd c d/\i≠d):=by
 cases w with
 |nil |st _ _ _ _=>exact o.elim
 |cl f I s a=>let⟨S,A,rfl⟩:=Yv O e.symm;exact#[λh=>.inl #[f,I,s,a,S,A,Z,Z,h],λh=>.inl #[f,I,s,a,S,A,Z,Z,h]]
 |ask b=>
  cases W with
  |nil |st _ _ _ _=>exact O.elim
  |ask B=>have e:Tr.tp (.cons (aK "ask")$ .cons (aq b) .nil)= .tp (.cons (aK "ask")$ .cons (aq B) .nil):=e;injection e with e;injection e with _ e;injection e with e _;injection e with e;injection e with e;subst e;exact#[λ_=>.inr #[Z,λ_ _ _ _ z=>nomatch z],λh=>absurd Z h]
  |rd _ _ |wr _ _ |cl _ _ _ _=>exact absurd (Jf e) VU
 |rd b i=>
  cases W with
  |nil |st _ _ _ _=>exact O.elim
  |rd B d=>have e:Tr.tp (.cons (aK "read")$ .cons (aq b) .nil)= .tp (.cons (aK "read")$ .cons (aq B) .nil):=e;injection e with e;injection e with _ e;injection e with e _;injection e with e;injection e with e;subst e;exact#[λ(h:i=d)=>by subst h;exact .inr #[Z,λ_ _ _ _ z=>nomatch z],λh=>.inr #[b,i,d,Z,Z,h]]
  |ask _ |wr _ _ |cl _ _ _ _=>exact absurd (Jf e) VU
 |wr b i=>
  cases W with
  |nil |st _ _ _ _=>exact O.elim
  |wr B d=>have e:Tr.tp (.cons (aK "write")$ .cons (aq b)$ .cons (aq i) .nil)= .tp (.cons (aK "write")$ .cons (aq B)$ .cons (aq d) .nil):=e;injection e with e;injection e with _ e;injection e with E e;injection e with g _;injection E with E;injection E with E;injection g with g;injection g with g;subst E;subst g;exact#[λ_=>.inr #[Z,λ_ _ _ _ z=>nomatch z],λh=>absurd Z h]
  |ask _ |rd _ _ |cl _ _ _ _=>exact absurd (Jf e) VU
theorem wY{w:Sk}(o:w.ok ξ)(h:∀f i s a,w≠ .cl f i s a):∃l,nE w= .tp l/\l.dep < 10/\l.In:=by
 cases w with
 |nil |st _ _ _ _=>exact o.elim
 |cl f i s a=>exact absurd Z (h f i s a)
 |ask b=>exact#[_,Z,by show max 0 (max 0 0) < 10;decide,Z,Z,trivial]
 |rd b B |wr b B=>exact#[_,Z,by show max 0 (max 0 (max 0 0)) < 10;decide,Z,Z,Z,trivial]
theorem uQ{w:Sk}(h:∀f i s a,w≠ .cl f i s a):Cb w u=u:=by
 cases w with
 |cl f i s a=>exact absurd Z (h f i s a)
 |_=>rfl
theorem Yy{X:Cx}(d:X.A.units < cLine):fh X (compareOp .Eq) (λx y H Q=>∃a b c,x= .ref a/\y= .ref b/\H a=δ (.lst c)/\H b=δ (.lst [])/\Q (.bl c.isEmpty) H):=by
 intro p s J H x y v u Q I l m h;let⟨a,b,c,rfl,rfl,n,o,q⟩:=h;cases l;cases m;let⟨t,R,f,_⟩:=I.list (aI.of n);let⟨B,C,g,_⟩:=I.list (aI.of o);let E:B=[]:=C.nil_iff.mpr Z;subst E;cases i:c with
 |nil=>subst i;let D:t=[]:=R.nil_iff.mpr Z;subst D;refine UN (e:=λ_=>μ) f.isList g.isList Z d (λj F M=>absurd F VW) X.prog X.w _ _ ?_;exact#[.bl μ,H,I,Z,q]
 |cons z r=>subst i;let L:=R.length;refine UM f.isList g.isList (by simp [<- L]) d X.prog X.w _ _ ?_;exact#[.bl ξ,H,I,Z,q]
theorem Jx{lo:Int}{n:Nat}{t:TT}{Q:List V->Hp->Prop}(Pv:Nat->List V->Hp->Prop)(j:Pv 0 [] H)(k:n<=τ)(c:∀i Y h,Pv i Y h->Y.length<=i)
  (l:∀i Y h,i < n->Pv i Y h->t (δ (.int$ lo+i)::d) h λb f=>if b=μ then T (δ (.int$ lo+i)::d) f λy o=>Pv (i+1) (Y++[y]) o else Pv (i+1) Y f) (q:∀Y h,Pv n Y h->Q Y h):
  eJ (sX lo n) 1 d (bQ 0) t T Q H:=by
 refine#[λi m Y h=>m=n - i/\i<=n/\Pv i Y h,#[n,VW,M6 _,j],?_];rintro i m Y h ⟨rfl,u,p⟩;by_cases a:i < n
 .refine .inr #[a,Ol (c i Y h p)$ Nh a k,Pv$ i+1,λr f s=>#[n - (i+1),VV,Z,a,s],λx f z g y=>?_];let⟨e,y⟩:=y;subst e y;let⟨v,rfl⟩:=rF g;exact#[#[[δ _],Z,Z],l i Y _ a p]
 .let e:i=n:=by omega
  subst e;exact .inl #[M0 _,q Y h p]
theorem qV{K:γ}{a:η}{xs:List V}{t:TT}{Q:List V->Hp->Prop}(A:xs.length<=τ)(Pv:Nat->List V->Hp->Prop)(n:Pv 0 [] H)
  (o:∀i Y h,Pv i Y h->aI K h a xs/\Y.length<=i) (q:∀i x Y h,xs[i]?=δ x->Pv i Y h->t (δ x::c) h λb d=>if b=μ then T (δ x::c) d λy r=>Pv (i+1) (Y++[y]) r else Pv (i+1) Y d) (s:∀Y h,Pv xs.length Y h->Q Y h):
  eJ (xX K a) 1 c (bQ 0) t T Q H:=by
 refine#[λi m Y h=>m=xs.length - i/\i<=xs.length/\Pv i Y h,#[xs.length,VW,M6 _,n],?_];intro i m Y h g;let⟨rfl,B,p⟩:=g;let⟨j,C⟩:=o i Y h p;by_cases f:i < xs.length
 .refine .inr #[#[xs,xs[i],j,MV f],VV,Pv$ i+1,λu d z=>#[xs.length - (i+1),VV,Z,f,z],λv d D k y=>?_];let⟨e,y⟩:=y;subst e;let⟨w,rfl⟩:=rF k;exact#[#[[δ _],Z,Z],q i v Y d (y xs j) p]
 .let e:i=xs.length:=by omega
  subst e;exact .inl #[#[xs,j,M0 _],s Y h p]
theorem kL{X:Cx}{K:γ}(h:X.K=K):FY X (cw K):=by subst h;exact jF
noncomputable def gW(P:aO->Bool):Nat->List aO->List Nat
 |_,[]=>[]
 |k,s::r=>if P s=μ then k::gW P (k+1) r else gW P (k+1) r
noncomputable def cR(P:aO->Bool)(os:List aO)(m:Nat):List Nat:=gW P m (os.drop m)
theorem Kt{P:aO->Bool}{os:List aO}(h:os[m]?=δ s):cR P os m=if P s=μ then m::cR P os (m+1) else cR P os (m+1):=by let⟨H,e⟩:=ν.mp h;unfold cR;rw[<- Ov (h:=H),e];rfl
theorem Ke{P:aO->Bool}{os:List aO}(h:os.length<=m):cR P os m=[]:=by unfold cR;rw[Tt h];rfl
theorem QP(P:aO->Bool):∀(k:Nat) (os:List aO),(gW P k os).head?=rB P k os
 |_,[]=>rfl
 |k,s::r=>by
  show(if P s=μ then k::gW P (k+1) r else gW P (k+1) r).head?=if P s=μ then δ k else rB P (k+1) r;by_cases h:P s=μ
  .rw[M7 h,M7 h];rfl
  .rw[Na h,Na h,QP P]
theorem X1(P:aO->Bool)(os:List aO)(m:Nat):(cR P os m).head?=lS P os m:=QP P m _
theorem X2(P:aO->Bool):∀(k:Nat) (os:List aO),(gW P k os).length<=os.length
 |_,[]=>M0 0
 |k,s::r=>by
  let:=X2 P (k+1) r;show(if P s=μ then k::gW P (k+1) r else gW P (k+1) r).length<=r.length+1;by_cases h:P s=μ
  .rw[M7 h];show _+1<=_;omega
  .rw[Na h];omega
theorem Xf(P:aO->Bool)(os:List aO)(m:Nat):(cR P os m).length<=os.length:=Ng (X2 P m _) (by rw[NN];omega)
noncomputable def eW(s:aO):Bool:=match s.2.2 with
 | .cl _ _ _ _=>μ
 |_=>ξ
noncomputable def BF(P:aO->Bool)(os:List aO)(j:Nat):Bool:=match os[j]? with
 |some s=>P s
 |none=>ξ
theorem KN{P Q:aO->Bool}(h:∀s,P s=μ->Q s=μ)(os:List aO):∀(n m:Nat),n=os.length - m->(cR Q os m).filter (BF P os)=cR P os m
 |0,m,e=>by rw[Ke VV,Ke VV];rfl
 |n+1,m,e=>by
  let c:m < os.length:=by omega
  let a:=MV c;rw[Kt a,Kt a];let i:=KN h os n (m+1) VV;let E:BF P os m=P os[m]:=by unfold BF;rw[a]
  by_cases H:P os[m]=μ
  .rw[M7$ h _ H,M7 H,Rq (by rw[E];exact H),i]
  .rw[Na H];by_cases b:Q os[m]=μ
   .rw[M7 b,Rr (by rw[E];exact H),i]
   .rw[Na b,i]
theorem G8(s:aO)(h:cV f i s=μ):eW s=μ:=by let⟨S,a,e⟩:=uO h;unfold eW;rw[e]
noncomputable def mV(s:Sk)(p:aL)(os:List aO)(m:Nat)(a:aL)(k:Nat):Ly:=#[(dR s p os m a k).k,(dR s p os m a k).t,(dR s p os m a k).f,iq s p os m]
noncomputable def vv(p:aL)(o:aO)(a:aL)(n:Int)(h:List Int)(w:Sk):Ly:=
 if aS n h o=μ then (if o.2.2.fnd=w.fnd then #[[(p,a)],[],[],[p]] else #[[],[(p,a)],[],[p]]) else #[[],[],[a],[]]
theorem X3{w:Sk}{os:List aO}(h:fo os m n H w=θ):mV (.st n H w r) a os m p k=(#[[],[],cg (p++[(k:Int)]) w,[]]:Ly).app (mV r a os m p$ k+1):=by unfold mV;rw[zU h,Jp h];rfl
theorem tG{w r:Sk}{po:aL}{os:List aO}{pn:aL}{k:Nat}(h:fo os m n b w=δ j)(c:os[j]?=δ o):mV (.st n b w r) po os m pn k=(vv (po++[(j:Int)]) o (pn++[(k:Int)]) n b w).app ((mV w (po++[(j:Int)]) (lD o.2.2) 0 (pn++[(k:Int)]) 0).app$ mV r po os (j+1) pn$ k+1):=by
 unfold mV;rw[zV h c,Jq h c];unfold vv one Ly.app;by_cases H:aS n b o=μ
 .rw[M7 H,M7 H,M7 H];by_cases a:o.2.2.fnd=w.fnd
  .rw[M7 a,M7 a];simp
  .rw[Na a,Na a];simp
 .rw[Na H,Na H,Na H];simp
theorem tF{w:Sk}{os:List aO}(o:w.ok ξ)(h:∀f i s a,w≠ .cl f i s a):mV w p os m b k= .nil:=by
 cases w with
 |nil |st _ _ _ _=>exact o.elim
 |cl f i s a=>exact absurd Z (h f i s a)
 |_=>rfl
inductive fQ(n:Nat)(e:List V)(H:Hp)(Q:VK)(b:XK):Prop
 |mk(d:η)(p:aL)(f:ρ)(c:List Int)(s:Sk)(a:Int)(u:V)(_:e=[u,.ref d])(_:H d=δ (.tup (p.map rz)))(_:p.length+n<=100)(_:i6 H f c s a u)(_:s.ok μ)(_:s.dep < n)(_:s.size<=1000)(_:∀(r:η) (xs:List V) (H':Hp),H r=θ->H' r=δ (.lst xs)->bu gQ H' ((s.ws p 0).map (·.1)) xs->aa H H'->Q (.ref r) H')
inductive LW(h j:η)(p:aL)(u:V)(s:Sk)(H:Hp)(i:Nat)(l:_L.St)(a:Hp):Prop
 |mk(f g:Option V)(k:List V)(b:l=[δ u,↑h,↑j,f,g])(c:a j=δ (.lst k))(d:bu gQ a ((eG (s.steps.take i) p 0).map (·.1)) k)(e:aa H a)
inductive h9(n:Nat)(t:List V)(H:Hp)(Q:VK)(a:XK):Prop
 |mk(D:DF)(z k s h g m c l b:η)(p o:aL)(f:ρ)(i j:List Int)(q r:Sk)(d e:Int)(y:Ly)(_:t=[.ref c,.ref b,.ref m,.ref l,.ref z])(_:Lt H z k s h g y)(_:H m=δ (.tup (p.map rz)))(_:H l=δ (.tup (o.map rz)))(_:p.length+n<=49)(_:o.length+n<=49)(_:i6 H f i q d (.ref c))(_:q.ok μ)(_:q.dep<=15)(_:q.size<=1000)(_:i6 H f j r e (.ref b))(_:r.ok μ)(_:r.dep < n)(_:r.dep<=15)(_:r.size<=1000)(_:Dt D f q)(_:Dt D f r)(_:(y.app (mV r p q.steps 0 o 0)).tot<=100000)(_:∀H',Lt H' z k s h g (y.app (mV r p q.steps 0 o 0))->a6 k s h g H H'->Q .non H')
inductive LX(D:DF)(z B P A n J c C b:η)(M L:aL)(f:ρ)(K:List aO)(O:List V)(N:Sk)(k:Ly)(H:Hp)(i:Nat)(Q:_L.St)(l:Hp):Prop
 |mk(E F G I d e g h j:Option V)(m:Nat)(a:Sk)(y:Ly)(o:Q=[↑c,↑b,↑J,↑C,↑z,δ (.int (m:Int)),E,F,G,I,d,e,g,h,j])(p:Lt l z B P A n y)(q:dD l a .non (O.drop i))(r:a.ok μ)(s:a.dep<=N.dep)(t:a.size<=N.size)(u:Dt D f a)(v:m<=K.length)(w:y.app (mV a M K m L i)=k)(x:a6 B P A n H l)
noncomputable def dq(l:List Nat):List V:=l.map λ(j:Nat)=>rz (j:Int)
theorem HW:ai ["_law_step"] ["_law_step"] (ae EL):=bN
theorem DY(F:tf K "_law_found" EL f l):ah P w K mg base aE 1 f l ["_law_step"] nK:=by
 refine F.ok HW λC A o s H v Q E t h=>?_
 let⟨p,h,n,u,w,rfl,b,i,d,q⟩:=h;refine#[_,(jd (jy (jW$ jv$ ju jF (pv 0) jf (λ_ _=>Z)) (jg$ jm$ jv$ ju jF (ju jF (pv 0) jf (λ_ _=>Z)) jf (λ_ _=>Z)) jo)$ jg$ jm$ jv$ pv 0),?_];cases w with
 |nil |st _ _ _ _=>exact d.elim
 |ask _ |rd _ _ |wr _ _=>let⟨x,rfl,G⟩:=i;refine aj λm j=>(jp b dP #[x,_,_,_,Z,Z,aB.of G,eQ,Z,_,Z,aT VX$ j _ _ ?_]);exact(jp b dP q)
 |cl f I s a=>let⟨x,c,g,e,S,rfl,G,r,_⟩:=i;exact aj λm j=>(jp b dP #[x,_,_,_,Z,Z,aB.of G,eQ,Z,_,Z,cn VX$ jp b dP #[x,_,_,_,Z,Z,aB.of G,io,c,_,_,_,Z,Z,aB.of r,IN,q]])
theorem pw:ai ["_law_chain","_law_at","_law_found_here","_law_k","_law_step"] z14z (ae AM):=bN
theorem DL(F:tf K "_law_all_in" AM f fd)(cS:Cl P w K mg base (n+1) fS f0 z14z (fQ n) "_law_all_in")(m0:mg "enumerate"=θ):ah P w K mg base aE (n+2) f fd z14z (fQ$ n+1):=by
 refine F.ok pw λc0 A o1 s H vs Q E hr h=>?_
 let⟨M,p,f,is,s,a,u,rfl,hp,h',hc,d,hd,hz,q⟩:=h;refine#[_,(jd (jB 2 pw.nd$ jK jc)$ jd (jU Nu Z (Jm Z m0$ ja (jv$ pv 0) jc) (zz (n:=2) Z$ jE (jr (i:=3) pw.nd Z$ ω Z)$ jE (jr (i:=4) pw.nd Z$ ω Z) kH)$ jd (jH$ j8 M' Nt Nr jR (pv 2)$ ja (jx ki (pv 1)$ jl$ ja (pv 3) jc) jc)$ jg$ jy (jW$ jv$ ju jF (pv 4) jf (λ_ _=>Z)) (jg$ jH$ j8 M' Oi Oh zw (pv 2)$ ja (cS.e hr.m$ ja (jv$ ju jF (pv 4) jf (λ_ _=>Z))$ ja (jx ki (pv 1)$ jl$ ja (pv 3) jc) jc) jc) jo)$ jg$ jm$ pv 2),?_];let b1:=aJ;let⟨c,g,e,ss,rfl,h1,h2,h3,h4⟩:=hc;let lt:=zr d h4;let fl:=za d p 0;rw[zC d]at fl;refine aj λF1 B=>#[fj,λT N=>B _ _ ?_];clear B;let s1:aa H (af H T$ .lst []):=je N;refine aj λF1 B=>dj λJ j=>(jp (s1 _ _ h1) dP #[e,Z,#[_,aB.of$ s1 _ _ h3],j _ _ ?_]);clear j;refine qj (K:=K) (xs:=ss) (LW M T p (.ref c) s H) #[θ,θ,[],Z,jb,Z,s1] (λi σ Hx _ h=>?_) ?_ (λσ Hx h=>B _ _ ?_)
 .let⟨_,_,_,_,_,_,W⟩:=h;exact aB.of$ W _ _ h3
 .intro E hE i x X σ H7 hx np Y Gq U h;clear B;let⟨o3,o4,xs,rfl,w1,w2,W⟩:=h;let s8:aa H7 (af H7 X$ .tup [.int i,x]):=je np;let e8:af H7 X (.tup [.int i,x]) X=δ (.tup [.int i,x]):=jb;refine U ?_;clear U;generalize af H7 X (.tup [.int i,x])=H8 at s8 e8 ⊢;let S8:=W.trans s8;let⟨n1,h6,w,q,hh,u,ht,O,d0,s0,rfl,h0,a0,hw⟩:=qt d (h4.mono$ aa.tm S8) hx;refine#[X,_,Z,aB.of e8,Z,_,_,Z,_,_,Z,Z,?_];let h7:i < s.steps.length:=(ν.mp ht).1;let et:s.steps.take (i+1)=s.steps.take i++[(n1,h6,w)]:=by rw[N0,ht];rfl
  let eb:(eG (s.steps.take$ i+1) p 0).map (·.1)=(eG (s.steps.take i) p 0).map (·.1)++cg (p++[(i:Int)]) w:=by rw[et,zL,Nl,Nq,Pm$ OT h7,Pa,KA];show _++(_++[])=_;rw[Nx]
  let bl:=QY s.steps (i+1) p 0;let b0:=Od ri eb;rw[MZ,MY,qx O]at b0;let lx:=w2.len;rw[fl]at bl;show cy _ _ E [↑c,↑M,↑T,δ$ .int i,↑q] H8;refine aj λF1 B=>#[_,Z,.inl #[Z,_,aI.of$ s8 _ _ w1],_,Z,_,Z,iZ,λt nt=>#[M,t,_,_,Z,Z,am (S8 _ _ hp) nt,jb,by rw[MY];show _+1<=_;omega,λR C e9 s9=>?_]];let S9:aa H8 C:=(je (o:=.tup [.int i]) nt).trans s9;let e9:C R=δ (.tup$ p.map rz++[.int (i:Int)]):=e9;rw[lR]at e9;let w9:=S9 _ _ (s8 _ _ w1);refine#[T,xs,_,Z,Z,w9,VV,B _ _ ?_];clear B;let G:ax C (af C T$ .lst$ xs++[.ref R]):=z9 w9;let k:af C T (.lst$ xs++[.ref R]) T=δ (.lst$ xs++[.ref R]):=jb;let k0:∀b o,b≠T->C b=δ o->af C T (.lst$ xs++[.ref R]) b=δ o:=λb o nb e=>by rw[jh nb];exact e
  generalize af C T (.lst$ xs++[.ref R])=v at G k k0;let r:ax H8 v:=(aa.tm S9).trans G;let I:aa H v:=λb o e=>k0 _ _ (ji e N) (S9 _ _$ S8 _ _ e);let x0:bu gQ v ((eG (s.steps.take i) p 0).map (·.1)++[p++[(i:Int)]]) (xs++[.ref R]):=bu.app (bu.one #[R,Z,G _ _ e9]) (((w2.mono cq$ aa.tm s8).mono cq r));let⟨p3,v3,r3,eu,h8,h5⟩:=Jg O (hw.mono r);subst eu;refine lH λG1 yT yF=>(jp (r _ _ h0) dP #[p3,_,_,_,Z,Z,aB.of h8,eQ,Z,_,Z,?_]);rw[qC];by_cases hv:v3="call"
  .let⟨g',L,D,a',rfl⟩:=h5.mp hv;rw[M9 hv];let⟨x1,c1,g1,e1,s2,e2,k1,k2,k3,k4,k5⟩:=hw.mono r;cases e2;let d0:D.dep+1<=s.dep:=d0;let s0:D.size+1<=s.size:=s0;refine yT _ #[_,Z,.inl #[Z,_,aI.of k],jp (r _ _ h0) dP #[p3,_,_,_,Z,Z,aB.of k1,io,_,Z,_,Z,iZ,λt2 n0=>#[M,t2,_,_,Z,Z,am (I _ _ hp) n0,jb,by rw[MY];show _+1<=_;omega,λr0 H0 y s3=>?_]]];let S:aa v H0:=(je (o:=.tup [.int i]) n0).trans s3;let y:H0 r0=δ (.tup$ p.map rz++[.int (i:Int)]):=y;rw[lR]at y;refine#[r0,_,g',L,D,a',.ref c1,Z,y,by rw[MZ];show _+1+_<=_;omega,#[c1,g1,e1,s2,Z,S _ _ k2,S _ _ k3,S _ _ k4,k5.mono$ aa.tm S],O,VV,VV,λl zs H1 nl hl hz s4=>?_];let z:=S.trans s4;let lz:=hz.len;rw[MY,za (show D.ok μ from O)]at lz;let ez:(xs++[sn R]).length=xs.length+1:=by rw[MZ];rfl
   let s5:(Sk.cl g' L D a').size=D.size:=rfl;refine#[T,l,_,_,Z,Z,z _ _ k,hl,VV,Y _ _ #[_,_,_,Z,jb,?_,λb o e=>?_]]
   .rw[eb];let t0:ax H1 (af H1 T$ .lst$ xs++[.ref R]++zs):=z9 (z _ _ k);let e0:cg (p++[(i:Int)]) (.cl g' L D a')=[p++[(i:Int)]]++(D.ws (p++[(i:Int)]) 0).map (·.1):=rfl;rw[e0,<- OB];exact(bu.app hz$ x0.mono cq$ aa.tm z).mono cq t0
   .rw[jh$ ji e N];exact z _ _$ I _ _ e
  .rw[M5 hv];refine yF _$ Y _ _ #[_,_,_,Z,k,?_,I];rw[eb];let e0:cg (p++[(i:Int)]) w=[p++[(i:Int)]]:=by
    cases w with
    |nil |st _ _ _ _=>exact O.elim
    |cl f is s a=>exact absurd (h5.mpr #[f,is,s,a,Z]) hv
    |_=>rfl
   rw[e0];exact x0
 .let⟨o3,o4,xs,rfl,w1,w2,W⟩:=h;rw[lt,NJ,<- zC d]at w2;exact#[_,Z,q T xs Hx N w1 w2 W]
theorem DC:ah P w K mg base aE k f c z14z (fQ 0):=by
 let n:∀{v H Q E},¬fQ 0 v H Q E:=by rintro v H Q E ⟨d,p,f,i,s,a,u,_,_,_,_,_,z,_⟩;omega
 exact#[λv H Q E h=>(n h).elim,λA o s H b U v Q E e g j l h=>(n h).elim]
theorem Gg(F:tf K "_law_all_in" AM f a)(b:aC K a z14z [])(M:mg "_law_all_in"=↑f)(m:mg "enumerate"=θ):∀n,ah P w K mg base aE (n+1) f a z14z (fQ n)
 |0=>DC
 |n+1=>DL F #[(Gg F b M m n),b,F.kp,M] m
noncomputable def lW(os:List aO)(m:Nat)(n:Int)(h:List Int)(w:Sk):List Nat:=if cR (aS n h) os m=[] then (match w with
 | .cl f i _ _=>cR (cV f i) os m
 |_=>[]) else []
theorem JK(os:List aO)(m:Nat)(n:Int)(h:List Int)(w:Sk):(cR (aS n h) os m++lW os m n h w).head?=fo os m n h w:=by
 let H:=X1 (aS n h) os m;unfold fo lW;cases e:cR (aS n h) os m with
 |cons j r=>rw[e]at H;rw[<- H];rfl
 |nil=>
  rw[e]at H;rw[<- H,M7 Z];show(match w with | .cl f i _ _=>cR (cV f i) os m |_=>[]).head?=lJ os m w;cases w with
  |cl f i s a=>exact X1 (cV f i) os m
  |_=>rfl
theorem Iy(l:List Nat):l.take 1=match l.head? with |some j=>[j] |none=>[]:=by cases l<;>rfl
theorem yP(os:List aO)(m:Nat)(n:Int)(h:List Int)(w:Sk):(lW os m n h w).length<=os.length:=by
 unfold lW;split
 .split
  .exact Xf _ _ _
  .exact M6 _
 .exact M6 _
theorem Gs(l:List Nat):aW (dq l) θ (δ 1)=dq (l.take 1):=by
 unfold aW dq;let e:HT.sIx (l.map λ(j:Nat)=>rz (j:Int)).length 0 θ=0:=rfl;rw[e,OU,PV,RM];cases l with
 |nil=>simp
 |cons a r=>
  let E:HT.sIx ((a::r).map λ(j:Nat)=>rz (j:Int)).length ((a::r).map λ(j:Nat)=>rz (j:Int)).length (δ 1)=1:=by unfold HT.sIx;simp
  rw[E]
theorem X4(l:List Nat):(dq l).isEmpty=l.isEmpty:=by cases l<;>rfl
theorem Xg(a b:List Nat):dq a++dq b=dq (a++b):=by unfold dq;rw[Nl]
theorem Kf(l:List Nat):(dq l).length=l.length:=MY _
theorem Xx{H:Hp}{s:Sk}{S:List V}{j:Nat}{o:aO}(O:s.ok μ)(h:dD H s .non S)(a:s.steps[j]?=δ o):∃p h u,S[j]?=↑p/\H p=δ (.tup [.int o.1,.ref h,u])/\H h=δ (.tup$ o.2.1.map rz)/\dD H o.2.2 u []/\o.2.2.ok ξ/\o.2.2.dep<=s.dep/\o.2.2.size+1<=s.size:=by let l:=zr O h;let k:=(ν.mp a).1;obtain⟨x,b⟩:∃x,S[j]?=δ x:=#[_,MV VV];let⟨n,m,w,p,c,u,t,T,d,e,rfl,f,g,i⟩:=qt O h b;rw[a]at t;cases t;exact#[p,c,u,b,f,g,i,T,d,e]
theorem CV{w:Sk}(o:w.ok ξ)(h:dD H w u []):∃p v r,u= .ref p/\H p=δ (.tup (.str v::r))/\∀n c,decide (v="call")=eW (n,c,w):=by
 let⟨p,v,r,e,g,d⟩:=Jg o h;refine#[p,v,r,e,g,λn c=>?_];by_cases b:v="call"
 .let⟨f,i,s,a,rfl⟩:=d.mp b;rw[M9 b];rfl
 .rw[M5 b];cases w with
  |cl f i s a=>exact absurd (d.mpr #[f,i,s,a,Z]) b
  |_=>rfl
theorem yO{j i:List Int}:gi (aA [aK g,aA$ j.map aq]) (aA [aK f,aA$ i.map aq])=cV f i (n,H,.cl g j s a):=by
 by_cases h:g=f/\j=i
 .rw[h.1,h.2,zn Z];exact(M9 #[Z,Z]).symm
 .rw[zf]
  .exact(M5 h).symm
  intro e;let e:Tr.tp (.cons (aK g)$ .cons (aA$ j.map aq) .nil)= .tp (.cons (aK f)$ .cons (aA$ i.map aq) .nil):=e;injection e with e;injection e with A c;injection c with b _;injection A with A;injection A with A;let b:Tr.tp (ay$ j.map aq)= .tp (ay$ i.map aq):=b;injection b with b;exact h #[A,qy b]
theorem Cc(f:ρ)(i:List Int):(ay [aK f,aA$ i.map aq]).In:=#[Z,kX i,trivial]
theorem DB(f:ρ)(i:List Int):(ay [aK f,aA$ i.map aq]).dep < 10:=by let h:=kC i;show max 0 (max ((ay$ i.map aq).dep+1) 0) < 10;omega
theorem uH{P:aO->Bool}{os:List aO}(b:os[m+i]?=δ o)(h:a++dq (cR P os$ m+i)=dq (cR P os m)):(P o=μ->(a++[.int ((m:Int)+(i:Int))])++dq (cR P os$ m+(i+1))=dq (cR P os m))/\(P o=ξ->a++dq (cR P os$ m+(i+1))=dq (cR P os m)):=by
 rw[Kt b]at h;let e:(m:Int)+(i:Int)=((m+i:Nat):Int):=by omega
 refine#[λH=>?_,λH=>?_]
 .rw[M7 H]at h;rw[<- h,e,OB];rfl
 .rw[Na (by rw[H];intro z;cases z)]at h;exact h
theorem ZQ{P:aO->Bool}{os:List aO}(h:os[j]?=δ o)(H:P o=μ):∀(d m:Nat),j=m+d->j∈cR P os m
 |0,m,e=>by let e:j=m:=e;subst e;rw[Kt h,M7 H];exact No
 |d+1,m,e=>by
  let b:=(ν.mp h).1;let a:m < os.length:=by omega
  rw[Kt$ MV a];let i:=ZQ h H d (m+1) VV;split
  .exact Nv _ i
  .exact i
theorem ZR(P:aO->Bool):∀(k:Nat) (os:List aO),∀j∈gW P k os,∃i s,j=k+i/\os[i]?=δ s/\P s=μ
 |_,[],_,h=>nomatch h
 |k,s::r,j,h=>by
  let h:j∈(if P s=μ then k::gW P (k+1) r else gW P (k+1) r):=h;let g:j∈gW P (k+1) r->∃i S,j=k+i/\(s::r)[i]?=δ S/\P S=μ:=λz=>by let⟨i,S,e,a,b⟩:=ZR P (k+1) r j z;exact#[i+1,S,VV,by simpa using a,b]
  by_cases H:P s=μ
  .rw[M7 H]at h;rcases Φ.mp h with rfl |h
   .exact#[0,s,Z,Z,H]
   .exact g h
  .rw[Na H]at h;exact g h
theorem Yz{P:aO->Bool}{os:List aO}{m j:Nat}(h:j∈cR P os m):m<=j/\∃s,os[j]?=δ s/\P s=μ:=by let⟨i,s,e,H,a⟩:=ZR P m _ j h;rw[P']at H;exact#[VV,s,by rw[e];exact H,a]
noncomputable def x9(os:List aO)(m:Nat)(n:Int)(h:List Int)(w:Sk)(p a:aL)(k:Nat):Ly:=match cR (aS n h) os m with
 | []=>#[[],[],[a++[(k:Int)]],[]]
 |j::_=>match os[j]? with
  |some o=>if o.2.2.fnd=w.fnd then #[[(p++[(j:Int)],a++[(k:Int)])],[],[],[p++[(j:Int)]]] else #[[],[(p++[(j:Int)],a++[(k:Int)])],[],[p++[(j:Int)]]]
  |none=>.nil
theorem tJ{os:List aO}{w:Sk}{po pn:aL}{k:Nat}(h:fo os m n H w=δ j)(b:os[j]?=δ o):x9 os m n H w po pn k=vv (po++[(j:Int)]) o (pn++[(k:Int)]) n H w:=by
 let a:=JK os m n H w;rw[h]at a;let⟨d,_⟩:=ze h;unfold x9 vv;cases e:cR (aS n H) os m with
 |cons J r=>rw[e]at a;injection a with a;subst a;let⟨_,s,c,f⟩:=Yz (P:=aS n H) (os:=os) (m:=m) (j:=J) (by rw[e];exact No);rw[b]at c;cases c;rw[M7 f];dsimp only;rw[b]
 |nil=>rw[Na];intro g;let:=ZQ b g (j - m) m VV;rw[e]at this;cases this
theorem tI{os:List aO}{w:Sk}(h:fo os m n H w=θ):x9 os m n H w b p k=#[[],[],[p++[(k:Int)]],[]]:=by
 let a:=JK os m n H w;rw[h]at a;unfold x9;cases e:cR (aS n H) os m with
 |cons j r=>rw[e]at a;cases a
 |nil=>rfl
theorem yq(os:List aO)(m:Nat)(n:Int)(h:List Int)(w:Sk)(p a:aL)(k:Nat):(x9 os m n h w p a k).tot<=2:=by
 unfold x9;split
 .exact NW 1
 .split
  .split
   .exact M0 2
   .exact M0 2
  .exact M6 2
theorem ut{W b:Sk}(o:W.ok ξ)(O:b.ok ξ)(E:dI W=dI b)(I:dD c W u [])(j:dD c b U [])(G:V->Hp->Prop)(h:G (.bl (!decide (W.fnd=b.fnd))) c):(Lz Mr$ Ey 10) (Cb W u) (Cb b U) c G:=by
 let⟨F,k⟩:=Dc o O E;by_cases H:W.fnd=b.fnd
 .rw[M9 H]at h;rcases F H with ⟨f,i,S,A,s,a,rfl,rfl,e⟩ | ⟨rfl,n⟩
  .refine .inl #[Z,?_];rw[show decide (Cb (.cl f i S A) u=Cb (.cl f i s a) U)=μ from M9 (by show rz A=rz a;rw[e])];exact h
  .let⟨l,m,dl,g⟩:=wY o n;rw[uQ n,uQ n];let T:=JO o I (λ_=>Z) (λz=>nomatch z);let t:=JO o j (λ_=>Z) (λz=>nomatch z);rw[m]at T t;refine .inr #[l,l,dl,g,g,T,t,?_];rw[zn Z];exact h
 .rw[M5 H]at h;rcases k H with ⟨f,i,S,A,s,a,rfl,rfl,e⟩ | ⟨C,p,d,rfl,rfl,e⟩
  .refine .inl #[Z,?_];rw[show decide (Cb (.cl f i S A) u=Cb (.cl f i s a) U)=ξ from M5 λz=>e (by injection z)];exact h
  .let T:=JO o I (λ_=>Z) (λz=>nomatch z);let t:=JO O j (λ_=>Z) (λz=>nomatch z);refine .inr #[ay [aK "read",aq C,aq p],ay [aK "read",aq C,aq d],by show max 0 (max 0$ max 0 0) < 10;decide,#[Z,Z,Z,trivial],#[Z,Z,Z,trivial],T,t,?_];rw[zf]
   .exact h
   intro z;injection z with z;injection z with _ z;injection z with _ z;injection z with z _;injection z with z;injection z with z;exact e z
theorem L4.new(h:L4 H o r k t f d y)(n:H x=θ):x≠k/\x≠t/\x≠f/\x≠d:=by let⟨_,a,_⟩:=h.kv;let⟨_,b,_⟩:=h.tv;let⟨_,c,_⟩:=h.fv;let⟨_,e,_⟩:=h.dv;exact#[(ji a n).symm,(ji b n).symm,(ji c n).symm,(ji e n).symm]
theorem a6.kept(b:a6 k t f d H a)(n:x≠k/\x≠t/\x≠f/\x≠d)(h:H x=δ o):a x=δ o:=b _ _ n.1 n.2.1 n.2.2.1 n.2.2.2 h
theorem kN(s:aa H h)(n:h x=θ):H x=θ:=by
 cases z:H x with
 |none=>rfl
 |some o=>rw[s _ _ z]at n;cases n
def L9(os:List aO)(m i:Nat)(P:aO->Bool)(H:Hp)(z:List V)(h:Hp):Prop:=aa H h/\z.length<=i/\z++dq (cR P os$ m+i)=dq (cR P os m)
theorem dS:ai z36z z16z (ae su):=bN
noncomputable def sJ:ir:=#[.function,[(".0",.local),("_law_j",.local),("_law_old",.free),("_law_step",.free)],ξ,ξ,[]]
theorem uV:(z28z:List ρ).Nodup:=by decide+kernel
theorem tM:be z36z (ae su) sJ z28z 1 [0,7]:=oR
noncomputable def sK:ir:=#[.function,[(".0",.local),("_law_j",.local),("_law_old",.free)],ξ,ξ,[]]
theorem Dx:(["_law_j","_law_old"]:List ρ).Nodup:=by decide+kernel
theorem CW:be z36z (ae su) sK ["_law_j","_law_old"] 1 [0]:=oR
theorem DP(F:tf K "_law_beside" su f fd)(cF:Cl P w K mg base 1 fF m2 ["_law_step"] nK "_law_found")(cW:Cl P w K mg base 18 fW m3 z14z (fQ 17) "_law_all_in")(cS:Cl P w K mg base (n+20) fS m4 z16z (h9 n) "_law_beside")(m0:mg "enumerate"=θ)(ml:mg "len"=θ)(mr:mg "range"=θ)(mi:mg "int"=θ):ah P w K mg base aE (n+21) f fd z16z (h9$ n+1):=by
 refine F.ok dS λm5 A o' s H vs Q E hr h=>?_
 let⟨D,z,kA,tA,fA,dA,oa,c,na,b,po,pn,f,is,js,S,s1,a0,a1,y,rfl,hL,a',d3,m6,m7,d4,o1,m8,m9,d5,d6,m',m1,h6,D0,D1,b9,q⟩:=h;refine#[_,(jd (jB 5 dS.nd jf)$ jg$ jU Nu Z (Jm Z m0$ ja (jv$ pv 1) jc) (zz (n:=2) Z$ jE (jr (i:=6) dS.nd Z$ ω Z)$ jE (jr (i:=7) dS.nd Z$ ge Z) kH)$ jd (jB 8 dS.nd$ jx ki (pv 3)$ jl$ ja (pv 6) jc)$ jd (@qe _ _ _ _ _ _ _ _ _ _ (10) (z28z) (1) ([0,7]) _ _ _ _ dS.nd Z (ω Z) Z (zW Z mr$ ja (pv 5)$ ja (jN jI Z ml NO$ ja (jv$ pv 0) jc) jc) tM (λ_ _ _ _ _=>(jr (i:=0) uV Z$ ω Z)) (λ_ _ _ _ _=>(@JC _ _ _$ jz (Kr (d:=10)$ lG hr) (jM kc (ju (r:=cw K) (kL (K:=K) Z) (ju (r:=cw K) (kL (K:=K) Z) (pv 1) jf (λ_ _=>Z)) (pv 0) (λ_ _=>Z)) jV$ jL jf) (jM kc (pv 2) jV$ jL jf)$ aF _)) (λ_ _ _ _ _=>(pv 0)) VY (by first |exact .inl Z |exact .inr Z) (by intro _;rfl))$ jd (jB 11 dS.nd$ jK jc)$ jd (jy (PW.pt$ qL (jz (Yy$ PJ$ zI hr) (pv 10) (jK jc)$ aF _)$ qd$ jW$ jv$ ju jF (pv 7) jf (λ_ _=>Z)) (jd (@qe _ _ _ _ _ _ _ _ _ _ (12) (["_law_j","_law_old"]) (1) ([0]) _ _ _ _ dS.nd Z (ω Z) Z (zW Z mr$ ja (pv 5)$ ja (jN jI Z ml NO$ ja (jv$ pv 0) jc) jc) CW (λ_ _ _ _ _=>(jr (i:=0) Dx Z$ ω Z)) (λ_ _ _ _ _=>(@JC _ _ _$ jz qW (ju (r:=cw K) (kL (K:=K) Z) (ju (r:=cw K) (kL (K:=K) Z) (ju (r:=cw K) (kL (K:=K) Z) (ju (r:=cw K) (kL (K:=K) Z) (pv 1) jf (λ_ _=>Z)) (pv 0) (λ_ _=>Z)) jf (λ_ _=>Z)) jf (λ_ _=>Z)) jw$ aF _)) (λ_ _ _ _ _=>(pv 0)) VY (by first |exact .inl Z |exact .inr Z) (by intro _;rfl))$ jg$ @qe _ _ _ _ _ _ _ _ _ _ (11) (z28z) (1) ([0,7]) _ _ _ _ dS.nd Z (ω Z) Z (zc$ pv 12) tM (λ_ _ _ _ _=>(jr (i:=0) uV Z$ ω Z)) (λ_ _ _ _ _=>(@JC _ _ _$ jz (Kr (d:=10)$ lG hr) (jM kc (ju (r:=cw K) (kL (K:=K) Z) (ju (r:=cw K) (kL (K:=K) Z) (ju (r:=cw K) (kL (K:=K) Z) (ju (r:=cw K) (kL (K:=K) Z) (pv 1) jf (λ_ _=>Z)) (pv 0) (λ_ _=>Z)) jf (λ_ _=>Z)) jf (λ_ _=>Z)) jV$ jL jf) (jM kc (ju (r:=cw K) (kL (K:=K) Z) (ju (r:=cw K) (kL (K:=K) Z) (pv 2) jf (λ_ _=>Z)) jf (λ_ _=>Z)) jV$ jL jf)$ aF _)) (λ_ _ _ _ _=>(pv 0)) VY (by first |exact .inl Z |exact .inr Z) (by intro _;rfl)) jo)$ jd (jy (jz (Yy$ PJ$ zI hr) (pv 10) (jK jc)$ aF _) (jg$ jH$ j8 M' Nt Nr jR (jv$ pv 4)$ ja (pv 8) jc)$ jd (jB 13 dS.nd$ jl$ ja (jx ki (pv 2)$ jl$ ja (ju jD (pv 10) jf (λ_ _=>Z)) jc)$ ja (pv 8) jc)$ jd (jH$ j8 M' Nt Nr jR (ju jF (pv 4) (jJ JI Z mi VO$ ja (qZ (vC Xs$ vA (d:=10)$ lG hr) (cF.e hr.m$ ja (ju jF (jv$ pv 0) (ju jD (pv 10) jf (λ_ _=>Z)) (λ_ _=>Z)) jc) (cF.e hr.m$ ja (pv 7) jc)$ aF _) jc) (λ_ _=>Z))$ ja (pv 13) jc)$ jg$ jH$ j8 M' Nt Nr jR (jv$ pv 4)$ ja (jv$ pv 13) jc)$ jd (jB 14 dS.nd$ jM zo (jx qN (pv 10)$ pv 11) jV$ jL jf)$ jd (jU Nu Z (zc$ pv 14) (jr (i:=9) dS.nd Z$ ω Z)$ jd (jB 5 dS.nd$ jx jX (pv 9) jf)$ jg$ jy (jW$ jv$ ju jF (pv 7) jf (λ_ _=>Z)) (jg$ jH$ cS.e hr.m$ ja (ju jF (jv$ ju jF (ju jF (pv 0) jf (λ_ _=>Z)) (pv 9) (λ_ _=>Z)) jf (λ_ _=>Z))$ ja (jv$ ju jF (pv 7) jf (λ_ _=>Z))$ ja (jx ki (pv 2)$ jl$ ja (pv 9) jc)$ ja (pv 8)$ ja (pv 4) jc) jo)$ jg$ jy (PW.pt$ qL (jz (Yy$ PJ$ zI hr) (pv 14) (jK jc)$ aF _)$ qd$ jW$ jv$ ju jF (pv 7) jf (λ_ _=>Z)) (jg$ jH$ j8 M' Oi Oh zw (jv$ pv 4)$ ja (cW.e hr.m$ ja (jv$ ju jF (pv 7) jf (λ_ _=>Z))$ ja (pv 8) jc) jc) jo),?_];let p0:=aJ;let⟨_,g0,e0,s8,d7,h1,h2,h3,h4⟩:=id d4;cases d7;let⟨_,g1,e1,s',d8,k1,k2,k3,k4⟩:=id d5;cases d8;let p1:=zr o1 h4;let p2:=qr o1 h4;refine aj λF1 v=>v _ _ ?_;clear v;refine dj λJ jj=>(jp k1 dP #[e1,Z,#[_,aB.of k3],jj _ _ ?_]);clear jj;refine qj (K:=K) (xs:=s') (LX D z kA tA fA dA oa c na b po pn f S.steps s' s1 (y.app$ mV s1 po S.steps 0 pn 0) H) #[θ,θ,θ,θ,θ,θ,θ,θ,θ,0,s1,y,Z,hL,k4,d6,M0 _,M0 _,D1,M6 _,Z,λ_ _ _ _ _ _ e=>e] (λk σ Hx _ h=>?_) ?_ (λσ Hx h=>?_)
 .let⟨_,_,_,_,_,_,_,_,_,_,_,_,_,_,_,_,_,_,_,_,_,b7⟩:=h;exact aB.of$ hL.tm b7 _ _ k3
 .intro E rt k x pp σ H4 d' f5 fE Gq kq h;let⟨o6,o7,o8,o9,o4,o5,O,C,o2,m,r2,y4,rfl,L4,w2,w3,w4,w5,w6,w7,w8,b4⟩:=h;let s5:aa H4 (af H4 pp$ .tup [.int k,x]):=je f5;let e5:af H4 pp (.tup [.int k,x]) pp=δ (.tup [.int k,x]):=jb;refine kq ?_;clear kq;generalize af H4 pp (.tup [.int k,x])=H5 at s5 e5 ⊢;let b5:=b4.trans (a6.of_same s5);let b':=hL.tm b5;let L5:=L4.same s5;refine#[pp,_,Z,aB.of e5,Z,_,_,Z,_,_,Z,Z,?_];rw[ZL d']at w2;let w2:=w2.mono (aa.tm s5);cases r2 with
  |nil=>exact nomatch (show _::_=[] from w2)
  |ask _ |rd _ _ |wr _ _ |cl _ _ _ _=>exact w3.elim
  |st N p w r1=>
   let⟨p',h',u',y8,ex,i1,i2,i3,i4⟩:=w2;injection ex with ex ey;subst ex;subst ey;let d0:w.dep<=s1.dep:=Ng (Pn _ _) w4;let d2:r1.dep<=s1.dep:=Ng (Pb _ _) w4;let w5:w.size+r1.size+1<=s1.size:=w5;show cy (fe _ _) (cy _ _) E [↑c,↑b,↑oa,↑na,↑z,δ$ .int (m:Int),δ$ .int k,↑p',o8,o9,o4,o5,O,C,o2] H5;refine aj λF1 v=>#[_,Z,_,Z,iZ,λt nt=>#[na,t,_,_,Z,Z,am (b' _ _ d3) nt,jb,by rw[MY];show _+1<=_;omega,λr9 H9 e9 s9=>v _ _ ?_]];clear v;let S9:aa H5 H9:=(je (o:=.tup [.int k]) nt).trans s9;let e9:H9 r9=δ (.tup$ pn.map rz++[.int (k:Int)]):=e9;rw[lR]at e9;let t6:=hL.tm (b5.trans$ a6.of_same S9);refine aj λF1 v=>#[_,Z,jp (t6 _ _ h1) dP #[e0,_,Z,.inr$ aB.of$ t6 _ _ h3,_,_,Z,#[VV,VV,VV,VV],?_]];refine Jx (lo:=(m:Int)) (n:=((s8.length:Int) - (m:Int)).toNat) (λi B Hx=>L9 S.steps m i (aS N p) H9 B Hx) #[aa.refl _,M0 0,Z] VV (λi B Hx h=>h.2.1) ?_ ?_
   .intro i B Hx hi h;let⟨W,lz,ez⟩:=h;let h8:m+i < S.steps.length:=by omega
    let X:=MV h8;generalize S.steps[m+i]=o at X;let⟨q,hq,uq,q1,q2,q3,_⟩:=Xx o1 (h4.mono$ t6.trans$ aa.tm W) X;let ei:(m:Int)+(i:Int)=((m+i:Nat):Int):=by omega
    let⟨gy,gn⟩:=uH X ez;refine(jp (W _ _$ t6 _ _ h1) dP #[_,Z,e0,_,_,_,Z,Z,aB.of$ W _ _$ t6 _ _ h3,by rw[ei];exact jG q1,_,Z,q,_,Z,q2,λt1 Hy a2 sy=>#[_,Z,_,Z,p',_,Z,sy _ _$ W _ _$ S9 _ _ i1,λt2 Hz h6 sz=>#[_,_,Xa o.1 o.2.1,JG o.1 o.2.1,JG N p,jC (sz _ _ a2)$ jk Z jT$ jk Z (j9$ sz _ _$ sy _ _ q3) jA,jC h6$ jk Z jT$ jk Z (j9$ sz _ _$ sy _ _$ W _ _$ S9 _ _ i2) jA,_,Z,?_]]]);rw[show gi (.tp$ ay [aq o.1,aA$ o.2.1.map aq]) (.tp$ ay [aq N,aA$ p.map aq])=aS N p o from Yu (w:=o.2.2)];let c0:=(W.trans sy).trans sz;cases hb:aS N p o with
    |true=>exact i8 #[_,Z,c0,by rw[MZ];show _+1<=_;omega,gy hb]
    |false=>exact lU #[c0,VV,gn hb]
   intro B HA h sl n5;let⟨sA,_,ez⟩:=h;rw[Ke VV]at ez;let ez:B=dq (cR (aS N p) S.steps m):=by rw[<- ez];exact(Nx _).symm
   subst ez;refine v _ _ ?_;clear v;let sB:aa HA (af HA sl$ .lst$ dq$ cR (aS N p) S.steps m):=je n5;let eB:af HA sl (.lst$ dq$ cR (aS N p) S.steps m) sl=δ (.lst$ dq$ cR (aS N p) S.steps m):=jb;generalize af HA sl (.lst$ dq$ cR (aS N p) S.steps m)=HB at sB eB ⊢;refine aj λF1 v=>#[fj,λlA n6=>v _ _ ?_];clear v;let sC:aa HB (af HB lA$ .lst []):=je n6;let eC:af HB lA (.lst []) lA=δ (.lst []):=jb;generalize af HB lA (.lst [])=HC at sC eC ⊢;let SC:aa H5 HC:=((S9.trans sA).trans sB).trans sC;let eB:=sC _ _ eB;let t':=b'.trans (aa.tm SC);let e9:=sC _ _ (sB _ _$ sA _ _ e9);let n7:H5 lA=θ:=kN ((S9.trans sA).trans sB) n6;let f6:H5 sl=θ:=kN (S9.trans sA) n5;let p4:=Xf (aS N p) S.steps m;let p6:=yP S.steps m N p w;refine aj λF1 v=>?_;suffices g2:∀(l2:η) (O:Option V) (HD:Hp),H5 l2=θ->aa HC HD->HD l2=δ (.lst$ dq$ lW S.steps m N p w)->F1 [↑c,↑b,↑oa,↑na,↑z,δ$ .int (m:Int),δ$ .int k,↑p',↑r9,o9,↑sl,↑l2,O,C,o2] HD by
    clear v;refine#[_,Z,fj,λl0 n0=>#[sl,l0,_,Z,Z,am eB n0,jb,_,Z,?_]];let sD:aa HC (af HC l0$ .lst []):=je n0;generalize af HC l0 (.lst [])=HD at sD ⊢;let SD:=SC.trans sD;rw[X4];cases e2:cR (aS N p) S.steps m with
    |cons j0 r0=>
     refine aT Z$ aT Z$ g2 lA O HD n7 sD ?_;let z:lW S.steps m N p w=[]:=by unfold lW;rw[e2];rfl
     rw[z];exact sD _ _ eC
    |nil=>
     refine cn Z ?_;let⟨p3,v3,r3,eu,h7,h0⟩:=Jg w3.1 (i3.mono$ aa.tm SD);subst eu;refine(jp (SD _ _ i1) dP #[p3,_,_,_,Z,Z,aB.of h7,eQ,Z,_,Z,?_]);rw[qC];by_cases hv:v3="call"
     .refine cn (M9 hv) ?_;let⟨g,L,sw,aw,rfl⟩:=h0.mp hv;let zl:lW S.steps m N p (.cl g L sw aw)=cR (cV g L) S.steps m:=by unfold lW;rw[M7 e2]
      rw[zl]at g2;clear h0;let⟨x1,c1,g4,e4,s3,e3,j1,j2,j3,j4,j5⟩:=i3.mono (aa.tm SD);cases e3;let t0:=t'.trans (aa.tm sD);refine aj λF2 f2=>#[_,Z,jp (t0 _ _ h1) dP #[e0,_,Z,.inr$ aB.of$ t0 _ _ h3,_,_,Z,#[VV,VV,VV,VV],?_]];refine Jx (lo:=(m:Int)) (n:=((s8.length:Int) - (m:Int)).toNat) (λi B Hx=>L9 S.steps m i eW HD B Hx) #[aa.refl _,M0 0,Z] VV (λi B Hx h=>h.2.1) ?_ ?_
      .intro i B Hx hi h;let⟨W,lz,ez⟩:=h;let h8:m+i < S.steps.length:=by omega
       let X:=MV h8;generalize S.steps[m+i]=o at X;let⟨q,hq,uq,q1,q2,q3,q4,q5,_⟩:=Xx o1 (h4.mono$ t0.trans$ aa.tm W) X;let ei:(m:Int)+(i:Int)=((m+i:Nat):Int):=by omega
       let⟨gy,gn⟩:=uH X ez;let⟨p5,v5,r5,eu,f7,f8⟩:=CV q5 q4;subst eu;refine(jp (W _ _$ t0 _ _ h1) dP #[_,Z,e0,_,_,_,Z,Z,aB.of$ W _ _$ t0 _ _ h3,by rw[ei];exact jG q1,q,_,_,_,Z,Z,aB.of q2,dP,p5,_,_,_,Z,Z,aB.of f7,eQ,Z,_,Z,?_]);rw[qC,f8 o.1 o.2.1];cases hb:eW o with
       |true=>exact i8 #[_,Z,W,by rw[MZ];show _+1<=_;omega,gy hb]
       |false=>exact lU #[W,VV,gn hb]
      intro B HE h ca f';let⟨sE,_,ez⟩:=h;rw[Ke VV]at ez;let ez:B=dq (cR eW S.steps m):=by rw[<- ez];exact(Nx _).symm
      subst ez;refine f2 _ _ ?_;clear f2;let sF:aa HE (af HE ca$ .lst$ dq$ cR eW S.steps m):=je f';let eF:af HE ca (.lst$ dq$ cR eW S.steps m) ca=δ (.lst$ dq$ cR eW S.steps m):=jb;generalize af HE ca (.lst$ dq$ cR eW S.steps m)=HF at sF eF ⊢;let SF:=(sD.trans sE).trans sF;let t3:=t'.trans (aa.tm SF);let S6:=SC.trans SF;let p8:=Xf eW S.steps m;refine#[_,Z,ca,Z,#[_,aI.of eF],?_];refine qV (K:=K) (a:=ca) (xs:=dq (cR eW S.steps m)) (by rw[Kf];omega) (λi B Hx=>aa HF Hx/\B.length<=i/\B=dq (((cR eW S.steps m).take i).filter$ BF (cV g L) S.steps)) #[aa.refl _,M0 0,Z] (λi B Hx h=>#[aI.of$ h.1 _ _ eF,h.2.1]) ?_ ?_
      .intro i x B Hx G h;let⟨W,lz,ez⟩:=h;unfold dq at G;rw[Ni]at G;let⟨j,hj,rfl⟩:=dg.mp G;let⟨_,o,X,g7⟩:=Yz (Nc hj);let et:(cR eW S.steps m).take (i+1)=(cR eW S.steps m).take i++[j]:=by rw[N0,hj];rfl
       let⟨q,hq,uq,q1,q2,q3,q4,q5,_⟩:=Xx o1 (h4.mono$ t3.trans$ aa.tm W) X;let⟨no,h5,wo⟩:=o;let q4:dD Hx wo uq []:=q4;let ea:BF (cV g L) S.steps j=cV g L (no,h5,wo):=by unfold BF;rw[X]
       let f0:∀Hz,aa Hx Hz->cV g L (no,h5,wo)=μ->aa HF Hz/\(B++[rz (j:Int)]).length<=i+1/\B++[rz (j:Int)]=dq (((cR eW S.steps m).take$ i+1).filter$ BF (cV g L) S.steps):=λHz sz hb=>by rw[et,Po,<- Xg,<- ez];exact#[W.trans sz,by rw[MZ];show _+1<=_;omega,by rw[Rq (by rw[ea];exact hb)];rfl]
       let f3:∀Hz,aa Hx Hz->cV g L (no,h5,wo)=ξ->aa HF Hz/\B.length<=i+1/\B=dq (((cR eW S.steps m).take$ i+1).filter$ BF (cV g L) S.steps):=λHz sz hb=>by rw[et,Po,<- Xg,<- ez];exact#[W.trans sz,VV,by rw[Rr (by rw[ea,hb];intro z;cases z)];exact(Nx _).symm]
       cases wo with
       |cl g5 l3 c2 a5=>
        let⟨x5,c5,g6,e',c3,rfl,y1,y2,y3,_⟩:=q4;refine(jp (W _ _$ t3 _ _ h1) dP #[_,Z,e0,_,_,_,Z,Z,aB.of$ W _ _$ t3 _ _ h3,jG q1,q,_,_,_,Z,Z,aB.of q2,dP,x5,_,_,_,Z,Z,aB.of y1,io,_,Z,c5,_,Z,y2,λt1 Hy a2 sy=>?_]);let Sy:=(S6.trans W).trans sy;refine(jp (Sy _ _ i1) dP #[p3,_,_,_,Z,Z,aB.of$ sy _ _$ W _ _$ sF _ _$ sE _ _ j1,io,_,Z,c1,_,Z,sy _ _$ W _ _$ sF _ _$ sE _ _ j2,λt2 Hz h6 sz=>#[_,_,DB g5 l3,Cc g5 l3,Cc g L,jC (sz _ _ a2)$ jk Z jS$ jk Z (j9$ sz _ _$ sy _ _ y3) jA,jC h6$ jk Z jS$ jk Z (j9$ sz _ _$ sy _ _$ W _ _$ sF _ _$ sE _ _ j3) jA,_,Z,?_]]);rw[show gi (.tp$ ay [aK g5,aA$ l3.map aq]) (.tp$ ay [aK g,aA$ L.map aq])=cV g L (no,h5,.cl g5 l3 c2 a5) from yO];cases hb:cV g L (no,h5,.cl g5 l3 c2 a5) with
        |true=>exact i8 #[_,Z,f0 Hz (sy.trans sz) hb]
        |false=>exact lU (f3 Hz (sy.trans sz) hb)
       |_=>cases g7
      intro B HG h l2 n';let⟨sG,_,ez⟩:=h;rw[Kf,NJ,KN (λs hs=>G8 s hs) S.steps _ m Z]at ez;subst ez;exact g2 l2 _ _ (kN (S6.trans sG) n') ((SF.trans sG).trans$ je n') jb
     .refine aT (M5 hv)$ g2 lA O HD n7 sD ?_;let z:lW S.steps m N p w=[]:=by
       unfold lW;rw[M7 e2];cases w with
       |cl f is s a=>exact absurd (h0.mpr #[f,is,s,a,Z]) hv
       |_=>rfl
      rw[z];exact sD _ _ eC
   intro l2 O HD n2 sD eD;refine v _ _ ?_;clear v;let SD:=SC.trans sD;let t0:=t'.trans (aa.tm sD);let LD:=L5.same SD;let eS:=sD _ _ eB;let e9:=sD _ _ e9;let bD:=b5.trans (a6.of_same SD);let i':=SD _ _ i1;let p9:=SD _ _ i2;let i0:=i3.mono (aa.tm SD);let g8:=i4.mono (aa.tm SD);clear sA sB sC eC;let tt:=b9;rw[<- w8,Ly.tot_app]at tt;let q0:=yq S.steps m N p w po pn k;refine aj λF1 v=>?_;suffices I:∀(C:Option V) (HE:Hp),Lt HE z kA tA fA dA (y4.app$ x9 S.steps m N p w po pn k)->a6 kA tA fA dA HD HE->F1 [↑c,↑b,↑oa,↑na,↑z,δ$ .int (m:Int),δ$ .int k,↑p',↑r9,o9,↑sl,↑l2,O,C,o2] HE by
    clear v;refine#[_,Z,fj,λl0 n0=>#[sl,l0,_,Z,Z,am eS n0,jb,_,Z,?_]];let s2:aa HD (af HD l0$ .lst []):=je n0;generalize af HD l0 (.lst [])=HE at s2 ⊢;let LE:=LD.same s2;let ty:y4.f.length<=y4.tot/\y4.k.length<=y4.tot/\y4.t.length<=y4.tot/\y4.d.length<=y4.tot:=by unfold Ly.tot;omega
    rw[X4];unfold x9 at I;cases e2:cR (aS N p) S.steps m with
    |nil=>rw[e2]at I;refine cn Z ?_;let⟨xs,G,lx⟩:=LE.fv;let l4:=lx.len;refine(jp LE.ins dP #[.inl #[Z,_,aI.of G],_,Z,fA,_,_,Z,Z,G,VV,?_]);let⟨L3,b3⟩:=LE.setF G (bu.one (R:=gQ) (w:=pn++[(k:Int)]) #[r9,Z,s2 _ _ e9]);exact I C _ L3 ((a6.of_same s2).trans b3)
    |cons j r=>
     let⟨g',o,X,j'⟩:=Yz (P:=aS N p) (os:=S.steps) (m:=m) (j:=j) (by rw[e2];exact No);rw[e2]at I;dsimp only at I;rw[X]at I;dsimp only at I;let⟨l1,l5⟩:=uR j';let⟨d1,_⟩:=Kj D0 X;let dd:dI o.2.2=dI w:=by rw[d1,l1,l5,w6.1]
     let c4:HE sl=δ (.lst (rz (j:Int)::dq r)):=by let z:=s2 _ _ eS;rw[e2]at z;exact z
     refine aT Z ?_;refine aj λF2 f2=>#[_,Z,_,Z,sl,_,_,_,Z,Z,aI.of c4,eQ,iZ,λt nt=>#[oa,t,_,_,Z,Z,am (s2 _ _$ t0 _ _ a') nt,jb,by rw[MY];show _+1<=_;omega,λM H0 T s7=>#[_,Z,cp,λpr k0=>f2 _ _ ?_]]];clear f2;let u:aa HE H0:=(je (o:=.tup [.int (j:Int)]) nt).trans s7;let T:H0 M=δ (.tup$ po.map rz++[.int (j:Int)]):=T;rw[lR]at T;let s4:aa H0 (af H0 pr$ .tup [.ref M,.ref r9]):=je k0;let e6:af H0 pr (.tup [.ref M,.ref r9]) pr=δ (.tup [.ref M,.ref r9]):=jb;generalize af H0 pr (.tup [.ref M,.ref r9])=H1 at s4 e6 ⊢;let U:=(s2.trans u).trans s4;let t4:=t0.trans (aa.tm U);let Y:=LD.same U;let⟨q,hq,uq,q1,q2,q3,q4,q5,_⟩:=Xx o1 (h4.mono t4) X;let rp:mQ H1 (.ref pr) (po++[(j:Int)],pn++[(k:Int)]):=#[pr,M,r9,Z,e6,s4 _ _ T,U _ _ e9];let e7:H1 sl=δ (.lst (rz (j:Int)::dq r)):=s4 _ _ (u _ _ c4);by_cases hf:o.2.2.fnd=w.fnd
     .rw[M7 hf]at I;let⟨xs,G,lx⟩:=Y.kv;let l4:=lx.len;refine aj λF2 f2=>#[_,Z,jp (t4 _ _ h1) dP #[_,Z,sl,_,_,_,Z,Z,aI.of e7,eQ,e0,_,_,_,Z,Z,aB.of$ t4 _ _ h3,jG q1,q,hq,o.1,uq,o.2.2,Z,q2,q4,q5,_,Z,p',h',N,u',w,Z,U _ _ i',i0.mono$ aa.tm U,w3.1,ut q5 w3.1 dd q4 (i0.mono$ aa.tm U) _$ .inr #[_,Eq.refl _,z,_,_,sn kA,Z,Z,aB.of Y.ins,by rw[M9 hf];rfl,.inl #[Z,_,aI.of G],_,Z,kA,_,_,Z,Z,G,VV,f2 _ _ ?_]]];clear f2;let⟨L0,b0⟩:=Y.setK G (bu.one (R:=mQ) rp);let t5:=Y.tm b0;generalize af H1 kA (.lst$ xs++[.ref pr])=H2 at L0 b0 t5 ⊢;let⟨B,hz,lz⟩:=L0.dv;let l6:B.length=y4.d.length:=by rw[lz.len];show(y4.d++[]).length=_;rw[Nx]
      refine(jp L0.ins IN #[.inl #[Z,_,aI.of hz],jp (t5 _ _ e6) eQ #[dA,_,_,Z,Z,hz,VV,?_]]);let⟨L1,b1⟩:=L0.setD hz (bu.one (R:=gQ) (w:=po++[(j:Int)]) #[M,Z,t5 _ _$ s4 _ _ T]);rw[Ly.app_assoc]at L1;exact I _ _ L1 (((a6.of_same U).trans b0).trans b1)
     .rw[Na hf]at I;let⟨xs,G,lx⟩:=Y.tv;let l4:=lx.len;refine aj λF2 f2=>#[_,Z,jp (t4 _ _ h1) dP #[_,Z,sl,_,_,_,Z,Z,aI.of e7,eQ,e0,_,_,_,Z,Z,aB.of$ t4 _ _ h3,jG q1,q,hq,o.1,uq,o.2.2,Z,q2,q4,q5,_,Z,p',h',N,u',w,Z,U _ _ i',i0.mono$ aa.tm U,w3.1,ut q5 w3.1 dd q4 (i0.mono$ aa.tm U) _$ .inr #[_,Eq.refl _,z,_,_,sn tA,Z,Z,aB.of Y.ins,by rw[M5 hf];rfl,.inl #[Z,_,aI.of G],_,Z,tA,_,_,Z,Z,G,VV,f2 _ _ ?_]]];clear f2;let⟨L0,b0⟩:=Y.setT G (bu.one (R:=mQ) rp);let t5:=Y.tm b0;generalize af H1 tA (.lst$ xs++[.ref pr])=H2 at L0 b0 t5 ⊢;let⟨B,hz,lz⟩:=L0.dv;let l6:B.length=y4.d.length:=by rw[lz.len];show(y4.d++[]).length=_;rw[Nx]
      refine(jp L0.ins IN #[.inl #[Z,_,aI.of hz],jp (t5 _ _ e6) eQ #[dA,_,_,Z,Z,hz,VV,?_]]);let⟨L1,b1⟩:=L0.setD hz (bu.one (R:=gQ) (w:=po++[(j:Int)]) #[M,Z,t5 _ _$ s4 _ _ T]);rw[Ly.app_assoc]at L1;exact I _ _ L1 (((a6.of_same U).trans b0).trans b1)
   intro C HE LE bE;refine v _ _ ?_;clear v;let t7:=LD.tm bE;let c6:=t0.trans t7;let nS:=L5.new f6;let k5:=L5.new n2;let eS:=bE.kept nS eS;let eD:=bE.kept k5 eD;let e9:=t7 _ _ e9;let k6:=t7 _ _ i';let k7:=i0.mono t7;let k8:=g8.mono t7;let k9:=bD.trans bE;let q':=(a6.of_same SD).trans bE;let r6:=Kf (cR (aS N p) S.steps m);let r7:=Kf (lW S.steps m N p w);refine aj λF1 v=>#[_,Z,_,Z,sl,l2,_,_,Z,Z,eS,eD,VV,λcA c9=>#[_,Z,cA,_,Z,aI.of jb,λbA n4=>v _ _ ?_]];clear v;let sF:aa HE (af (af HE cA$ .lst$ dq (cR (aS N p) S.steps m)++dq (lW S.steps m N p w)) bA$ .lst$ aW (dq (cR (aS N p) S.steps m)++dq (lW S.steps m N p w)) θ$ δ 1):=(je c9).trans (je n4);let eF:af (af HE cA$ .lst$ dq (cR (aS N p) S.steps m)++dq (lW S.steps m N p w)) bA (.lst$ aW (dq (cR (aS N p) S.steps m)++dq (lW S.steps m N p w)) θ$ δ 1) bA=δ (.lst$ dq ((cR (aS N p) S.steps m++lW S.steps m N p w).take 1)):=by rw[jb,Xg,Gs]
   generalize af (af HE cA$ .lst$ dq (cR (aS N p) S.steps m)++dq (lW S.steps m N p w)) bA (.lst$ aW (dq (cR (aS N p) S.steps m)++dq (lW S.steps m N p w)) θ$ δ 1)=HF at sF eF n4 ⊢;rw[Iy,JK]at eF;let LF:=LE.same sF;let t3:=c6.trans (aa.tm sF);let b2:=k9.trans (a6.of_same sF);let i5:=sF _ _ k6;let a3:=k7.mono (aa.tm sF);let a4:=k8.mono (aa.tm sF);let c':=sF _ _ e9;let⟨p3,v3,r3,eu,h7,h0⟩:=Jg w3.1 a3;subst eu;cases ht:fo S.steps m N p w with
   |none=>
    rw[ht]at eF;let eF:HF bA=δ (.lst []):=eF;rw[tI ht]at LF;rw[X3 ht]at w8;let t8:=tt;rw[X3 ht,Ly.tot_app]at t8;let pl:=qx w3.1 (pn++[(k:Int)]);let z2:(#[[],[],cg (pn++[(k:Int)]) w,[]]:Ly).tot=w.size+1:=by show 0+0+(cg (pn++[(k:Int)]) w).length+0=_;rw[pl];omega
    rw[z2]at t8;refine aj λF1 v=>dj λJ jj=>#[_,Z,bA,Z,#[_,aI.of eF],jj _ _ ?_];clear jj;refine zx (K:=K) (a:=bA) (xs:=[]) (λ_ σ H'=>σ=[↑c,↑b,↑oa,↑na,↑z,δ$ .int (m:Int),δ$ .int k,↑p',↑r9,o9,↑sl,↑l2,O,C,↑bA]/\H'=HF) #[Z,Z] (λi σ H' _ h=>by rw[h.2];exact aI.of eF) (λE2 r4 i x σ H' G=>absurd G VW) (λσ H' h=>v _ _ ?_);clear v;let⟨rfl,rfl⟩:=h;refine lH λG1 yT yF=>#[_,Z,fj,λl0 n0=>#[bA,l0,_,Z,Z,am eF n0,jb,_,Z,?_]];let sG:aa H' (af H' l0$ .lst []):=je n0;generalize af H' l0 (.lst [])=HG at sG ⊢;refine cn Z$ jp (sG _ _ i5) dP #[p3,_,_,_,Z,Z,aB.of$ sG _ _ h7,eQ,Z,_,Z,?_];let LG:=LF.same sG;rw[qC];by_cases hv:v3="call"
    .let⟨g,L,sw,aw,rfl⟩:=h0.mp hv;rw[M9 hv];let⟨x1,c1,g4,e4,s3,e3,j1,j2,j3,j4,j5⟩:=a3.mono (aa.tm sG);cases e3;let⟨xs,G,lx⟩:=LG.fv;let l4:xs.length=y4.f.length+1:=by rw[lx.len];exact MZ
     let ty:y4.f.length<=y4.tot:=by unfold Ly.tot;omega
     let d0:sw.dep+1<=s1.dep:=d0;let o3:sw.ok μ:=w3.1;let k':(Sk.cl g L sw aw).size=sw.size:=rfl;refine yT _$ jp LG.ins dP #[.inl #[Z,_,aI.of G],jp (sG _ _ i5) dP #[p3,_,_,_,Z,Z,aB.of j1,io,_,Z,r9,pn++[(k:Int)],g,L,sw,aw,.ref c1,Z,sG _ _ c',by rw[MZ];show _+1+_<=_;omega,#[c1,g4,e4,s3,Z,j2,j3,j4,j5],o3,VV,VV,λl B HI nl hl hz sI=>?_]];let lz:=hz.len;rw[MY,za o3]at lz;let⟨L7,b7⟩:=(LG.same sI).setF (sI _ _ G) hz;refine#[fA,l,_,_,Z,Z,sI _ _ G,hl,VV,fE _ _ #[_,_,_,_,_,_,_,_,_,m,r1,_,Z,L7,?_,w3.2,d2,VV,w6.2.2,w7,?_,?_]]
     .exact(a4.mono$ aa.tm$ sG.trans sI).mono ((LG.same sI).tm b7)
     .rw[<- w8,Ly.app_assoc,Ly.app_assoc,<- Ly.app_assoc _ _ (mV r1 po S.steps m pn$ k+1)];rfl
     .exact(b2.trans$ a6.of_same$ sG.trans sI).trans b7
    .rw[M5 hv];refine yF _$ fE _ _ #[_,_,_,_,_,_,_,_,_,m,r1,_,Z,LG,a4.mono$ aa.tm sG,w3.2,d2,VV,w6.2.2,w7,?_,b2.trans$ a6.of_same sG];let e0:cg (pn++[(k:Int)]) w=[pn++[(k:Int)]]:=by
      let o3:=w3.1;cases w with
      |nil |st _ _ _ _=>exact o3.elim
      |cl f is s a=>exact absurd (h0.mpr #[f,is,s,a,Z]) hv
      |_=>rfl
     rw[e0]at w8;rw[Ly.app_assoc];exact w8
   |some j=>
    rw[ht]at eF;let eF:HF bA=δ (.lst [rz (j:Int)]):=eF;let⟨g',o,X,r8⟩:=ze ht;let r':=(ν.mp X).1;let bs:=tG (r:=r1) (po:=po) (pn:=pn) (k:=k) ht X;rw[<- tJ (po:=po) (pn:=pn) (k:=k) ht X]at bs;let t8:=tt;rw[bs,Ly.tot_app,Ly.tot_app]at t8;rw[bs]at w8;let n3:bA≠kA/\bA≠tA/\bA≠fA/\bA≠dA:=(LE.same$ je c9).new n4;refine aj λF1 v=>dj λJ jj=>#[_,Z,bA,Z,#[_,aI.of eF],jj _ _ ?_];clear jj;refine zx (K:=K) (a:=bA) (xs:=[rz (j:Int)]) (λi σ H'=>(i=0/\σ=[↑c,↑b,↑oa,↑na,↑z,δ$ .int (m:Int),δ$ .int k,↑p',↑r9,o9,↑sl,↑l2,O,C,↑bA]/\H'=HF)∨(i=1/\σ=[↑c,↑b,↑oa,↑na,↑z,δ$ .int ((j+1:Nat):Int),δ$ .int k,↑p',↑r9,δ$ .int (j:Int),↑sl,↑l2,O,C,↑bA]/\Lt H' z kA tA fA dA ((y4.app$ x9 S.steps m N p w po pn k).app$ mV w (po++[(j:Int)]) (lD o.2.2) 0 (pn++[(k:Int)]) 0)/\a6 kA tA fA dA HF H')) (.inl #[Z,Z,Z]) (λi σ H' _ h=>?_) ?_ (λσ H' h=>v _ _ ?_)
    .rcases h with ⟨_,_,rfl⟩ | ⟨_,_,_,b8⟩
     .exact aI.of eF
     .exact aI.of$ b8.kept n3 eF
    .clear v;intro E2 r4 i x σ H' G f4 Gq kq h;rcases h with ⟨rfl,rfl,rfl⟩ | ⟨rfl,_⟩
     .cases G;refine kq ?_;clear kq;show cy (fe _ _) _ E2 [↑c,↑b,↑oa,↑na,↑z,δ$ .int (m:Int),δ$ .int k,↑p',↑r9,δ$ .int (j:Int),↑sl,↑l2,O,C,↑bA] H';refine aj λF2 f2=>#[_,Z,_,_,Z,Z,f2 _ _ ?_];clear f2;let ej:(j:Int)+1=((j+1:Nat):Int):=by omega
      show gZ _ _ _ E2 [↑c,↑b,↑oa,↑na,↑z,δ$ .int ((j:Int)+1),δ$ .int k,↑p',↑r9,δ$ .int (j:Int),↑sl,↑l2,O,C,↑bA] H';rw[ej];refine lH λG1 yT yF=>(jp i5 dP #[p3,_,_,_,Z,Z,aB.of h7,eQ,Z,_,Z,?_]);rw[qC];by_cases hv:v3="call"
      .let⟨g,L,sw,aw,rfl⟩:=h0.mp hv;rw[M9 hv];let⟨q,hq,uq,q1,q2,q3,q4,q5,q6,q7⟩:=Xx o1 (h4.mono t3) X;let⟨s6,ao,e8⟩:=Yw (s:=.nil) o1 D0 ht X q5 w6.1 g L sw aw Z;let⟨no,h5,wo⟩:=o;let e8:wo= .cl g L s6 ao:=e8;subst e8;let⟨x5,c5,g6,e',c3,rfl,y1,y2,y3,y0,y5⟩:=q4;let⟨x1,c1,g4,e4,s3,e3,j1,j2,j3,j4,j5⟩:=a3;cases e3;let d0:sw.dep+1<=s1.dep:=d0;let q6:s6.dep+1<=S.dep:=q6;let q7:s6.size+1<=S.size:=q7;let k':(Sk.cl g L sw aw).size=sw.size:=rfl;refine yT _$ jp (t3 _ _ h1) dP #[_,Z,e0,_,_,_,Z,Z,aB.of$ t3 _ _ h3,jG q1,q,_,_,_,Z,Z,aB.of q2,dP,x5,_,_,_,Z,Z,aB.of y1,io,jp i5 dP #[p3,_,_,_,Z,Z,aB.of j1,io,_,Z,_,Z,iZ,λt nt=>#[oa,t,_,_,Z,Z,am (t3 _ _ a') nt,jb,by rw[MY];show _+1<=_;omega,λM H0 T s7=>?_]]];let u:aa H' H0:=(je (o:=.tup [.int (j:Int)]) nt).trans s7;let T:H0 M=δ (.tup$ po.map rz++[.int (j:Int)]):=T;rw[lR]at T;let l8:Dt D g s6:=(Kj D0 X).2;let l9:Dt D g sw:=w6.2.1;refine#[_,Z,_,Z,D,z,kA,tA,fA,dA,M,c5,r9,c1,po++[(j:Int)],pn++[(k:Int)],g,L,L,s6,sw,ao,aw,_,Z,LF.same u,T,u _ _ c',by rw[MZ];show _+1+_<=_;omega,by rw[MZ];show _+1+_<=_;omega,#[c5,g6,e',c3,Z,u _ _ y2,u _ _ y3,u _ _ y0,y5.mono$ aa.tm u],q5,VV,VV,#[c1,g4,e4,s3,Z,u _ _ j2,u _ _ j3,u _ _ j4,j5.mono$ aa.tm u],w3.1,VV,VV,VV,l8,l9,?_,λH1 Y l'=>f4 _ _ (.inr #[Z,Z,Y,(a6.of_same u).trans l'])];let u0:y4.tot+((x9 S.steps m N p (.cl g L sw aw) po pn k).tot+((mV sw (po++[(j:Int)]) s6.steps 0 (pn++[(k:Int)]) 0).tot+(mV r1 po S.steps (j+1) pn$ k+1).tot))<=100000:=t8;rw[Ly.tot_app,Ly.tot_app];omega
      .rw[M5 hv];refine yF _$ f4 _ _$ .inr #[Z,Z,?_,λ_ _ _ _ _ _ e=>e];rw[tF w3.1 (λf is s a e=>hv (h0.mpr #[f,is,s,a,e])),Ly.app_nil];exact LF
     .exact absurd G VW
    .rcases h with ⟨z0,_⟩ | ⟨_,rfl,L8,b8⟩
     .exact absurd z0 VW
     refine lH λG1 yT yF=>#[_,Z,fj,λl0 n0=>#[bA,l0,_,Z,Z,am (b8.kept n3 eF) n0,jb,_,Z,aT Z$ yF _$ fE _ _ #[_,_,_,_,_,_,_,_,_,j+1,r1,_,Z,L8.same$ je n0,?_,w3.2,d2,VV,w6.2.2,VV,?_,?_]]]
     .exact(a4.mono$ LF.tm b8).mono (aa.tm$ je n0)
     .rw[Ly.app_assoc,Ly.app_assoc];exact w8
     .exact(b2.trans b8).trans (a6.of_same$ je n0)
 .let⟨o6,o7,o8,o9,o4,o5,O,C,o2,m,r2,y4,rfl,L4,w2,w3,w4,w5,w6,w7,w8,b4⟩:=h;rw[Ut]at w2;cases r2 with
  |st n hs w r=>let⟨_,_,_,_,z,_⟩:=w2;cases z
  |ask _ |rd _ _ |wr _ _ |cl _ _ _ _=>exact w3.elim
  |nil=>have w8:y4.app .nil=_:=w8;rw[Ly.app_nil]at w8;exact q Hx (w8▸L4) b4
noncomputable def Gz(H:Hp)(p:aL):ζ->Bool
 | .ref a=>match H a with
  |some (.tup x)=>decide (x=p.map rz)
  |_=>ξ
 |_=>ξ
theorem uJ{p q:aL}:p.map rz=q.map rz↔p=q:=#[λh=>(R8 λa b e=>by injection e).mp h,λh=>by rw[h]]
theorem ug{H:Hp}{q:aL}(h:H a=δ (.tup$ q.map rz)):Gz H p (.ref a)=decide (q=p):=by
 show(match H a with |some (.tup x)=>decide (x=p.map rz) |_=>ξ)=_;rw[h];dsimp only;by_cases e:q=p
 .rw[M9 e,M9 (by rw[e])]
 .rw[M5 e,M5 λz=>e (uJ.mp z)]
theorem Bo{p q:aL}:gi (aA$ q.map aq) (aA$ p.map aq)=decide (q=p):=by
 by_cases e:q=p
 .rw[M9 e,e,zn Z]
 .rw[M5 e,zf];intro z;let z:Tr.tp (ay$ q.map aq)= .tp (ay$ p.map aq):=z;injection z with z;exact e$ qy z
theorem ZS:∀{b:List aL} {X:List V} {u:List ζ},bu gQ H b X->aD X u->u.any (Gz H p)=decide (p∈b)
 | [],_,_,h,r=>by let h:_=[]:=h;subst h;cases r;simp
 |q::b,_,_,Q,r=>by
  obtain⟨x,y,e,⟨a,E,c⟩,h⟩:=Q;subst e;subst E;cases r with
  |cons R d=>
   cases R;rw[PX,ZS h d,ug c];by_cases e:q=p
   .subst e;simp
   .rw[M5 e];simp [NA e]
theorem uT:∀{p:List aL} {X:List V} {U:List ζ},bu gQ H p X->aD X U->∀u∈U,∃(a:η) (q:aL),u= .ref a/\H a=δ (.tup$ q.map rz)
 | [],_,_,h,r,u,hu=>by let h:_=[]:=h;subst h;cases r;cases hu
 |q::p,_,_,Q,r,u,hu=>by
  obtain⟨x,y,e,⟨a,E,b⟩,h⟩:=Q;subst e;subst E;cases r with
  |cons R c=>
   cases R;rcases Φ.mp hu with rfl |hu
   .exact#[a,q,Z,b]
   .exact uT h c u hu
theorem sh{X:Cx}(k:X.A.in1.units+10 < cLine):fh X (compareOp .NotIn) (λx y H Q=>∃(a l:η) (p:aL) (c:List aL) (f:List V),x= .ref a/\y= .ref l/\H a=δ (.tup$ p.map rz)/\H l=δ (.lst f)/\bu gQ H c f/\Q (.bl$ decide$ p∉c) H):=by
 intro g s B H x y v u Q I R m h;let⟨a,l,p,c,f,rfl,rfl,n,o,L,q⟩:=h;cases R;cases m;let⟨i,r,t,C⟩:=I.list (aI.of (K:=X.K) o);refine VQ (Gz H p) t.isList (λw z=>?_) #[.bl _,H,I,Z,?_]
 .let⟨b,d,rfl,j⟩:=uT L r w (by simpa using z);rw[ug j,<- Bo];exact QX I 10 (aA$ d.map aq) (by show(ay$ d.map aq).dep+1<=10;rw[kC];decide) k (show(aA$ d.map aq).In from kX d) Z (u:=aA (p.map aq)) (show(aA$ p.map aq).In from kX p) Z (j9 j) (j9 n) _ _ Z Z
 .rw[show i.toArray.any (Gz H p)=i.any (Gz H p) by simp,ZS L r];let e:(!decide (p∈c))=decide (p∉c):=by by_cases h:p∈c<;>simp [h]
  rw[e];exact q
theorem rE(h:bJ k A):A.in1.units+10 < cLine:=by let:=h.un;show A.units+1+10 < cLine;omega
theorem rK(L l:List aL)(p:aL):eO L (l++[p])=eO L l++if p∈L then [] else [p]:=by rw[KB,QO];split<;>rfl
inductive pO(k:List V)(H:Hp)(Q:VK)(a:XK):Prop
 |mk(D:DF)(c b:η)(f:ρ)(g h:List Int)(i j:Sk)(d e:Int)(_:k=[.ref c,.ref b])(_:i6 H f g i d (.ref c))(_:i.ok μ)(_:i.dep<=15)(_:i.size<=60)(_:i6 H f h j e (.ref b))(_:j.ok μ)(_:j.dep<=15)(_:j.size<=60)(_:Dt D f i)(_:Dt D f j)(_:∀(x:V) (kA tA fA dA:η) (H':Hp),FE H' x kA tA fA dA (dR j [] i.steps 0 [] 0)->H kA=θ->H tA=θ->H fA=θ->H dA=θ->aa H H'->Q x H')
theorem Jh:∀{b:Bool} {s:Sk},s.ok b->∀(p:aL) (os:List aO) (m:Nat),(iq s p os m).length<=s.size
 |true,.nil,_,_,_,_=>M6 _
 |true,.st n H w r,o,p,os,m=>by
  show _<=w.size+r.size+1;cases h:fo os m n H w with
  |none=>rw[Jp h];let:=Jh o.2 p os m;omega
  |some j=>
   let⟨a,x,c,_⟩:=ze h;rw[Jq h c,MZ,MZ];let d:=Jh o.1 (p++[(j:Int)]) (lD x.2.2) 0;let e:=Jh o.2 p os (j+1);let f:(if aS n H x=μ then [p++[(j:Int)]] else ([]:List aL)).length<=1:=by
    split
    .exact M0 1
    .exact M6 1
   omega
 |false,.cl _ _ s _,o,p,os,m=>Jh (b:=μ) (s:=s) o p os m
 |false,.ask _,_,_,_,_=>M6 _
 |false,.rd _ _,_,_,_,_=>M6 _
 |false,.wr _ _,_,_,_,_=>M6 _
theorem Dq{s:Sk}(o:s.ok b)(c:aL)(os:List aO)(m:Nat)(p:aL)(k:Nat):(dR s c os m p k).f.length<=s.size:=by
 induction s generalizing b c os m p k with
 |nil |ask _ |rd _ _ |wr _ _=>exact M6 _
 |cl f q s a d=>cases b with
  |true=>exact o.elim
  |false=>exact d (b:=μ) o c os m p k
 |st n H w r I i=>
  cases b with
  |false=>exact o.elim
  |true=>
  show _<=w.size+r.size+1;cases h:fo os m n H w with
  |none=>rw[zU h];let e:=i (b:=μ) o.2 c os m p (k+1);show(cg (p++[(k:Int)]) w++_).length<=_;rw[MZ,qx o.1];omega
  |some j=>
   let⟨g,x,l,_⟩:=ze h;rw[zV h l];let e:=i (b:=μ) o.2 c os (j+1) p (k+1);let t:=I (b:=ξ) o.1 (c++[(j:Int)]) (lD x.2.2) 0 (p++[(k:Int)]) 0;let u:(one (c++[(j:Int)]) x (p++[(k:Int)]) n H w).f.length<=1:=by
    unfold one;split
    .split<;>exact M6 1
    .exact M0 1
   show(([]++((one _ _ _ _ _ _).f++(dR _ _ _ _ _ _).f))++(dR _ _ _ _ _ _).f).length<=_;rw[UF,MZ,MZ];omega
theorem DG:ah P w K mg base aE k f d z16z (h9 0):=by
 let n:∀{v H Q E},¬h9 0 v H Q E:=by rintro v H Q E ⟨D,z,e,t,F,g,O,c,N,b,p,i,f,I,j,S,l,m,q,y,_,_,_,_,_,_,_,_,_,_,_,_,z,_⟩;omega
 exact#[λv H Q E h=>(n h).elim,λA o s H a u v Q E r x B C h=>(n h).elim]
theorem Gi(FB:tf K "_law_beside" su f a)(b:aC K a z16z [])(M:mg "_law_beside"=↑f)(c:Cl P w K mg base 1 j h ["_law_step"] nK "_law_found")(C:Cl P w K mg base 18 k i z14z (fQ 17) "_law_all_in")(m:mg "enumerate"=θ)(d:mg "len"=θ)(e:mg "range"=θ)(g:mg "int"=θ):∀n,ah P w K mg base aE (n+20) f a z16z (h9 n)
 |0=>DG
 |n+1=>DP FB c C #[(Gi FB b M c C m d e g n),b,FB.kp,M] m d e g
theorem wI:ai ["_law_old","_law_new","_law_found_here","_law_gone"] ["_law_old","_law_new"] (ae AT):=bN
noncomputable def sL:ir:=#[.function,[(".0",.local),("_law_path",.local),("_law_found_here",.free)],ξ,ξ,[]]
theorem Dy:(["_law_path","_law_found_here"]:List ρ).Nodup:=by decide+kernel
theorem CY:be ["_law_old","_law_new","_law_found_here","_law_gone"] (ae AT) sL ["_law_path","_law_found_here"] 1 [2]:=oR
theorem DZ(F:tf K "_law_laid" AT f fd)(cB:Cl P w K mg base 36 fB f0 z16z (h9 16) "_law_beside")(cW:Cl P w K mg base 18 fW f2 z14z (fQ 17) "_law_all_in")(m0:mg "sorted"=θ):ah P w K mg base aE 37 f fd ["_law_old","_law_new"] pO:=by
 refine F.ok wI λc0 A o1 s H vs Q E hr h=>?_
 let⟨D,c,b,f,is,js,j,S,a0,a1,rfl,Y,O,h4,a3,h5,l,h6,a4,D0,D1,q⟩:=h;refine#[_,(jd (kO (i:=2) wI.nd Z (ge Z)$ jl$ ja (jK jc)$ ja (jK jc)$ ja (jK jc)$ ja (jK jc) jc)$ jd (jH$ cB.e hr.m$ ja (pv 0)$ ja (pv 1)$ ja (jl jc)$ ja (jl jc)$ ja (pv 2) jc)$ jd (@qe _ _ _ _ _ _ _ _ _ _ (3) (["_law_path","_law_found_here"]) (1) ([2]) _ _ _ _ wI.nd Z (ω Z) Z (zc$ cW.e hr.m$ ja (pv 0)$ ja (jl jc) jc) CY (λ_ _ _ _ _=>(jr (i:=0) Dy Z$ ω Z)) (λ_ _ _ _ _=>(@JC _ _ _$ jz (sh$ rE hr) (pv 0) (ju (r:=cw K) (kL (K:=K) Z) (pv 1) jf (λ_ _=>Z)) Z)) (λ_ _ _ _ _=>(pv 0)) VY (by first |exact .inl Z |exact .inr Z) (by intro _;rfl))$ jg$ jm$ jl$ ja (jv$ pv 2)$ ja (jv$ pv 2)$ ja (jN Xq Z m0 Sd$ ja (jv$ pv 2) jc)$ ja (pv 3) jc),?_];let b1:=aJ;refine aj λF1 M=>#[fj,λn W=>#[fj,λT U=>#[fj,λu I=>#[fj,λy N=>#[pU,λz nz=>M _ _ ?_]]]]];clear M;let tk:T≠n:=λz=>by rw[z,jb]at U;cases U
 let ft:u≠T:=λz=>by rw[z,jb]at I;cases I
 let fk:u≠n:=λz=>by rw[z,jh tk.symm,jb]at I;cases I
 let df:y≠u:=λz=>by rw[z,jb]at N;cases N
 let dt:y≠T:=λz=>by rw[z,jh ft.symm,jb]at N;cases N
 let dk:y≠n:=λz=>by rw[z,jh fk.symm,jh tk.symm,jb]at N;cases N
 let n0:=kN (je (o:=.lst []) W) U;let n5:=kN ((je (o:=.lst []) W).trans$ je (o:=.lst []) U) I;let n6:=kN (((je (o:=.lst []) W).trans$ je (o:=.lst []) U).trans$ je (o:=.lst []) I) N;let s1:aa H (af (af (af (af (af H n$ .lst []) T$ .lst []) u$ .lst []) y$ .lst []) z$ .tup [.ref n,.ref T,.ref u,.ref y]):=((((je W).trans$ je U).trans$ je I).trans$ je N).trans (je nz);let L1:Lt (af (af (af (af (af H n$ .lst []) T$ .lst []) u$ .lst []) y$ .lst []) z$ .tup [.ref n,.ref T,.ref u,.ref y]) z n T u y .nil:=#[jb,#[[],am (am (am (am jb U) I) N) nz,Z],#[[],am (am (am jb I) N) nz,Z],#[[],am (am jb N) nz,Z],#[[],am jb nz,Z],#[tk.symm,fk.symm,dk.symm,ft.symm,dt.symm,df.symm],λ_ z=>nomatch z];generalize af (af (af (af (af H n$ .lst []) T$ .lst []) u$ .lst []) y$ .lst []) z (.tup [.ref n,.ref T,.ref u,.ref y])=H1 at s1 L1 ⊢;let t0:=qD l [] j.steps 0 [] 0 λo ho=>by let⟨i,hi⟩:=RZ ho;exact Ks O hi
 rw[OU,<- zC O,za O]at t0;let l3:=Jh l [] j.steps 0;let b0:(mV S [] j.steps 0 [] 0).tot<=1000:=by unfold mV Ly.tot;unfold Ly.tot at t0;dsimp only;omega
 refine aj λF1 M=>#[_,Z,_,Z,fj,λpa n'=>#[fj,λpb n1=>#[_,Z,?_]]];let s2:aa H1 (af (af H1 pa$ .tup []) pb$ .tup []):=(je n').trans (je n1);let S2:=s1.trans s2;refine#[D,z,n,T,u,y,pa,c,pb,b,[],[],f,is,js,j,S,a0,a1,.nil,Z,L1.same s2,am jb n1,jb,VU,VU,zd Y$ aa.tm S2,O,h4,VV,zd h5$ aa.tm S2,l,VV,h6,VV,D0,D1,by rw[Ly.nil_app];omega,λH3 L3 b3=>M _ _ ?_];clear M;rw[Ly.nil_app]at L3;let S3:aa H H3:=λx o e=>b3 _ _ (ji e W) (ji e n0) (ji e n5) (ji e n6) (S2 _ _ e);let⟨xd,h7,l0⟩:=L3.dv;refine aj λF1 M=>#[_,Z,fj,λpe a2=>?_];let s4:aa H3 (af H3 pe$ .tup []):=je a2;refine#[pe,[],f,is,j,a0,.ref c,Z,jb,VU,zd Y$ aa.tm$ S3.trans s4,O,VV,VV,λal xa H5 a5 h0 V s5=>?_];let S5:=s4.trans s5;let l1:=V.len;rw[MY,za O]at l1;refine#[al,Z,#[_,aI.of h0],?_];refine qV (K:=K) (a:=al) (xs:=xa) VV (λi G Hx=>Hx=H5/\G.length<=i/\bu gQ H5 (eO (iq S [] j.steps 0) (((j.ws [] 0).map (·.1)).take i)) G) #[Z,M0 0,Z] (λi G Hx h=>#[by rw[h.1];exact aI.of h0,h.2.1]) ?_ ?_
 .intro i x G Hx hx h;let⟨rfl,lz,B⟩:=h;let⟨p,hp,a,rfl,ha⟩:=V.at hx;let et:((j.ws [] 0).map (·.1)).take (i+1)=((j.ws [] 0).map (·.1)).take i++[p]:=by rw[N0,hp];rfl
  refine#[_,Z,jp (S5 _ _ L3.ins) IN #[a,y,p,_,xd,Z,Z,ha,S5 _ _ h7,l0.mono cq$ aa.tm S5,_,Z,?_]];rw[et,rK];show if decide (p∉iq S [] j.steps 0)=μ then _ else _;by_cases hm:p∈iq S [] j.steps 0
  .rw[M5 (λz=>z hm),M7 hm,Nx];exact lU #[Z,VV,B]
  .rw[M9 hm,Na hm];exact i8 #[_,Z,Z,by rw[MZ];show _+1<=_;omega,bu.app (bu.one #[a,Z,ha]) B]
 intro G H6 h R n2;let⟨rfl,_,B⟩:=h;let ew:eO (iq S [] j.steps 0) (((j.ws [] 0).map (·.1)).take xa.length)=(dR S [] j.steps 0 [] 0).d:=by
  let lw:=V.len;rw[lw,NJ,zC O];let z:=Xv (D:=D) (b:=μ) (s:=S) l (f:=f) (so:=j) (po:=[]) (pn:=[]) (m:=0) (k:=0) (L:=iq S [] j.steps 0) O D0 D1 (λg is t a e=>by
   let z:=l;rw[e]at z;exact z.elim) (λz=>nomatch z) (λp _=>Sn)
  rw[z,OU]
 rw[ew]at B;refine M _ _ ?_;clear M;let s7:aa H6 (af H6 R$ .lst G):=je n2;let e7:af H6 R (.lst G) R=δ (.lst G):=jb;generalize af H6 R (.lst G)=H7 at s7 e7 ⊢;let S7:=S5.trans s7;let X:=L3.same S7;let⟨xf,h8,C⟩:=X.fv;let C:bu gQ H7 (dR S [] j.steps 0 [] 0).f xf:=C;let l2:=C.len;let l4:=Dq l [] j.steps 0 [] 0;let⟨sr,sg⟩:=Xw l [] j.steps 0 [] 0;refine(jp X.ins eQ$ jp X.ins io$ jp X.ins dP #[u,xf,(dR S [] j.steps 0 [] 0).f,Z,aI.of h8,l2,VV,λi v p h1 h2=>?_,λi p q h1 h2=>Bh sr h1 h2,λsf J=>#[_,Z,pU,λtp n4=>?_]])
 .let⟨p',h3,h'⟩:=C.at h1;rw[h2]at h3;cases h3;exact#[h',Ic$ sg p$ Nc h2]
 let s8:aa H7 (af (af H7 sf$ .lst xf) tp$ .tup [.ref n,.ref T,.ref sf,.ref R]):=(je J).trans (je n4);let L8:=X.same s8;let n7:=X.new J;let g0:H3 R=θ:=kN S5 n2;let n3:=L3.new g0;let gs:sf≠R:=(ji e7 J).symm;let⟨xk,hk,lk⟩:=L8.kv;let⟨xt,ht,lt⟩:=L8.tv;let t1:=aa.tm s8;refine q _ n T sf R _ #[tp,Z,jb,#[xk,hk,lk],#[xt,ht,lt],#[xf,am jb n4,C.mono cq t1],#[G,s8 _ _ e7,(B.mono cq$ aa.tm s7).mono cq t1],#[tk.symm,n7.1.symm,n3.1.symm,n7.2.1.symm,n3.2.1.symm,gs],λ_ z=>nomatch z] W n0 (kN (S3.trans S7) J) (kN S3 g0) ((S3.trans S7).trans s8)
abbrev ER:cv:=bP 75
structure Ge(K:γ):Prop where
 tt:kitOne K (.type "tuple") (.type "tuple")=δ μ
 ll:kitOne K (.type "list") (.type "list")=δ μ
def FM(H:Hp)(x y:V):Prop:=∃t:Tr,t.dep<=5/\t.In/\t.isL=ξ/\aR H t x []/\aR H t y []
theorem Ih(h:gQ H x p)(g:gQ H y p):FM H x y:=by let⟨a,rfl,h⟩:=h;let⟨b,rfl,g⟩:=g;exact#[aA$ p.map aq,(by show(ay$ p.map aq).dep+1<=5;rw[kC];decide),kX p,Z,j9 h,j9 g]
theorem Ig(h:mQ H x p)(g:mQ H y p):FM H x y:=by let⟨q,a,b,rfl,h,c,d⟩:=h;let⟨Q,A,B,rfl,g,G,e⟩:=g;refine#[aA [aA$ p.1.map aq,aA$ p.2.map aq],?_,#[kX p.1,kX p.2,trivial],Z,jC h$ jk Z (j9 c)$ jk Z (j9 d) Z,jC g$ jk Z (j9 G)$ jk Z (j9 e) Z];show max ((ay$ p.1.map aq).dep+1) (max ((ay$ p.2.map aq).dep+1) 0)+1<=5;rw[kC,kC];decide
theorem Ei{X:Cx}(hu:X.A.units+10 < cLine):fh X (compareOp .NotEq) (λx y H Q=>∃(a b:η) (c Y:List V),x= .ref a/\y= .ref b/\H a=δ (.lst c)/\H b=δ (.lst Y)/\c.length=Y.length/\(∀(j:Nat) (u v:V),c[j]?=δ u->Y[j]?=δ v->FM H u v)/\Q (.bl ξ) H):=by
 intro p s σ H x y v u Q I k l h;let⟨a,b,c,Y,rfl,rfl,m,n,hl,o,q⟩:=h;cases k;cases l;let⟨i,r,B,_⟩:=I.list (aI.of (K:=X.K) m);let⟨C,R,D,_⟩:=I.list (aI.of (K:=X.K) n);let la:=r.length;let lb:=R.length;refine Uq (e:=λ_=>μ) B.isList D.isList (by simp;omega) VV (λj E h2=>?_) X.prog X.w _ _ ?_
 .let f:j < c.length:=by simp at E;omega
  let d:j < Y.length:=by omega
  let⟨U,F,G⟩:=r.get (MV f);let⟨J,L,M⟩:=R.get (MV d);let N:i.toArray[j]=U:=by let⟨_,e⟩:=ν.mp F;simpa using e
  let O:C.toArray[j]=J:=by let⟨_,e⟩:=ν.mp L;simpa using e
  rw[N,O];let⟨t,S,T,g,W,t5⟩:=o j _ _ (MV f) (MV d);let z:=QX I 5 t (A:=X.A.in1) S (by show X.A.units+1+5 < cLine;omega) T g T g W t5 _ _ G M;rw[zn Z]at z;exact z
 .let e:((dB i.toArray.size).all λ_=>μ)=μ:=by simp
  rw[e];exact#[.bl ξ,H,I,Z,q]
theorem bu.sm{a:Type}{R:RA a}(c:∀{H x y w},R H x w->R H y w->FM H x y){W:List a}(h:bu R H W b)(g:bu R H W Y):b.length=Y.length/\∀(j:Nat) (u v:V),b[j]?=δ u->Y[j]?=δ v->FM H u v:=by refine#[by rw[h.len,g.len],λj u v d f=>?_];let⟨w,E,r⟩:=h.at d;let⟨k,e,i⟩:=g.at f;rw[E]at e;cases e;exact c r i
theorem G7{tB:η}(h:Lt H z k t f d y)(g:Lt H M c tB e D y):∀i:Nat,i < 4->∃(a b:η) (x Y:List V),eU [sn k,.ref t,.ref f,.ref d] ((0:Int)+i)=↑a/\eU [sn c,.ref tB,.ref e,.ref D] ((0:Int)+i)=↑b/\H a=δ (.lst x)/\H b=δ (.lst Y)/\x.length=Y.length/\∀(j:Nat) (u v:V),x[j]?=δ u->Y[j]?=δ v->FM H u v:=by
 let⟨_,A,l⟩:=h.kv;let⟨_,B,m⟩:=h.tv;let⟨_,C,n⟩:=h.fv;let⟨_,o,p⟩:=h.dv;let⟨_,q,r⟩:=g.kv;let⟨_,s,E⟩:=g.tv;let⟨_,F,G⟩:=g.fv;let⟨_,I,J⟩:=g.dv;intro i L
 match i,L with
 |0,_=>exact#[_,_,_,_,Z,Z,A,q,l.sm Ig r]
 |1,_=>exact#[_,_,_,_,Z,Z,B,s,m.sm Ig E]
 |2,_=>exact#[_,_,_,_,Z,Z,C,F,n.sm Ih G]
 |3,_=>exact#[_,_,_,_,Z,Z,o,I,p.sm Ih J]
inductive pT(j:List V)(H:Hp)(Q:VK)(a:XK):Prop
 |mk(x y:V)(f h d b g i e c:η)(l:Ly)(_:j=[x,y])(_:FE H x f h d b l)(_:FE H y g i e c l)(_:Q (.bl μ) H)
theorem ME(h:bJ k A):A.units+10 < cLine:=by let:=h.un;omega
theorem Cr:ai ["_law_told","_law_due","_law_k"] ["_law_told","_law_due"] (ae ER):=bN
theorem Eb(F:tf K "_law_told_so" ER f D)(t:Ge K)(m:mg "isinstance"=θ)(M:mg "tuple"=θ)(e:mg "list"=θ)(G:mg "len"=θ)(I:mg "range"=θ):ah P w K mg base aE 3 f D ["_law_told","_law_due"] pT:=by
 refine F.ok Cr λN A o s H vs Q E R h=>?_
 let⟨x,y,S,T,U,V,W,tB,X,Y,l,rfl,l1,l2,q⟩:=h;refine#[_,(jd (jy (PW.pt$ Xr (Yk$ Yj$ jN JR Z m Vm$ ja (pv 0)$ ja (Zk (v:=.ty "tuple") Z M OG Z) jc)$ Kk$ jz Xs (jN jI Z G NO$ ja (pv 0) jc) jf$ aF _) (jg$ jm$ @Zd _ _ _ _) jo)$ jd (jU Nu Z (kM Z I$ ja jf jc) (jr (i:=2) Cr.nd Z$ ω Z)$ jg$ jy (PW.pt$ Xr (Yk$ Yj$ jN JR Z m Vm$ ja (ju jF (pv 0) (pv 2) (λ_ _=>Z))$ ja (Zk (v:=.ty "list") Z e Vb Z) jc)$ Kk$ jz (Ei$ ME R) (ju jF (pv 0) (pv 2) (λ_ _=>Z)) (ju jF (pv 1) (pv 2) (λ_ _=>Z))$ aF _) (jg$ jm$ @Zd _ _ _ _) jo)$ jg$ jm$ @Zd _ _ _ _),?_];let⟨z,rfl,L⟩:=l1;let⟨g,rfl,_L⟩:=l2;refine aj λF1 d=>#[_,Z,_,.ty "tuple",_,.type "tuple",μ,Z,Z,.tup L.ins,t.tt,_,Z,aT Z #[_,Z,z,_,Z,.inr$ aB.of L.ins,Z,_,Z,aT Z$ d _ _ ?_]];clear d;let j:=G7 L _L;refine aj λF1 d=>dj λJ r=>#[4,Z,VU,VU,r _ _ ?_];clear r;refine ke (lo:=0) (n:=4) (λ_ p u=>(∃O,p=[↑z,↑g,O])/\u=H) #[#[_,Z],Z] ?_ (λp u h=>?_)
 .intro E rt k p H2 hk fE Gq c h;obtain⟨⟨O,rfl⟩,rfl⟩:=h;refine c ?_;clear c;let⟨a,b,xs,ys,B,e2,C,hb,hl,hv⟩:=j k hk;show gZ _ _ _ E [↑z,↑g,δ$ .int ((0:Int)+k)] H2;exact lH λG1 yT yF=>#[_,Z,_,Z,z,_,_,_,Z,Z,aB.of L.ins,B,_,.ty "list",_,.type "list",μ,Z,Z,.lst C,t.ll,_,Z,aT Z #[_,Z,_,Z,z,_,_,_,Z,Z,aB.of L.ins,B,_,Z,_,Z,g,_,_,_,Z,Z,aB.of _L.ins,e2,a,b,xs,ys,Z,Z,C,hb,hl,hv,_,Z,yF _$ fE _ _ #[#[_,Z],Z]]]
 .let⟨_,rfl⟩:=h;exact d _ _ q
abbrev AW:cv:=bP 78
theorem sT.more(h:sT C n H r f)(k:∀y∈C,y∈D):sT D n H r f:=let #[d,b,a,c]:=h;#[d,b,#[a.1,kJ k a.2],c]
theorem Lj(r:sT [(l,N),(m,j),(o,k)] N H a l)(s:sT [(l,N),(m,j),(o,k)] j H b m)(t:sT [(l,N),(m,j),(o,k)] k H c o)(p:N<=100/\j<=100/\k<=100):∃D,cQ H D [.ref a,.ref b,.ref c]/\D.length=3/\((∀d∈D,mX d/\d.b.Cs [(l,N),(m,j),(o,k)])/\D.map Df.f=[l,m,o])/\mP H D [N,j,k]:=by
 let⟨d,u,v,O,y,z,E⟩:=r;let⟨e,A,B,Q,C,F,G⟩:=s;let⟨f,I,J,R,g3,L,M⟩:=t;refine#[[d,e,f],#[_,_,Z,u,_,_,Z,A,_,_,Z,I,Z],Z,#[λx q=>?_,by rw[<- E,<- G,<- M];rfl],Z,λi x n h g=>?_]
 .simp only[Oz,Ny,P5]at q;rcases q with rfl |rfl |rfl
  .exact v
  .exact B
  .exact J
 .match i,h,g with
  |0,h,g=>cases h;cases g;exact#[_,y,z,p.1]
  |1,h,g=>cases h;cases g;exact#[_,C,F,p.2.1]
  |2,h,g=>cases h;cases g;exact#[_,g3,L,p.2.2]
theorem Fe{H:Hp}{f:ρ}(h:H p=δ (.tup [.str "call",.str x,.str f,.ref q]))(d:x∈y)(a:(f,1)∈C)(e:H q=δ (.tup [.ref t]))(g:lQ H y k t)(i:k < 6:=by decide):gm C H y 0 (.ref p):=by
 let⟨T,j,m⟩:=g.ok i;refine Xt (l:=.cl x f q [(t,T)]) h #[Z,e,λc b=>?_] #[d,(by show 1<=6;decide),λc b=>?_] a
 .rw[υ.mp b];exact j
 .rw[υ.mp b];exact m
def mW(H:Hp)(D:List Df)(v a:V):Prop:=∃(d:Df) (p:List ρ) (t:η) (I:List Int),d∈D/\v= .str d.f/\H d.pa=δ (.tup$ p.map ry)/\a= .ref t/\H t=δ (.tup$ I.map rz)/\I.length=p.length/\I.length<=100/\∀i∈I,0<=i/\i < 1000000000000000000
inductive pP(b:List V)(H:Hp)(Q:VK)(a:XK):Prop
 |mk(p:η)(_:b=[.ref p])(_:ap H p)(_:∀(t r:η) (v2 v3:V) (ds:List Df) (xs:List V) (H':Hp),H' t=δ (.tup [.ref r,v2,v3])->H' r=δ (.tup xs)->cQ H' ds xs->1<=ds.length->ds.length<=8->∀ns,sW ds ns->mP H' ds ns->mW H' ds v2 v3->ap H' p->aH p H H'->Q (.ref t) H')
theorem AB(h:0<=d)(H:d < 3):∃c,eU (Str.cps "<=/").toList d=δ c/\Sg #[(ε [c])]:=by
 rcases(by omega:d=0∨d=1∨d=2) with rfl |rfl |rfl
 .exact#[_,Z,Q5]
 .exact#[_,Z,Ib]
 .exact#[_,Z,A9]
theorem Gr{y:List ρ}(h:y.length=9):aW (y.map ry) (δ 2) (δ 7)=((y.drop 2).take 5).map ry:=by unfold aW;rw[show(2:Int)=((2:Nat):Int) from Z,show(7:Int)=((7:Nat):Int) from Z,HT.sIx_nat,HT.sIx_nat,MY,h,PV,Tj];rfl
def II(C:iD)(y:List ρ)(n m:Nat)(f:ρ)(H:Hp)(v:V):Prop:=∃a q b,v= .ref a/\H a=δ (.tup [.str f,q,b])/\sT C n H a f/\PB C y 1 m H b
section
variable {Cf:iD}{ys:List ρ}{H0 Hb:Hp}{p wl:η}{σ:_L.St}
theorem uk(d:Ev H0 p wl ys Hb σ g (PN ys))(i:Ev H0 p wl ys Hb σ j (FG f))(b:(f,1)∈Cf)(l:Ev H0 p wl ys Hb σ T (PT ys k))(n:k < 6):Ev H0 p wl ys Hb σ (cY$ ar (tC$ .str "call")$ ar g$ ar j$ ar (cY$ ar T bh) bh) (λH v=>gm Cf H ys 0 v):=by
 let' R:Hp->V->Prop:=λH v=>∃q a,v= .ref q/\H q=δ (.tup [.ref a])/\lQ H ys k a
 let M:nX R:=λ_ _ _ m #[q,a,e,c,o]=>#[q,a,e,m _ _ c,o.mono m];let s:Ev H0 p wl ys Hb σ (cY$ ar T bh) R:=λH Q m W q=>
  l H _ m W λS U #[a,E,X] A C=>#[iZ,λr N=>zm (P:=R) A (λD F x G k=>q D F x G (C.trans k)) N λt z=>#[r,a,Z,by rw[z,E],X.mono t]]
 exact Ll Dv (B:=FG f) (λ_ _ _ _ h=>h) M d i s λH r u v x z #[y,I,c] (E:v= .str f) #[q,a,J,L,O]=>Fe (f:=f) (by rw[z,I,E,J]) c b L O n
theorem Qr{K:γ}{k:Nat}(e:σ[j]?=δ (↑wl))(a:i=(k:Int))(h:ys[k]?=δ y):Ev H0 p wl ys Hb σ (g9 (vU K) (bK j)$ tC$ .int i) (FG y):=λH Q m W q=>
 #[_,e,wl,_,_,_,Z,Z,aI.of W.w,(by rw[a];exact jG (by rw[Ni,h];rfl)),q _ H Z W .refl]
theorem GG{f1 f2 f3:ρ}{n1 n2 n3:Nat}(i:n1<=100/\n2<=100/\n3<=100)(j:Ev H0 p wl ys Hb σ T (PD [(f1,n1),(f2,n2),(f3,n3)] n1 f1))(l:Ev H0 p wl ys Hb σ s (PD [(f1,n1),(f2,n2),(f3,n3)] n2 f2))(u:Ev H0 p wl ys Hb σ y (PD [(f1,n1),(f2,n2),(f3,n3)] n3 f3)):Ev H0 p wl ys Hb σ (cY$ ar T$ ar s$ ar y bh) (λH v=>∃r D x,v= .ref r/\H r=δ (.tup x)/\cQ H D x/\D.length=3/\((∀d∈D,mX d/\d.b.Cs [(f1,n1),(f2,n2),(f3,n3)])/\D.map Df.f=[f1,f2,f3])/\mP H D [n1,n2,n3]):=λH Q m W q=>
 j H _ m W λV z X A k=>l z _ (m.trans k) A λB C E F e=>u C _ ((m.trans k).trans e) F λG U I J h=>#[ie,λr n=>q _ _ (by
  let t:=aa.tm (je (o:=HO.tup [V,B,G]) n);let⟨a,L,M⟩:=ni _ _ _ t (ni _ _ _ (e.trans h).t X);let⟨b,N,O⟩:=ni _ _ _ t (ni _ _ _ h.t E);let⟨c,R,S⟩:=ni _ _ _ t I;let⟨D,g⟩:=Lj M O S i;exact#[r,D,_,Z,by rw[jb,L,N,R],g]) (J.same$ je n) (((k.trans e).trans h).trans$ .new n)]
theorem GK(e:σ[0]?=δ (↑p)):Ev H0 p wl ys Hb σ (g9 AH (tC$ .str "<=/")$ Ix 3) PG:=λH Q m W q=>
 Qn e VU VU H _ m W λv h #[d,E,D,a] b k=>by let⟨g,i,x⟩:=AB D a;exact#["<=/",d,g,Z,E,VX,i,q _ h #[_,Z,x] b k]
theorem GJ{K:γ}{P:Hp->V->Prop}(M:nX P)(e:σ[0]?=δ (↑p))(j:Ev H0 p wl ys Hb σ T P)(r:Ev H0 p wl ys Hb σ s P):Ev H0 p wl ys Hb σ (g9 (vU K) (Iu$ ar T$ ar s bh)$ Ix 2) P:=λH Q m W q=>
 j H _ m W λc u X y k=>r u _ (m.trans k) y λf z A g a=>#[cp,λl n=>Qn e VU VU _ _ (((m.trans k).trans a).trans$ .new n) (g.same$ je n) λv C #[d,E,G,I] D h=>by
  let t:=(Fw.new (p:=p) (o:=HO.lst [c,f]) n).trans h;let i:∃x,eU [c,f] d=δ x/\P z x:=by
   rcases(by omega:d=0∨d=1) with rfl |rfl
   .exact#[_,Z,M _ _ _ a.t X]
   .exact#[_,Z,A]
  let⟨x,i,F⟩:=i;exact#[l,_,d,_,Z,E,aI.of$ h.b _ _ (g.B.ne n) jb,i,q _ C (M _ _ _ t.t F) D ((k.trans a).trans t)]]
theorem C7(i:Ev H0 p wl ys Hb σ T (FG f))(j:Ev H0 p wl ys Hb σ l (PP m))(o:Ev H0 p wl ys Hb σ s (PB Cf ys 1 n))(Y:n<=100)(u:ys.length<=20):Ev H0 p wl ys Hb σ (cY$ ar T$ ar l$ ar s bh) (II Cf ys m n f):=λH Q M W q=>
 i H _ M W λv y (e:v= .str f) A c=>j y _ (M.trans c) A λV B #[a,ps,C,D,L] F d=>o B _ ((M.trans c).trans d) F λG H4 #[b,I,E,h,X,J] N g=>#[ie,λr O=>zm (P:=II Cf ys m n f) N (λR S x U k=>q R S x U (((c.trans d).trans g).trans k)) O λt z=>
  #[r,V,G,Z,by rw[z,e],BO (f:=f) (by rw[z,e,C,E]) (t _ _$ g.t _ _ D) L (t _ _ h) (X.mono t) VV u,ou _ _ _ t #[b,I,E,h,X,J]]]
theorem uU:nX (II Cf ys n m f):=λ_ _ _ k #[a,q,b,e,h,H,c]=>#[a,q,b,e,k _ _ h,H.mono k,ou _ _ _ k c]
theorem GH{K:γ}(e:σ[i]?=δ (δ v))(h:II Cf ys n m f Hb v):Ev H0 p wl ys Hb σ (g9 (cw K) (bK i)$ tC$ .int 2) (PB Cf ys 1 m):=λH Q M W q=>by let⟨a,g,b,rfl,c,_,d⟩:=h;exact#[_,e,a,_,_,_,Z,Z,aB.of$ M.t _ _ c,jG (j:=2) Z,q _ H (ou _ _ _ M.t d) W .refl]
theorem C8{P:Hp->V->Prop}(M:nX P)(h:Ev H0 p wl ys Hb σ i P)(j:Ev H0 p wl ys Hb σ l (FG f))(r:Ev H0 p wl ys Hb σ x (PK m)):Ev H0 p wl ys Hb σ (cY$ ar i$ ar l$ ar (cY$ ar x bh) bh) (λH v=>∃t T u d,v= .ref t/\H t=δ (.tup [u,.str f,.ref T])/\P H u/\H T=δ (.tup [.int d])/\0<=d/\d < m):=λH Q a W q=>
 h H _ a W λc y X z k=>j y _ (a.trans k) z λe A (E:e= .str f) B b=>r A _ ((a.trans k).trans b) B λC L #[d,D,F,G] I g=>#[iZ,λT n=>#[ie,λt N=>q _ _ (by
  let S:=je (o:=HO.tup [C]) n;let s:=je (o:=HO.tup [c,e,.ref T]) N;let J:=(b.trans g).t.trans (aa.tm$ S.trans s);exact#[t,T,c,d,Z,by rw[jb,E],M _ _ _ J X,s _ _ (by rw[jb,D]),F,G]) ((I.same$ je n).same$ je N) (((k.trans b).trans g).trans ((Fw.new n).trans$ .new N))]]
def Mf(y Y a:ρ)(H:Hp)(v:V):Prop:=∃r D x,v= .ref r/\H r=δ (.tup x)/\cQ H D x/\D.length=3/\((∀d∈D,mX d/\d.b.Cs [(y,1),(Y,1),(a,1)])/\D.map Df.f=[y,Y,a])/\mP H D [1,1,1]
theorem Hh:nX (Mf y Y f):=λ_ _ _ k #[r,d,x,e,h,H,a,b,c]=>#[r,d,x,e,k _ _ h,H.mono k,a,b,c.mono k]
theorem ur{K:γ}{D:bV}(W:Wd H0 H p wl ys)(l:σ[1]?=δ (↑wl))(k:ys.length=9)
  (q:∀a b c d e g,PT ys 0 g a->PT ys 0 g b->PT ys 0 g c->PT ys 0 g d->PT ys 0 g e->Wd H0 g p wl ys->D.nx (((((σ.set 2$ δ a).set 3$ δ b).set 4$ δ c).set 5$ δ d).set 6$ δ e) g):
  fe (xu (BX K$ Mw (Ez K) (bK 1) (xF$ tC$ rz 2)$ xF$ tC$ rz 7) 1 [] (bQ 0) mN$ cY$ ar (tC$ ry "var")$ ar (bK 0) bh) (Ln K 5$ eL (bQ 2)$ eL (bQ 3)$ eL (bQ 4)$ eL (bQ 5)$ eL (bQ 6) yH) D σ H:=by
 let B:=aJ;refine#[_,l,_,Z,_,Z,wl,_,Z,aI.of W.w,λs n=>?_];let t:af H s (.lst$ aW (ys.map ry) (δ 2)$ δ 7) s=δ (.lst (((ys.drop 2).take 5).map ry)):=by rw[Gr k];exact jb
 let S:=je (o:=HO.lst (aW (ys.map ry) (δ 2)$ δ 7)) n;generalize af H s (.lst$ aW (ys.map ry) (δ 2)$ δ 7)=A at t S;let L:((ys.drop 2).take 5).length=5:=by rw[Nq,NN,k];rfl
 refine#[s,Z,#[_,aI.of t],?_];refine rh (K:=K) (a:=s) (xs:=((ys.drop 2).take 5).map ry) (by rw[MY,L];omega) (λi j g=>j.length=i/\(∀v∈j,PT ys 0 g v)/\aa A g) #[Z,(λ_ h=>absurd h Ny),aa.refl _] (λi j g h=>#[aI.of$ h.2.2 _ _ t,Sl h.1]) (λi x j g C h=>?_) (λj F h E N=>?_)
 .let⟨y,k,rfl⟩:=dN.mp (Nc C);exact#[_,Z,cp,λr u=>#[by rw[MZ,h.1];rfl,Jn (λa z=>bg _ _ _ (aa.tm$ je u) (h.2.1 a z)) #[r,Z,xM jb$ RY$ Om k],h.2.2.trans$ je u]]
 .let e:=h.1;rw[MY,L]at e;let⟨a,b,c,d,f,rfl⟩:=Lu e;let m:=aa.tm (je (o:=HO.lst [a,b,c,d,f]) N);exact#[E,_,Z,aI.of jb,Z,_,_,Z,_,_,Z,_,_,Z,_,_,Z,_,_,Z,Z,q a b c d f _ (bg _ _ _ m$ h.2.1 a VW) (bg _ _ _ m$ h.2.1 b VW) (bg _ _ _ m$ h.2.1 c VW) (bg _ _ _ m$ h.2.1 d VW) (bg _ _ _ m$ h.2.1 f VW) (((W.same S).same h.2.2).same$ je N)]
end
theorem dG:ai z40z z2z (ae AW):=bN
noncomputable def Za:ir:=#[.function,[(".0",.local),("_law_one",.local)],ξ,ξ,[]]
theorem yY:(["_law_one"]:List ρ).Nodup:=by decide+kernel
theorem yv:be z40z (ae AW) Za ["_law_one"] 1 []:=oR
theorem D3(F:tf K "_law_masked" AW f fd)(L:Cl P w K mg base 1 fT f0 z1z bq "_law_take")(cA:Cl P w K mg base 2 fA f' z25z gJ "_law_names"):ah P w K mg base aE 4 f fd z2z pP:=by
 refine F.ok dG λc0 A o1 s H V Q E D h=>?_
 let⟨p,rfl,B,q⟩:=h;refine#[_,(jd (jB 1 dG.nd$ cA.e D.m$ ja (pv 0)$ ja jf jc)$ jd (zk (@zK _ _ _ _ _ _ _ (["_law_one"]) (1) ([]) _ _ _ _ Z (zc$ jM zo (pv 1) (jL jf)$ jL jf) yv (λ_ _ _ _ _=>(jr (i:=0) yY Z$ ω Z)) (λ_ _ _ _ _=>(@zZ _)) (λ_ _ _ _ _=>(jl$ ja jw$ ja (pv 0) jc)) (by intro _;rfl))$ @AA _ _ _ _ (5) _ Z (jE (jr (i:=2) dG.nd Z$ ω Z)$ jE (jr (i:=3) dG.nd Z$ ω Z)$ jE (jr (i:=4) dG.nd Z$ ω Z)$ jE (jr (i:=5) dG.nd Z$ ω Z)$ jE (jr (i:=6) dG.nd Z$ ω Z) kH) VY VY)$ jd (jB 7 dG.nd$ jl$ ja jw$ ja jw$ ja (pv 3)$ ja (jl$ ja jw$ ja (L.e D.m$ ja (pv 0)$ ja jf jc) jc) jc)$ jd (jB 8 dG.nd$ jl$ ja jw$ ja (ju Kl jw (L.e D.m$ ja (pv 0)$ ja jf jc) (λ_ _=>Z))$ ja (pv 6)$ ja (jl$ ja jw$ ja (jx jX jf$ L.e D.m$ ja (pv 0)$ ja jf jc) jc) jc)$ jd (jB 9 dG.nd$ jl$ ja (ju jD (pv 1) jf (λ_ _=>Z))$ ja (jl$ ja (ju jD (pv 1) jf (λ_ _=>Z)) jc)$ ja (jl$ ja (jl$ ja jw$ ja (ju jD (pv 1) jf (λ_ _=>Z))$ ja (pv 7) jc)$ ja (jl$ ja jw$ ja (jl$ ja jw$ ja (jx jX jf$ L.e D.m$ ja (pv 0)$ ja jf jc) jc)$ ja (pv 3) jc)$ ja (jl$ ja jw$ ja (pv 8) jc) jc) jc)$ jd (jB 10 dG.nd$ jl$ ja (jl$ ja jw$ ja (ju jD (pv 1) jf (λ_ _=>Z))$ ja (pv 3) jc)$ ja (jl$ ja jw$ ja (ju jD (pv 1) jf (λ_ _=>Z))$ ja (ju jD (pv 1) jf (λ_ _=>Z))$ ja (jl$ ja (pv 6) jc) jc)$ ja (jl$ ja jw$ ja (jl$ ja jw$ ja jw$ ja (jl$ ja jw$ ja (ju jD (pv 1) jf (λ_ _=>Z)) jc)$ ja (pv 6) jc) jc) jc)$ jd (jB 11 dG.nd$ jl$ ja (ju jD (pv 1) jf (λ_ _=>Z))$ ja (jl$ ja (ju jD (pv 1) jf (λ_ _=>Z)) jc)$ ja (ju jD (jK$ ja (pv 10)$ ja (jv$ pv 9) jc) (L.e D.m$ ja (pv 0)$ ja jf jc) (λ_ _=>Z)) jc)$ jd (jB 12 dG.nd$ jl$ ja (jl$ ja jw$ ja (ju jD (pv 1) jf (λ_ _=>Z))$ ja (ju jD (pv 1) jf (λ_ _=>Z))$ ja (jl$ ja (pv 3) jc) jc)$ ja (jl$ ja jw$ ja (ju jD (pv 1) jf (λ_ _=>Z))$ ja (jl$ ja jw$ ja jw$ ja (pv 4)$ ja (pv 5) jc) jc)$ ja (jl$ ja jw$ ja (ju jD (pv 1) jf (λ_ _=>Z))$ ja (jl$ ja jw$ ja jw$ ja (pv 3)$ ja (jl$ ja jw$ ja jf jc) jc) jc) jc)$ jd (jB 13 dG.nd$ jl$ ja (ju jD (pv 1) jf (λ_ _=>Z))$ ja (jl$ ja (ju jD (pv 1) jf (λ_ _=>Z)) jc)$ ja (jl$ ja (jl$ ja jw$ ja (jl$ ja jw$ ja jw$ ja (pv 3)$ ja (pv 2) jc)$ ja (pv 12) jc)$ ja (jl$ ja jw$ ja (pv 4) jc) jc) jc)$ jg$ jm$ jl$ ja (jl$ ja (pv 13)$ ja (pv 11)$ ja (pv 9) jc)$ ja (ju jD (pv 1) jf (λ_ _=>Z))$ ja (jl$ ja (jx jX jf$ L.e D.m$ ja (pv 0)$ ja jf jc) jc) jc),?_];refine aj λFa fa=>#[_,Z,p,9,Z,B,VU,VU,λW Y Ha n6 R S b Ba ka=>fa _ _ ?_];clear fa;let S:Y.length=9:=by omega
 obtain⟨T,U⟩:∃y,Y[0]?=δ y:=#[_,MV (by omega:0 < Y.length)];obtain⟨N,h1⟩:∃y,Y[1]?=δ y:=#[_,MV (by omega:1 < Y.length)];obtain⟨G,h8⟩:∃y,Y[8]?=δ y:=#[_,MV (by omega:8 < Y.length)];let nq:∀(i j:Nat) (x y:ρ),i < 9->i≠j->Y[i]?=δ x->Y[j]?=δ y->x≠y:=λi j x y hi h2 hx hy e=>h2 ((Sj (by omega:i < Y.length) b.2).mp$ hx.trans ((Od δ e).trans hy.symm));let n0:=nq 0 1 _ _ VU VU U h1;let n4:=nq 0 8 _ _ VU VU U h8;let n5:=nq 1 8 _ _ VU VU h1 h8;let h3:[T,N,G].Nodup:=by simp [n0,n4,n5]
 let h4:∀y∈[T,N,G],y.length<=20:=λy hy=>by
  simp only[Oz,Ny,P5]at hy;rcases hy with rfl |rfl |rfl
  .exact b.1 _$ Nc U
  .exact b.1 _$ Nc h1
  .exact b.1 _$ Nc h8
 let W0:Wd H Ha p W Y:=#[Ba,ka,R];clear R Ba ka nq;refine aj λF1 f1=>ur W0 Z S λg l V o C H1 xn X xs xy xz W1=>f1 _ _ ?_;clear f1;show cy _ _ _ [↑p,↑W,δ g,δ l,δ V,δ o,δ C,θ,θ,θ,θ,θ,θ,θ] H1;refine aj λF2 f2=>qQ W1 (Qo (n:=1) (Xu Q4) (zP Z bg X) (Zf (Qn Z VU VU) VU) VU VU) λI H2 x2 W2 k2=>f2 _ _ ?_;clear f2;show cy _ _ _ [↑p,↑W,δ g,δ l,δ V,δ o,δ C,δ I,θ,θ,θ,θ,θ,θ] H2;refine aj λF3 f3=>qQ W2 (Qo (n:=1) (GK Z) (zP Z bg$ bg _ _ _ k2.t xz) (Zf (Yp (Qn Z VU VU) VU) VU) VU VU) λO H3 x3 W3 k3=>f3 _ _ ?_;clear f3;let m0:=k2.t.trans k3.t;show cy _ _ _ [↑p,↑W,δ g,δ l,δ V,δ o,δ C,δ I,δ O,θ,θ,θ,θ,θ] H3;refine aj λF4 f4=>qQ W3 (C7 (Cf:=[(G,1)]) (Qr (k:=8) Z Z h8) (um$ KZ Z VU VV) (Ev.up (uj (BQ (KZ Z VU VV) (zP Z bg$ bg _ _ _ k3.t x2) VU) (GQ (Zf (Yp (Qn Z VU VU) VU) VU) (zP Z bg$ bg _ _ _ m0 X) VU VU)$ ul (zP Z bg x3) VU) λ_ _=>PB.lift) VU VV) λv4 H4 x4 W4 k4=>f4 _ _ ?_;clear f4;let c:=m0.trans k4.t;show cy _ _ _ [↑p,↑W,δ g,δ l,δ V,δ o,δ C,δ I,δ O,δ v4,θ,θ,θ,θ] H4;refine aj λF5 f5=>qQ W4 (Ev.up (uj (Cf:=[(G,1)]) (BQ (KZ Z VU VV) (zP Z bg$ bg _ _ _ c X) VU) (uk (KZ Z VU VV) (Qr (k:=8) Z Z h8) No (zP Z bg$ bg _ _ _ c xz) VU)$ ul (Qo (n:=1) (Xu Q5) (GN$ KZ Z VU VV) (zP Z bg$ bg _ _ _ c xz) VU VU) VU) λ_ _=>PB.lift) λv5 H5 x5 W5 k5=>f5 _ _ ?_;clear f5;let m2:=c.trans k5.t;show cy _ _ _ [↑p,↑W,δ g,δ l,δ V,δ o,δ C,δ I,δ O,δ v4,δ v5,θ,θ,θ] H5;refine aj λF6 f6=>qQ W5 (BP (Cf:=[(G,1)]) (Qr (k:=1) Z Z h1) (um$ KZ Z VU VV) (GJ ou Z (zP Z ou x5)$ GH Z$ uU _ _ _ k5.t x4) VU VV) λv6 H6 x6 W6 k6=>f6 _ _ ?_;clear f6;let M:=m2.trans k6.t;show cy _ _ _ [↑p,↑W,δ g,δ l,δ V,δ o,δ C,δ I,δ O,δ v4,δ v5,δ v6,θ,θ] H6;refine aj λF7 f7=>qQ W6 (uj (Cf:=[(N,1)]) (uk (KZ Z VU VV) (Qr (k:=1) Z Z h1) No (zP Z bg$ bg _ _ _ M X) VU) (BR (KZ Z VU VV) (Qo (n:=1) (Xu Q4) (zP Z bg$ bg _ _ _ M xs) (zP Z bg$ bg _ _ _ M xy) VU VU) VU)$ BR (KZ Z VU VV) (Qo (n:=1) (Xu Q4) (zP Z bg$ bg _ _ _ M X) (Zf (Lm VU (by decide:(1:Int) < 2)) VU) VU VU) VU) λv7 H7 x7 W7 k7=>f7 _ _ ?_;clear f7;let J:=M.trans k7.t;show cy _ _ _ [↑p,↑W,δ g,δ l,δ V,δ o,δ C,δ I,δ O,δ v4,δ v5,δ v6,δ v7,θ] H7;refine aj λF8 f8=>qQ W7 (BP (Cf:=[(N,1)]) (Qr (k:=0) Z Z U) (um$ KZ Z VU VV) (GF (GP (Qo (n:=1) (Xu Q5) (zP Z bg$ bg _ _ _ J X) (zP Z bg$ bg _ _ _ J xn) VU VU) (zP Z ou x7) VU VU)$ Ev.up (ul (zP Z bg$ bg _ _ _ J xs) VU) λ_ _=>gm.lift) VU VV) λv8 H8 x8 W8 k8=>f8 _ _ ?_;clear f8;let m1:=k7.t.trans k8.t;let m3:=(k5.t.trans k6.t).trans m1;show gg _ _ [↑p,↑W,δ g,δ l,δ V,δ o,δ C,δ I,δ O,δ v4,δ v5,δ v6,δ v7,δ v8] H8;refine EB W8 (C8 (P:=Mf T N G) Hh (GG (n1:=1) (n2:=1) (n3:=1) (f1:=T) (f2:=N) (f3:=G) #[VU,VU,VU] (Ev.up (zP Z ni x8) (λ_ _ #[a,e,h]=>#[a,e,h.more VW])) (Ev.up (zP Z ni$ ni _ _ _ m1 x6) (λ_ _ #[a,e,h]=>#[a,e,h.more VW])) (Ev.up (zP Z uU$ uU _ _ _ m3 x4) (λ_ _ #[a,_,_,e,_,h,_]=>#[a,e,h.more VW]))) (Qr (k:=0) Z Z U)$ Yp (Qn Z VU VU) VU) λv Hz x Wz=>?_;obtain⟨t,ta,u,dd,rfl,ht,⟨r,ds,x0,rfl,g0,g1,g2,g3,g4⟩,ha,d0,d1⟩:=x;refine q t r _ _ ds x0 Hz ht g0 g1 VV VV [1,1,1] #[by rw[g3.2];exact g3.1,by rw[g3.2];exact#[h3,h4]] g4 ?_ Wz.B Wz.K;obtain⟨d,rd,rfl⟩:∃d rd,ds=d::rd:=by
  cases ds with
  |nil=>cases g2
  |cons d rd=>exact#[d,rd,Z]
 let ed:d.f=T:=by let z:=g3.2;rw[Oe]at z;injection z
 let⟨ps,h5,h6,_⟩:=g4.2 0 d 1 Z Z;exact#[d,ps,ta,[dd],No,by rw[ed],h5,Z,ha,by rw[h6];rfl,by show 1<=100;decide,λi hi=>by rw[υ.mp hi];exact#[VV,VV]]
abbrev IR:cv:=bP 76
abbrev EC:cv:=bP 77
theorem tE{st:η}(B:ap H p)(a:H st=δ (.lst l))(k:aM p st H H'):ax H H':=λb X e=>by
 let N:b≠p:=λz=>by subst z;let E:=(aH.tm (p:=b) (H:=H) (H':=λx=>if x=b then θ else H x) (λc o n h=>by show(if c=b then θ else H c)=δ o;rw[Na n];exact h) B) b X e;let E:(if b=b then θ else H b)=δ (HO.tup X):=E;rw[M7 Z]at E;cases E
 exact k b _ N (jP e a (by intro z;cases z)) e
theorem ua{D:DF}{w:Sk}(H:dI w=D f n b)(a:Dt D f w):∀{s:Sk},s.ok μ->Dt D f s->Dt D f (Sk.put n b w s)
 | .nil,_,_=>#[H,a,trivial]
 | .st _ _ _ r,o,h=>#[h.1,h.2.1,ua H a o.2 h.2.2]
 | .ask _,o,_=>o.elim
 | .rd _ _,o,_=>o.elim
 | .wr _ _,o,_=>o.elim
 | .cl _ _ _ _,o,_=>o.elim
theorem C3{p:List dM}{f:ρ}{a:dM}{n:Nat}{c:Fv}{hs:List Int}(H:eP p f=δ a)(h:a.cs[n]?=δ c):oU p f (n:Int) hs=tR (aP c.nm hs) c.e:=by show(match eP p f with |none=>Tr.nil |some a=>match a.cs[((n:Int)).toNat]? with |none=>Tr.nil |some c=>tR (aP c.nm hs) c.e)=_;rw[H];dsimp only;rw[NQ,h]
inductive nH(l:η)(j:Nat)(q:List V)(H:Hp)(Q:VK)(c:XK):Prop
 |mk(n f o p:η)(b i k:Nat)(d:Df)(g:List Df)(m:List Nat)(r:List V)(e:List dM)(h:List Int)(_:q=[.ref n,.str d.f,.ref f,.int (b:Int),.ref o])(_:b+j=17)(_:1<=j)(_:Ps H l n g m r e)(_:g[i]?=δ d)(_:m[i]?=δ h.length)(_:H f=δ (.tup (h.map rz)))(_:∀z∈h,fu z)(_:H o=δ (.lst [.ref p,.int (k:Int)]))(_:k<=60)(_:ap H p)(_:o≠p)(_:∀(u:V) (sk:Sk) (a:Int) (k':Nat) (H':Hp),i6 H' d.f h sk a u->sk.ok μ->(0 < k'->sk.dep+1 < j)->Dt (oU e) d.f sk->fu a->sk.size+k'<=k->H' o=δ (.lst [.ref p,.int (k':Int)])->ap H' p->aM p o H H'->Q u H')
inductive pH(h:η)(l:List V)(H:Hp)(Q:VK)(b:XK):Prop
 |mk(k e p:η)(i:Nat)(d:Df)(f:List Df)(j:List Nat)(m:List V)(c:List dM)(g:List Int)(_:l=[.ref k,.str d.f,.ref e,.ref p])(_:Ps H h k f j m c)(_:f[i]?=δ d)(_:j[i]?=δ g.length)(_:H e=δ (.tup (g.map rz)))(_:∀z∈g,fu z)(_:ap H p)(_:∀(u:V) (H':Hp),(u= .non∨∃sk a,i6 H' d.f g sk a u/\sk.ok μ/\sk.dep<=15/\sk.size<=60/\Dt (oU c) d.f sk)->ap H' p->aH p H H'->Q u H')
inductive Fx(e:DD)(k:aZ)(H:Hp)(s:ρ)(r:List V):Prop
 |ask (t:η) (T:Tm) (e1:e= .ask t T) (e2:s="ask") (e3:r=[.int (if T.ev k=0 then 0 else 1)]):Fx e k H s r
 |rd (p0:η) (x:ρ) (a:η) (T:Tm) (e1:e= .st p0 (.rd x a T)) (e2:s="read") (e3:r=[.int (T.ev k)]):Fx e k H s r
 |wr (p0 a b:η) (T U:Tm) (e1:e= .st p0 (.wr a b T U)) (e2:s="write") (e3:r=[.int (T.ev k),.int (U.ev k)]):Fx e k H s r
 |cl (p0:η) (x f:ρ) (q:η) (ts:List (η×Tm)) (ag:η) (e1:e= .st p0 (.cl x f q ts)) (e2:s="call") (e3:r=[.str f,.ref ag]) (h:H ag=δ (.tup ((ts.map λc=>c.2.ev k).map rz))):Fx e k H s r
theorem C2(h:yd H G e)(t:aR H (tR k e) u []):∃(p:η) (s:ρ) (r:List V),u= .ref p/\H p=δ (.tup (.str s::r))/\Fx e k H s r:=by
 cases e with
 |ask b T=>let⟨p,rfl,g⟩:=JF t;exact#[p,_,_,Z,g,.ask b T Z Z Z]
 |st i l=>
  let⟨F,_,_,_,C⟩:=h;cases l with
  |gv b T |st x b T=>cases C
  |rd x b T=>let⟨p,rfl,g⟩:=JF t;exact#[p,_,_,Z,g,.rd i x b T Z Z Z]
  |wr b n T U=>let⟨p,y,rfl,g,d⟩:=Yt t;rw[Je d]at g;exact#[p,_,_,Z,g,.wr i b n T U Z Z Z]
  |cl x f q j=>
   let⟨p,o,rfl,g,d⟩:=Kc t;let⟨I,v,rfl,E,d⟩:=zq d;let⟨J,Y,rfl,z,d⟩:=zq d;let B:Y=[]:=d;subst B;rw[Q9 E]at g;let⟨D,A,rfl,m,a⟩:=Jd z;let a:aR H (ay ((j.map λc=>c.2.ev k).map aq)) .non A:=by rw[OQ];exact a
   rw[Jo a]at m;exact#[p,_,_,Z,g,.cl i x f q j D Z Z Z m]
inductive Mb(f:List dM)(A D i I p F:η)(d:Df)(a j k:Nat)(v:V)(H:Hp)(z:Nat)(J:_L.St)(h:Hp):Prop
 |mk(B C e:Option V)(x:V)(g:Gd)(E:Sk)(G:List V)(y:Nat)(l:J=[↑D,δ (.str d.f),↑i,δ (.int (a:Int)),↑I,δ v,δ x,↑F,B,C,e])(m:h F=δ (.lst G))(n:dD h E .non G)(o:E.ok μ)(q:0 < y->E.dep < j)(r:ye h A d x g)(s:h I=δ (.lst [.ref p,.int (y:Int)]))(t:E.size+y<=k)(u:ap h p)(w:aM p I H h)(b:Dt (oU f) d.f E)(c:z=y+1)
theorem lh:ai ["_law_parts","_law_f","_law_args","_law_deep","_law_state","_law_part","_law_goal","_law_steps","_law_deed","_law_what","_law_step"] z17z (ae IR):=bN
theorem Hq(F:tf K "_law_dreamt" IR f fd)(cN:Cl P w K mg base 2 fN k6 ["parts","f"] iT "part_of")(cF:Cl P w K mg base 9 fF k8 ["part","args"] (em nA) "first_of")(cE:Cl P w K mg base 9 fE k9 z9z (eh nA) "deed_at")(cU:Cl P w K mg base 2 fU k' z2z fV "_law_number")(cO:Cl P w K mg base 9 fO l1 ["part","step"] (oM nA) "onward")(cD:Cl P w K mg base (j+9) fD l3 z17z (nH nA j) "_law_dreamt")(m0:mg "tuple"=θ):ah P w K mg base aE (j+10) f fd z17z (nH nA$ j+1):=by
 refine F.ok lh λl4 A o3 s H vs Q E hr h=>?_
 let⟨pA,ag,st,p,D,i,k,d,ds,ns,xs,p1,is,rfl,l5,_,hP,hd,hn,ha,b3,a4,j',B,h7,q⟩:=h;refine#[_,(jd (jB 5 lh.nd$ cN.e hr.m$ ja (pv 0)$ ja (pv 1) jc)$ jd (jB 6 lh.nd$ cF.e hr.m$ ja (pv 5)$ ja (pv 2) jc)$ jd (jB 7 lh.nd$ jK jc)$ jd (jy (jz qo (pv 3) jf$ aF _) (jg$ zk jf$ qM (pv 4) jf zD) jo)$ jd (Ku Nu (PW.pt$ qL (jW$ jv$ pv 6)$ qd$ jz qo (ju jD (pv 4) jf (λ_ _=>Z)) jf$ aF _)$ jd (zk (jx kP (ju jD (pv 4) jf (λ_ _=>Z)) jf)$ qM (pv 4) jf zD)$ jd (jB 8 lh.nd$ cE.e hr.m$ ja (pv 5)$ ja (jv$ pv 6)$ ja (jv$ pv 6) jc)$ jd (jB 9 lh.nd$ pv 8)$ jd (zb$ jy (jW$ jv$ pv 8) (jg$ jB 9 lh.nd$ jl$ ja jw$ ja (jv$ pv 8)$ ja (cU.e hr.m$ ja (ju jD (pv 4) jf (λ_ _=>Z)) jc) jc) jo)$ jd (zb$ jy (jW$ jv$ pv 8) (jg$ jB 9 lh.nd$ jl$ ja jw$ ja (cD.e hr.m$ ja (pv 0)$ ja (jv$ pv 8)$ ja (jv$ pv 8)$ ja (jx jX (pv 3) jf)$ ja (pv 4) jc) jc) jo)$ jd (jB 10 lh.nd$ jl$ ja (jv$ pv 6)$ ja (jv$ pv 6)$ ja (pv 9) jc)$ jd (jH$ j8 M' Nt Nr jR (pv 7)$ ja (pv 10) jc)$ jg$ jy (jz qo (ju jD (pv 4) jf (λ_ _=>Z)) jf$ aF _) (jg$ jB 6 lh.nd$ cO.e hr.m$ ja (pv 5)$ ja (pv 10) jc) jo)$ jd (jy (jW$ jv$ pv 6) (jd (zk jf$ qM (pv 4) jf zD)$ jg$ jm$ jl$ ja (pv 1)$ ja (pv 2)$ ja (jJ jO Z m0 OG$ ja (pv 7) jc)$ ja jf jc) jo)$ jg$ jm$ jl$ ja (pv 1)$ ja (pv 2)$ ja (jJ jO Z m0 OG$ ja (pv 7) jc)$ ja (jv$ pv 6) jc),?_];let l6:=aJ;let⟨v,hv,_,d7,d8⟩:=hP.at hd;let⟨ys,pd,b4,l',pr,d'⟩:=hP.part hd hv;let⟨ps,b5,f3,f4⟩:=hP.pa.2 i d _ hd hn;let f5:ps=pd.ps:=by let z:=b5.symm.trans pr.ps;injection z with z;injection z with z;exact(R8 λa b e=>by injection e).mp z
 subst f5;refine aj λO r=>#[_,Z,_,Z,pA,d.f,xs,i,v,Z,hP.at',hv,d7,d8,r _ _ ?_];clear r;refine aj λO r=>#[_,Z,_,Z,v,ag,d,ys,pd.ps,is,pd.way,Z,b4,b5,VV,ha,f3.symm,b3,pr.wy,pr.wv,λgl H1 f6 s1=>r _ _ ?_];clear r;let gz:GT (aP pd.ps is):=qR b3;let g4:=QU (H:=H) f6 (qf pr.wv.sets gz) pr.wv.goal;rw[pr.nms]at g4;generalize i9 (uY pd) (dm pd.way.sets$ aP pd.ps is) pd.way.goal=g0 at g4;refine aj λO r=>#[fj,λS n6=>r _ _ ?_];clear r;let s2:aa H1 (af H1 S$ .lst []):=je n6;let X:af H1 S (.lst []) S=δ (.lst []):=jb;generalize af H1 S (.lst [])=H2 at s2 X ⊢;let S2:=s1.trans s2;let h8:=S2 _ _ a4;let B2:=B.same S2;let n4:H S=θ:=by
  cases z:H S with
  |none=>rfl
  |some o=>have:=s1 _ _ z;rw[n6]at this;cases this
 let Y:S≠st:=NA (ji a4 n4);let s0:S≠p:=B.ne n4;let g5:=g4.mono (aa.tm s2);refine aj λO r=>?_;let nx:∀(k0:Nat) (J:Hp),k0<=k->(0 < k0->0 < j)->J st=δ (.lst [.ref p,.int (k0:Int)])->ap J p->aM p st H2 J->O [↑pA,δ$ .str d.f,↑ag,δ$ .int (D:Int),↑st,δ v,δ gl,↑S,θ,θ,θ] J:=by
  intro k0 J f7 b7 a3 B3 k3;refine r _ _ ?_;clear r;let t5:=tE B2 h8 k3;let K3:aM p st H J:=(aM.of_same S2).trans k3;refine aj λO r=>?_;refine oO (Mb p1 nA pA ag st p S d D j k v H) (k0+1) #[θ,θ,θ,gl,g0,.nil,[],k0,Z,k3 _ _ s0 Y X,Z,trivial,b7,g5.mono t5,a3,by show 0+k0<=k;omega,B3,K3,trivial,Z] ?_;clear b7 a3 B3 k3 t5 K3 g5 f7;clear J;intro kk σ J E' rt fE F kT cF.k Gq kq hW;let⟨o8,o9,o2,gl,gd,sk,ss,I,rfl,w1,w2,w3,w4,w5,w6,w7,w8,w9,w',m1⟩:=hW;let t0:=tE B a4 w9;let m2:=qr w3 w2;let e':∀(w:V) (x:Int) (H4:Hp) (k4:Nat),fu x->aa J H4∨H4=af J st (.lst [.ref p,.int (k4:Int)])->k4<=I->H4 st=δ (.lst [.ref p,.int (k4:Int)])->∀X v2,H4 X=θ->(af H4 X$ .tup ss) v2=θ->Q (.ref v2) (af (af H4 X$ .tup ss) v2$ .tup [.str d.f,.ref ag,.ref X,.int x]):=by
   intro _ x H4 k4 ix h4 lk b8 X v2 n3 n5;let K4:aM p st H H4:=by
    rcases h4 with h4 |rfl
    .exact w9.trans$ aM.of_same h4
    .exact w9.trans aM.at
   let y:ax J H4:=by
    rcases h4 with h4 |rfl
    .exact aa.tm h4
    .exact z9 w6
   let B4:ap H4 p:=by
    rcases h4 with h4 |rfl
    .exact w8.same h4
    .exact w8.eq$ jh h7.symm
   let s5:=(je (o:=.tup ss) n3).trans (je (o:=.tup [.str d.f,.ref ag,.ref X,.int x]) n5);let t3:=y.trans (aa.tm s5);exact q _ sk x k4 _ #[v2,ag,X,ss,Z,jb,t3 _ _$ t0 _ _ ha,am jb n5,w2.mono t3] w3 (λz=>by let:=w4 VV;omega) w' ix VV (s5 _ _ b8) (B4.same s5) (K4.trans$ aM.of_same s5)
  cases w5 with
  |give gp a a5 h5 ia=>subst a5;refine kq$ jp h5 Z #[Z,_,Z,aT VX$ cF.k _$ r _ _ ?_];refine aj λO r=>(jp h5 Z #[Z,_,Z,aT VX$ r _ _ ?_]);clear r;refine#[_,Z,_,Z,_,Z,S,ss,Z,.inl #[aI.of w1,λX n3=>?_]];refine(jp (am h5 n3) Z #[pU,λv2 nv=>e' .non a J I ia (.inl$ aa.refl _) (M0 _) w6 X v2 n3 nv])
  |go gp N n C hs a5 h5 a1 h3 hl hi=>
   subst a5;by_cases a':0 < I
   .refine kq$ jp h5 Z #[Z,_,Z,cn VX #[_,Z,st,_,_,_,Z,Z,aI.of w6,Z,_,_,Z,Z,_,Z,?_]];rw[M9 (show(0:Int) < (I:Int) by omega)];refine kT _ ?_;clear kT cF.k r e';let P1:=b4.mono t0;let⟨pa,ca,wv,cs,m3,m4,_,_,f8⟩:=P1.parts;let⟨ka,na,wa,dv,m5,_,c0⟩:=P1.cut f8 h3;let f':n < pd.cs.length:=by rw[pr.len];exact(ν.mp h3).1
    obtain⟨cd,b'⟩:∃cd,pd.cs[n]?=δ cd:=#[_,MV f'];let cr:=(pr.cs n C cd h3 b').mono t0;let b0:=C3 (hs:=hs) d' b';let⟨g6,e,g8⟩:=cd;let⟨b1,ed,d0,g',l0,i0⟩:=cr;let b1:g6=canon C.M:=b1;subst b1;let b0:oU p1 d.f (n:Int) hs=tR (aP (canon C.M) hs) e:=b0;let gk:GT (aP (canon C.M) hs):=qR hi;let c6:e.Cs ((ds.map Df.f).zip ns):=by
     cases e with
     |ask=>trivial
     |st p0 l=>cases l<;>first |trivial |exact hP.cs hd _ g'
    refine aj λO r=>#[_,Z,st,_,_,_,Z,Z,aI.of w6,Z,_,_,Z,Z,_,Z,st,_,_,1,Z,Z,w6,Z,r _ _ ?_];clear r;let y:ax J (af J st$ .lst ([.ref p,.int (I:Int)].set 1 (.int ((I:Int) - 1)))):=z9 w6;let e4:af J st (.lst ([.ref p,.int (I:Int)].set 1 (.int ((I:Int) - 1)))) st=δ (.lst [.ref p,.int ((I - 1:Nat):Int)]):=by rw[jb,show((I - 1:Nat):Int)=(I:Int) - 1 by omega];rfl
    let B4:ap (af J st$ .lst ([.ref p,.int (I:Int)].set 1 (.int ((I:Int) - 1)))) p:=w8.eq (jh h7.symm);let K4:aM p st J (af J st$ .lst ([.ref p,.int (I:Int)].set 1 (.int ((I:Int) - 1)))):=aM.at;generalize af J st (.lst ([.ref p,.int (I:Int)].set 1 (.int ((I:Int) - 1))))=H4 at y e4 B4 K4;let t':=t0.trans y;refine aj λO r=>#[_,Z,jp (y _ _ h5) Z$ jp (y _ _ h5) Z #[v,n,N,d,ys,C,hs,e,Z,P1.mono y,h3,y _ _ a1,hl,hi,ed,d0.mono y,λud H5 i1 s5=>r _ _ ?_]];clear r;let d1:=d0.mono (y.trans$ aa.tm s5);let e5:=s5 _ _ e4;let B5:=B4.same s5;let K5:=K4.trans (aM.of_same s5);let t8:=y.trans (aa.tm s5);refine aj λO r=>#[_,Z,r _ _ ?_];clear r;obtain⟨p8,c9,r0,i3,h',b2⟩:∃(p8:η) (s8:ρ) (r8:List V),ud= .ref p8/\H5 p8=δ (.tup (.str s8::r8))/\Fx e (aP (canon C.M) hs) H5 s8 r8:=C2 d1 i1;subst i3;let f0:∀T:Tm,(if T.ev (aP (canon C.M) hs)=0 then (0:Int) else 1)=0∨(if T.ev (aP (canon C.M) hs)=0 then (0:Int) else 1)=1:=λT=>by
     split
     .exact .inl Z
     .exact .inr Z
    refine aj λO r=>gA (λσ0 H'=>∃uw,σ0=[↑pA,δ$ .str d.f,↑ag,δ$ .int (D:Int),↑st,δ v,↑gp,↑S,↑p8,δ uw,o2]/\aH p H5 H'/\ap H' p/\((∃p0 x f q ts a0,e= .st p0 (.cl x f q ts)/\c9="call"/\r0=[.str f,.ref a0]/\H5 a0=δ (.tup ((ts.map λc=>c.2.ev (aP (canon C.M) hs)).map rz)))∨(c9≠"call"/\∃w,dD H' w uw []/\w.ok ξ/\Fy e w.wh/\dI w=tR (aP (canon C.M) hs) e/\Dt (oU p1) d.f w/\w.dep=0/\w.size=0))) (λE1 _ fm=>(jp h' eQ #[Z,_,Z,?_])) λσ2 H6 hq=>?_
    .clear r;cases b2 with
     |ask t T e1 e2 e3=>subst e1;subst e2;subst e3;exact aT VX (fm _ _ #[_,Z,aH.of_same (aa.refl _),B5,.inr #[VX,.ask (if T.ev (aP (canon C.M) hs)=0 then 0 else 1),#[p8,Z,h'],trivial,f0 T,Z,trivial,Z,Z]])
     |wr p0 a b T U e1 e2 e3=>subst e1;subst e2;subst e3;exact aT VX (fm _ _ #[_,Z,aH.of_same (aa.refl _),B5,.inr #[VX,.wr (T.ev (aP (canon C.M) hs)) (U.ev (aP (canon C.M) hs)),#[p8,Z,h'],trivial,trivial,Z,trivial,Z,Z]])
     |cl p0 x f q' ts a0 e1 e2 e3 h=>subst e1;subst e2;subst e3;exact aT VX (fm _ _ #[_,Z,aH.of_same (aa.refl _),B5,.inl #[p0,x,f,q',ts,a0,Z,Z,Z,h]])
     |rd p0 x a T e1 e2 e3=>subst e1;subst e2;subst e3;refine cn VX$ jp h' Z #[_,Z,st,_,_,_,Z,Z,aI.of e5,Z,p,Z,B5,λnum H6 n0 n1 B6 q6=>#[ie,λv2 n5=>fm _ _ #[_,Z,(aH.of_eq q6).trans$ aH.of_same$ je n5,B6.upd_new n5,.inr #[VX,.rd (T.ev$ aP (canon C.M) hs) num,#[v2,Z,jb],trivial,#[n0,n1],Z,trivial,Z,Z]]]]
    let⟨u0,rfl,k5,B6,h6⟩:=hq;refine r _ _ ?_;clear r;let t6:=k5.tm B5;let e6:=k5 _ _ h7 e5;let K6:aM p st J H6:=K5.trans k5.two;let h0:=t6 _ _ h';refine aj λO r=>gA (λσ0 H'=>∃uw w k2,σ0=[↑pA,δ$ .str d.f,↑ag,δ$ .int (D:Int),↑st,δ v,↑gp,↑S,↑p8,δ uw,o2]/\dD H' w uw []/\w.ok ξ/\Fy e w.wh/\dI w=tR (aP (canon C.M) hs) e/\Dt (oU p1) d.f w/\(0 < k2->w.dep < j)/\w.size+k2+1<=I/\H' st=δ (.lst [.ref p,.int ((k2:Nat):Int)])/\ap H' p/\aM p st J H') (λE1 _ fm=>(jp h0 eQ #[Z,_,Z,?_])) λσ2 H7 hq=>?_
    .clear r;rcases h6 with ⟨p0,x,f,q',ts,a0,e1,e2,e3,i4⟩ | ⟨nc,w,hw,o1,ft,dn,dt,dp,sz⟩
     .subst e1;subst e2;subst e3;let⟨i2,d2,i5,i',rfl⟩:=hP.find c6;let⟨_,_,_,o4,_⟩:=d1;let hj:=w4 a';let t3:=(t0.trans t8).trans t6;refine cn VX #[_,Z,jp h0 Z$ jp h0 Z #[_,Z,_,_,Z,Z,_,Z,pA,a0,st,p,D+1,i2,I - 1,d2,ds,ns,xs,p1,ts.map λc=>c.2.ev (aP (canon C.M) hs),Z,VV,VV,hP.mono t3,i5,by rw[MY];exact i',t6 _ _ i4,λz hz=>?_,e6,VV,B6,h7,λu s2 a2 k2 H7 j0 o5 j1 j2 j3 cp e7 B7 k7=>?_]]
      .let⟨c,hc,rfl⟩:=dN.mp hz;exact qX gk (o4.2.2 c hc).1
      .let⟨c2,g,ee,s3,rfl,c1,c3,c4,c5⟩:=j0;refine#[_root_.cp,λv2 nv=>?_];let R:aa H7 (af H7 v2$ .tup [.str "call",.ref c2]):=je nv;refine fm _ _ #[_,.cl d2.f (ts.map λc=>c.2.ev (aP (canon C.M) hs)) s2 a2,k2,Z,#[v2,c2,g,ee,s3,Z,jb,R _ _ c1,R _ _ c3,R _ _ c4,c5.mono$ aa.tm R],o5,j3,?_,j2,λz=>by let:=j1 z;show s2.dep+1 < j;omega,by show s2.size+k2+1<=I;omega,R _ _ e7,B7.same R,(K6.trans k7).trans$ aM.of_same R];show aA [aK "call",aK d2.f,aA ((ts.map λc=>c.2.ev (aP (canon C.M) hs)).map aq)]=aA [aK "call",aK d2.f,aA$ ts.map λc=>aq (c.2.ev$ aP (canon C.M) hs)];rw[OQ];rfl
     .exact aT (M5 λz=>nc (by injection z))$ fm _ _ #[_,w,I - 1,Z,hw,o1,ft,dn,dt,λ_=>by rw[dp];exact Ol (M6 _)$ w4 a',VV,e6,B6,K6]
    clear h6 e6 K6 B6 h0;let⟨uw,w,k2,rfl,hw,o1,ft,dn,dt,dp,sz,e7,B7,K7⟩:=hq;refine r _ _ ?_;clear r;let t7:=tE w8 w6 K7;let g7:=t7 _ _ h5;refine aj λO r=>(jp g7 Z$ jp g7 Z #[_,Z,ie,λsa n7=>r _ _ ?_]);clear r;let s8:aa H7 (af H7 sa$ .tup [.int (n:Int),.ref N,uw]):=je n7;let e8:af H7 sa (.tup [.int (n:Int),.ref N,uw]) sa=δ (.tup [.int (n:Int),.ref N,uw]):=jb;generalize af H7 sa (.tup [.int (n:Int),.ref N,uw])=H8 at s8 e8 ⊢;let l8:=s8 _ _ (K7 _ _ s0 Y w1);refine aj λO r=>#[_,Z,.inl #[Z,_,aI.of l8],_,Z,S,_,_,Z,Z,l8,VV,r _ _ ?_];clear r;let b9:aH S H8 (af H8 S$ .lst$ ss++[.ref sa]):=λb o nb e=>by rw[jh nb];exact e
    let t4:ax H8 (af H8 S$ .lst$ ss++[.ref sa]):=z9 l8;let l9:af H8 S (.lst$ ss++[.ref sa]) S=δ (.lst$ ss++[.ref sa]):=jb;let B9:ap (af H8 S$ .lst$ ss++[.ref sa]) p:=(B7.same s8).eq (jh s0.symm);generalize af H8 S (.lst$ ss++[.ref sa])=H9 at b9 t4 l9 B9;let t1:=(aa.tm s8).trans t4;let G:=t7.trans t1;let e9:=b9 _ _ Y.symm (s8 _ _ e7);let s4:=Kz (n:=(n:Int)) (hs:=hs) (w:=w) w3;let f2:∀(g1:V) (g2:Gd) (H0:Hp),aa H9 H0->ye H0 nA d g1 g2->E'.nx [↑pA,δ$ .str d.f,↑ag,δ$ .int (D:Int),↑st,δ v,δ g1,↑S,↑p8,δ uw,↑sa] H0:=by
     intro g1 g2 H0 L j4;let t2:=G.trans (aa.tm L);refine fE (k2+1) _ _ VV #[_,_,_,g1,g2,Sk.put (n:Int) hs w sk,ss++[.ref sa],k2,Z,L _ _ l9,vS ((t4.trans$ aa.tm L) _ _ e8) (t2 _ _ a1) (hw.mono$ t1.trans$ aa.tm L) w3$ w2.mono t2,Q7 o1 w3,λz=>?_,j4,L _ _ e9,by rw[s4];omega,B9.same L,?_,ua (dn.trans b0.symm) dt w3 w',Z]
     .let h1:=dp z;let h2:=w4 a';let:=Q8 (n:=(n:Int)) (hs:=hs) (w:=w) (j:=j - 1) VV w3 VV;omega
     .intro b o n1 n2 e;exact L _ _$ b9 _ _ (ji e n4)$ s8 _ _$ K7 _ _ n1 n2$ w9 _ _ n1 n2 e
    refine#[_,Z,st,_,_,_,Z,Z,aI.of e9,Z,_,_,Z,Z,_,Z,?_];by_cases c':(0:Int) < ((k2:Nat):Int)
    .refine cn (M9 c') ?_;let W:w.wh.side < C.ws.length:=by
      rw[c0.v.len,<- ed];cases e with
      |ask ta T=>show _ < 2;unfold Wh.side;split<;>(try split)<;>omega
      |st p0 l=>show _ < 1;cases w<;>first |exact Nat.one_pos |exact o1.elim | (cases l<;>exact ft.elim)
     obtain⟨w0,d3⟩:∃w0,g8[w.wh.side]?=δ w0:=#[_,MV (by rw[l0];exact W)];let⟨d4,d5⟩:=i0 _ _ w0 (MV W) d3;let sv:lv H9 nA d ys v sa n N uw C hs w.wh e w0:=#[P1.mono G,t4 _ _ e8,h3,G _ _ a1,hl,hi,(IE o1 hw).mono t1,ed,d0.mono G,ft,by rw[d4];exact MV W,d5.mono G];exact#[_,Z,_,Z,v,uw,sa,N,n,d,ys,C,hs,w.wh,e,w0,Z,sv,λu2 H0 j5 L=>f2 u2 _ H0 L (QU (H:=H9) j5 (qf sv.wdv.sets$ Yr ft gk) sv.wdv.goal)]
    .exact aT (M5 c')$ f2 _ _ H9 (aa.refl _)$ .go gp N n C hs Z (G _ _ h5) (G _ _ a1) h3 hl hi
   .refine kq$ jp h5 Z #[Z,_,Z,cn VX #[_,Z,st,_,_,_,Z,Z,aI.of w6,Z,_,_,Z,Z,_,Z,?_]];rw[M5 (show ¬(0:Int) < (I:Int) by omega)];refine cF.k _$ r _ _ ?_;refine aj λO r=>(jp h5 Z #[Z,_,Z,cn VX ?_]);clear r;refine aj λO r=>#[_,Z,st,_,_,1,Z,Z,w6,Z,r _ _ ?_];clear r;let e0:((0:Nat):Int)=0:=rfl;refine#[_,Z,_,Z,_,Z,S,ss,Z,.inl #[aI.of (by rw[jh Y];exact w1),λX n3=>#[pU,λv2 nv=>e' .non 0 _ 0 Jc (.inr Z) (M6 _) jb X v2 n3 nv]]]
 clear r;by_cases d6:(15:Int) < (D:Int)
 .refine#[_,Z,_,_,Z,Z,_,Z,cn (M9 d6) #[_,Z,st,_,_,1,Z,Z,h8,Z,nx 0 _ (M6 _) (λz=>absurd z VU) jb (B2.eq$ jh h7.symm) aM.at]]
 .exact#[_,Z,_,_,Z,Z,_,Z,aT (M5 d6)$ nx k H2 (M0 _) (λ_=>by omega) h8 B2 aM.refl]
theorem C4(h:cQ H D v)(f:0<=k)(g:k < (v.length:Int)):∃d,eU v k=δ (.ref d.p)/\d∈D/\Bx H d (.ref d.p):=by
 let a:k.toNat < v.length:=by omega
 let E:k=((k.toNat:Nat):Int):=by omega
 let⟨d,c,b⟩:=h.at k.toNat _ (MV a);let e:v[k.toNat]= .ref d.p:=b.elim λ_ z=>z.1;refine#[d,?_,Nc c,by rw[<- e];exact b];rw[E];exact jG (by rw[<- e];exact MV a)
theorem yQ(h:FE H x k t f d y)(s:aa H a):FE a x k t f d y:=let #[q,e,l]:=h;#[q,e,l.same s]
inductive sV(H:Hp)(b:List dM)(f:ρ)(k:List Int)(x:V):Prop
 |mk(c:η)(s:Sk)(a:Int)(e:x= .ref c)(d:i6 H f k s a (.ref c))(g:s.ok μ)(h:s.dep<=15)(i:s.size<=60)(j:Dt (oU b) f s)
theorem sV.mono(k:ax H b)(h:sV H p f i x):sV b p f i x:=by let⟨c,s,a,e,d,g,j,l,m⟩:=h;exact#[c,s,a,e,zd d k,g,j,l,m]
inductive tj(H:Hp)(pds:List dM)(f:ρ)(is:List Int)(Cs:aZ)(x:V):Prop
 |no (e:x= .non) (h:∀sk a L t,ci pds Cs 16 f is [] 0≠ .ok sk a L t):tj H pds f is Cs x
 |yes (c:η) (s:Sk) (a:Int) (L:aZ) (e:x= .ref c) (h1:i6 H f is s a (.ref c)) (h2:s.ok μ) (h3:s.dep<=15) (h4:s.size<=60) (h5:ci pds Cs 16 f is [] 0= .ok s a L s.size):tj H pds f is Cs x
theorem tj.mono(k:ax H b)(h:tj H p f i C x):tj b p f i C x:=by
 cases h with
 |no e h=>exact .no e h
 |yes c s a L e d g j l m=>exact .yes c s a L e (zd d k) g j l m
theorem tj.vv(h:tj H p f I C x):x= .non∨sV H p f I x:=by
 cases h with
 |no e h=>exact .inl e
 |yes c s a L e b d g i j=>exact .inr #[c,s,a,e,b,d,g,i,IU.dt (H:=H) (u:=.ref c) #[b,d,g,i,C,L,j]]
theorem tH(B:ap H p)(h:H c=δ (.dK C)):c≠p:=by let⟨a,b,_,_,_,e⟩:=B.ob;exact jP h e (by intro z;cases z)
theorem ya.to(h:ya H n b A c i C d D N x p I)(k:ax H a)(e:a c=δ (.dK C)):ya a n b A c i C d D N x p I:=#[h.ps.mono k,h.xl,h.hd,h.hn,k _ _ h.ag,h.hi,h.il,e,h.gc]
theorem Zi:∀{b:Bool} {s:Sk},s.ok b->(nE s).In
 |true,.nil,_=>trivial
 |true,.st n h w r,o=>#[#[Z,kX h,Zi o.1,trivial],Zi o.2]
 |false,.ask _,_=>#[Z,Z,trivial]
 |false,.rd _ _,_=>#[Z,Z,Z,trivial]
 |false,.wr _ _,_=>#[Z,Z,Z,trivial]
 |false,.cl f i s a,o=>#[Z,#[Z,kX i,Zi (b:=μ) o,Z,trivial],trivial]
theorem BJ{s:Sk}(o:s.ok μ):(Gk f i s a).In:=#[Z,kX i,Zi (b:=μ) o,Z,trivial]
def Ew:R2:=Lz (Ex 100) λx y H Q=>x= .non/\y= .non/\Q (.bl μ) H
theorem vw{X:Cx}(a:X.A.units+100+1 < cLine):fh X (compareOp .Eq) Ew:=vC (Kr a) λp s b H x y v u Q I r R h=>by let⟨rfl,rfl,q⟩:=h;cases r;cases R;exact UL X.prog X.w _ _ #[.bl μ,H,I,Z,q]
theorem BW(h:bJ k A):A.units+100+1 < cLine:=by let:=h.un;omega
theorem Zj{Q:VK}(h:tj H p f i C x)(g:tj H p f i C y)(q:Q (.bl μ) H):Ew x y H Q:=by
 cases h with
 |no e h=>
  cases g with
  |no E b=>exact .inr #[e,E,q]
  |yes c s a L E _ _ _ _ d=>exact absurd d (h _ _ _ _)
 |yes c s a L e j b k m d=>
  cases g with
  |no E h=>exact absurd d (h _ _ _ _)
  |yes n S A o E l r g3 t G=>rw[d]at G;cases G;subst e;subst E;refine .inl #[Gk f i s a,Gk f i s a,CU b k,BJ b,BJ b,BK j b,BK l b,?_];rw[zn Z];exact q
inductive FJ(H:Hp)(r:η)(j i:V):Prop
 |mk(a:List Df)(k:List V)(h:List Nat)(b:H r=δ (.tup k))(c:cQ H a k)(d:a.length<=8)(e:sW a h)(f:mP H a h)(g:mW H a j i)
theorem mW.mono(k:ax H i)(h:mW H D u v):mW i D u v:=let #[d,p,t,I,a,b,c,e,f,g]:=h;#[d,p,t,I,a,b,k _ _ c,e,k _ _ f,g]
theorem FJ.mono(k:ax H a)(h:FJ H r u v):FJ a r u v:=by let⟨d,x,n,b,c,e,f,g,i⟩:=h;exact#[d,x,n,k _ _ b,c.mono k,e,f,g.mono k,i.mono k]
theorem Hk:ah P w K mg base aE 9 f c z17z (nH N 0):=by
 let n:∀{v:List V} {H:Hp} {Q E},nH N 0 v H Q E->False:=by intro v H Q E h;let⟨e,g,st,p,D,i,k,d,j,l,x,b,I,_,_,h,_⟩:=h;omega
 exact#[λv H Q E h=>(n h).elim,λA o s H a u v Q E m q r t h=>(n h).elim]
theorem Mn(F:tf K "_law_dreamt" IR a f)(b:aC K f z17z [])(M:mg "_law_dreamt"=↑a)(c:Cl P w K mg base 2 q i ["parts","f"] iT "part_of")(C:Cl P w K mg base 9 r k ["part","args"] (em n) "first_of")(d:Cl P w K mg base 9 s l z9z (eh n) "deed_at")(e:Cl P w K mg base 2 t o z2z fV "_law_number")(g:Cl P w K mg base 9 u p ["part","step"] (oM n) "onward")(m:mg "tuple"=θ):∀j,ah P w K mg base aE (j+9) a f z17z (nH n j)
 |0=>Hk
 |j+1=>by let h:=Mn F b M c C d e g m j;exact Hq F c C d e g #[h,b,F.kp,M] m
theorem wC:ai ["_law_parts","_law_f","_law_args","_law_box_here","_law_state","_law_book_here"] z37z (ae EC):=bN
theorem DM(F:tf K "_law_any_book" EC f L)(M:Cl P w K mg base 26 fD T z17z (nH U 17) "_law_dreamt"):ah P w K mg base aE 27 f L z37z (pH U):=by
 refine F.ok wC λR A O s H vs Q E V h=>?_
 let⟨l,r,p,i,d,D,N,x,g,I,rfl,W,X,Y,ha,j,B,q⟩:=h;refine#[_,(jd (jB 4 wC.nd$ jK$ ja (pv 3)$ ja jf jc)$ jd (jB 5 wC.nd$ M.e V.m$ ja (pv 0)$ ja (pv 1)$ ja (pv 2)$ ja jf$ ja (pv 4) jc)$ jd (jy (zY$ ju jD (pv 4) jf (λ_ _=>Z)) (jg$ jm$ @JA _ _ _) jo)$ jg$ jm$ pv 5),?_];refine aj λv c=>#[_,Z,cp,λst n=>c _ _ ?_];clear c;let S:aa H (af H st$ .lst [.ref p,.int 50]):=je n;let y:af H st (.lst [.ref p,.int 50]) st=δ (.lst [.ref p,.int ((50:Nat):Int)]):=jb;generalize af H st (.lst [.ref p,.int 50])=H1 at S y ⊢;refine aj λv c=>#[_,Z,_,Z,_,Z,_,Z,l,r,st,p,0,i,50,d,D,N,x,g,I,Z,Z,VU,W.mono$ aa.tm S,X,Y,S _ _ ha,j,y,VU,B.same S,B.ne n,λu sk a k' k hc ok dp dt ia sz e2 C k2=>c _ _ ?_];clear c;let G:aH p H k:=λb o nb e=>k2 _ _ nb (ji e n) (S _ _ e);refine aj λv c=>#[_,Z,st,_,_,_,Z,Z,aI.of e2,Z,Z,_,Z,?_];by_cases J:k'=0
 .subst J;exact cn (M9 Z)$ q _ k (.inl Z) C G
 .exact aT (M5 λz=>J (by injection z with z;omega))$ c _ _ #[_,Z,q _ k (.inr #[sk,a,hc,ok,by let:=dp VV;omega,VV,dt]) C G]
theorem cx:ai z38z ["_law_script"] (ae mh):=bN
noncomputable def Zb:ir:=#[.function,[(".0",.local),("_law_one",.local),("_law_number",.globalImplicit),("_law_box_here",.free)],ξ,ξ,[]]
theorem yW:(["_law_one","_law_box_here"]:List ρ).Nodup:=by decide+kernel
theorem yt:be z38z (ae mh) Zb ["_law_one","_law_box_here"] 1 [1]:=oR
noncomputable def Zc:ir:=#[.function,[(".0",.local),("_law_book_here",.local)],ξ,ξ,[]]
theorem yX:(["_law_book_here"]:List ρ).Nodup:=by decide+kernel
theorem yu:be z38z (ae mh) Zc ["_law_book_here"] 1 []:=oR
theorem DX(F:tf K "law" mh f fd)(cX:Cl P w K mg base 1 fX i3 ["_law_script","_law_k"] (pJ K) "_law_box")(cT:Cl P w K mg base 1 fT i4 z1z bq "_law_take")(cU:Cl P w K mg base 2 fU i5 z2z fV "_law_number")(cK:Cl P w K mg base 4 fK i' z2z pP "_law_masked")(cZ:Cl P w K mg base 22 fZ j0 z34z pI "_law_any")(cM:Cl P w K mg base 65 fM j1 ["program"] (mH K nA) "made")(cC:Cl P w K mg base 3 fC j2 z2z iA "_law_cells")(cB:Cl P w K mg base 46 fB j3 z35z (iS nA) "_law_book")(cD:Cl P w K mg base 4 fD j4 ["_law_box_here","_law_cells_here"] pK "_law_changed")(cA:Cl P w K mg base 27 fA j5 z37z (pH nA) "_law_any_book")(cL:Cl P w K mg base 37 fL j' ["_law_old","_law_new"] pO "_law_laid")(cE:Cl P w K mg base 71 fE l1 ["old","new"] mz "laid")(cS:Cl P w K mg base 3 fS l3 ["_law_told","_law_due"] pT "_law_told_so")(ml:mg "len"=θ)(m0:mg "tuple"=θ):ah P w K mg base aE 72 f fd ["_law_script"] (nM K):=by
 refine F.ok cx λl4 A o2 s H vs Q E D h=>?_
 let⟨a,ns,rfl,hS,i2,q⟩:=h;refine#[_,(jd (kO (i:=1) cx.nd Z (ge Z)$ cX.e D.m$ ja (pv 0)$ ja jf jc)$ jd (zk (cK.e D.m$ ja (pv 1) jc)$ zz (n:=3) Z$ jE (jr (i:=2) cx.nd Z$ ω Z)$ jE (jr (i:=3) cx.nd Z$ ω Z)$ jE (jr (i:=4) cx.nd Z$ ω Z) kH)$ jd (zb$ jy (jz qo (cT.e D.m$ ja (pv 1)$ ja jf jc) jf$ aF _) (jd (jB 2 cx.nd$ cZ.e D.m$ ja (pv 1)$ ja (jx jX jf$ cT.e D.m$ ja (pv 1)$ ja jf jc)$ ja jf jc)$ jd (zk (ju jF (pv 2) (cT.e D.m$ ja (pv 1)$ ja (jN jI Z ml NO$ ja (pv 2) jc) jc) (λ_ _=>Z))$ zz (n:=3) Z$ jE (jr (i:=3) cx.nd Z$ ω Z)$ jE (jr (i:=5) cx.nd Z$ ω Z)$ jE (jr (i:=6) cx.nd Z$ ω Z) kH)$ jg$ jB 4 cx.nd$ jJ jO Z m0 OG$ ja (@zK _ _ _ _ _ _ _ (["_law_one","_law_box_here"]) (1) ([1]) _ _ _ _ Z (qp$ pv 5) yt (λ_ _ _ _ _=>(jr (i:=0) yW Z$ ω Z)) (λ_ _ _ _ _=>(@zZ _)) (λ_ _ _ _ _=>(cU.e D.m$ ja (pv 1) jc)) (by intro _;rfl)) jc) jo)$ jd (jB 7 cx.nd$ cM.e D.m$ ja (pv 2) jc)$ jd (jB 8 cx.nd$ cC.e D.m$ ja (cX.e D.m$ ja (pv 0)$ ja jf jc) jc)$ jd (jB 9 cx.nd$ cB.e D.m$ ja (pv 7)$ ja (pv 3)$ ja (pv 4)$ ja (pv 8) jc)$ jd (jB 10 cx.nd$ cD.e D.m$ ja (cX.e D.m$ ja (pv 0)$ ja jf jc)$ ja (pv 8) jc)$ jd (jB 11 cx.nd$ cB.e D.m$ ja (pv 7)$ ja (pv 3)$ ja (pv 4)$ ja (pv 10) jc)$ jd (jB 12 cx.nd$ jK$ ja (pv 9)$ ja (pv 11)$ ja (cA.e D.m$ ja (pv 7)$ ja (pv 3)$ ja (pv 4)$ ja (pv 1) jc)$ ja (cA.e D.m$ ja (pv 7)$ ja (pv 3)$ ja (pv 4)$ ja (pv 1) jc) jc)$ jd (@qe _ _ _ _ _ _ _ _ _ _ (12) (["_law_book_here"]) (1) ([]) _ _ _ _ cx.nd Z (ω Z) Z (zc$ pv 12) yu (λ_ _ _ _ _=>(jr (i:=0) yX Z$ ω Z)) (λ_ _ _ _ _=>(@JC _ _ _$ QQ$ @Ax _ _ _ _ _$ pv 0)) (λ_ _ _ _ _=>(pv 0)) VY (by first |exact .inl Z |exact .inr Z) (by intro _;rfl))$ jd (jU Nu Z (zc$ pv 12) (jr (i:=13) cx.nd Z$ ω Z)$ jg$ jU Nu Z (zc$ pv 12) (jr (i:=14) cx.nd Z$ ω Z)$ jg$ jy (Yk$ Yj$ cS.e D.m$ ja (cE.e D.m$ ja (pv 13)$ ja (pv 14) jc)$ ja (cL.e D.m$ ja (pv 13)$ ja (pv 14) jc) jc) (jg$ jm$ @Zd _ _ _ _) jo)$ jg$ jm$ Eo (qZ (vw$ BW D) (pv 9) (cB.e D.m$ ja (pv 7)$ ja (pv 3)$ ja (pv 4)$ ja (pv 8) jc)$ aF _)$ Es$ qZ (vw$ BW D) (pv 11) (cB.e D.m$ ja (pv 7)$ ja (pv 3)$ ja (pv 4)$ ja (pv 10) jc)$ aF _),?_];let l5:=aJ;refine aj λR g=>#[_,Z,a,ns,1,Z,hS,VU,VU,λp H1 np B1 e1=>g _ _ ?_];clear g;let s1:aa H H1:=λb o e=>by rw[e1 b$ ji e np];exact e
 refine aj λR g=>#[_,Z,p,Z,B1,λt r v2 v3 U xs H2 ht b0 hD h1 h8 n3 hN h0 b1 B2 k2=>#[t,_,Z,aB.of ht,Z,_,_,Z,_,_,Z,_,_,Z,Z,g _ _ ?_]];clear g;let p0:FJ H2 r v2 v3:=#[U,xs,n3,b0,hD,h8,hN,h0,b1];clear b0 hD h8 hN h0 b1 h1 ht;refine aj λR g=>gA (λσ0 N=>∃(r:η) (vf va:V) (o5 o6:Option V),σ0=[↑a,↑p,↑r,δ vf,δ va,o5,o6,θ,θ,θ,θ,θ,θ,θ,θ]/\FJ N r vf va/\ap N p/\aH p H1 N) (λE1 _ fm=>oW λG1 g1=>#[_,Z,p,3,Z,B2,VU,VU,λd3 H3 l6 l8 B3 e3=>#[_,_,Z,Z,_,Z,g1 _ _$ bZ (λ_=>?_) (λ_=>?_)]]) λσ2 H3 hq=>?_
 .clear g;let k3:aH p H1 H3:=k2.trans (aH.of_eq e3);refine aj λR g=>#[_,Z,_,Z,p,3,Z,B3,VU,VU,λd4 H4 l9 l' B4 e4=>#[_,_,Z,Z,p,1+d4,12,Z,B4,VV,VV,VU,VU,λr U xs H5 a3 hD hl ns e' b2 B5 k5=>g _ _ ?_]];clear g;let ln:=hD.len;let K5:aH p H1 H5:=k3.trans ((aH.of_eq e4).trans k5);refine aj λR g=>#[_,Z,_,Z,_,Z,r,_,Z,.inr$ aB.of a3,p,_,Z,B5,VV,VV,λd6 H6 f0 f2 B6 e6=>?_];let c6:aH p H5 H6:=aH.of_eq e6;let t0:=c6.tm B5;let⟨d,f3,hd,bs,e,hp,_⟩:=C4 (hD.mono t0) f0 f2;refine#[r,_,_,_,Z,Z,aB.of$ t0 _ _ a3,f3,d.p,_,Z,aB.of hp,Z,_,_,Z,_,_,Z,_,_,Z,Z,g _ _ ?_];clear g;let⟨pv,b3,m1⟩:=b2.v d hd;let h':=t0 _ _ b3;refine#[_,Z,d.pa,Z,#[_,aB.of h'],?_];refine qE (K:=K) (xs:=pv.map ry) (by rw[MY];omega) (λi zs M=>(∃I:List Int,zs=I.map rz/\I.length=i/\∀j∈I,0<=j/\j < 1000000000000000000)/\ap M p/\aH p H6 M) #[#[[],Z,Z,(λ_ h=>nomatch h)],B6,aH.refl] (λi zs M h7=>?_) (λi x zs M hx h7=>?_) (λzs M h7 l nl=>?_)
  .exact#[aB.of$ h7.2.2.tm B6 _ _ h',let #[I,e,l,_]:=h7.1;by rw[e,MY,l];exact M0 _]
  .exact#[_,Z,p,Z,h7.2.1,λe H8 e0 e1 B8 e8=>#[let #[I,h1,l,h2]:=h7.1;#[I++[e],by rw[h1,Nl];rfl,by rw[MZ,l];rfl,Jn h2 #[e0,e1]],B8,h7.2.2.trans$ aH.of_eq e8]]
  .refine#[l,_,Z,.inl #[aI.of jb,λW n0=>fm _ _ ?_]];let s7:aa M (af (af M l$ .lst zs) W$ .tup zs):=(je nl).trans (je n0);let tm:=t0.trans ((h7.2.2.tm B6).trans$ aa.tm s7);let⟨I,hz,b4,f4⟩:=h7.1;rw[MY]at b4;exact#[r,_,_,_,_,Z,#[U,xs,ns,tm _ _ a3,hD.mono tm,VV,e',b2.mono tm,#[d,pv,W,I,hd,Z,tm _ _ b3,Z,by rw[<- hz];exact jb,b4,VV,f4]],h7.2.1.same s7,K5.trans$ c6.trans$ h7.2.2.trans$ aH.of_same s7]
 .exact fm _ _ #[r,v2,v3,_,_,Z,p0.mono ((aH.of_eq e3).tm B2),B3,k2.trans$ aH.of_eq e3]
 clear p0 k2 B2;let⟨r,vf,va,o5,o6,rfl,pg,B3,k3⟩:=hq;refine g _ _ ?_;clear g;let⟨U,xs,nl,b5,hD,h8,hN,h0,d,ps,ta,I,hd,rfl,b7,rfl,b8,f5,a4,f6⟩:=pg;refine aj λR g=>#[_,Z,r,U,xs,Z,b5,hD,VV,λd hd=>(hN.1 d hd).1,λv H4 hv s4=>g _ _ ?_];clear g;let⟨pA,X,rfl,b9,b'⟩:=Jd hv;let S4:aa H H4:=λb o e=>s4 _ _ (k3 _ _ (ji e np)$ s1 _ _ e);let B4:=B3.same s4;refine aj λR g=>#[_,Z,a,ns,2,Z,S4.seq hS,VU,VU,λp5 H5 n1 B5 e5=>#[p5,Z,B5,λcA Cs H6 n5 c2 gC lC B6 k6=>g _ _ ?_]];clear g;let s6:aa H4 H6:=λb o e=>k6 _ _ (ji e n1) (by rw[e5 b$ ji e n1];exact e);let S6:=S4.trans s6;let T0:=aa.tm (s4.trans s6);let⟨i0,hi,ei⟩:=jq.mp hd;let c3:U[i0]?=δ d:=by rw[<- ei];exact MV hi
 let c4:=El h0 c3 b7;rw[<- f5]at c4;let⟨u,hP⟩:=Hv (s6 _ _ b9) (b'.mono$ aa.tm s6) #[xs,hD.mono T0] hN (h0.mono T0);let lx:=zi hP.tr;rw[MY]at lx;let ak:ya H6 nA pA ta cA i0 Cs d U nl X u I:=#[hP,VV,c3,c4,T0 _ _ b8,f6,a4,c2,gC];let k1:Kp H H6:=Kp.of_same S6;let B':=B4.same s6;clear hD hN h0 b8 b7 b' b9 b5 c2 S4 S6 s6 T0 k6 B6 s4 k3 s1;refine aj λR g=>?_;suffices go:∀(Y:V) (M:Hp),Kp H6 M->tj M u d.f I Cs Y->R [↑a,↑p,↑r,δ$ .str d.f,↑ta,o5,o6,↑pA,↑cA,δ Y,θ,θ,θ,θ,θ] M by clear g;exact#[_,Z,_,Z,_,Z,_,Z,pA,ta,cA,i0,Cs,d,U,nl,X,u,I,Z,ak,λc S b L' M eq hc ok dp sz k7=>go _ M k7 (.yes c S b L' Z hc ok dp sz eq),λno M k7=>go _ M k7 (.no Z λS a L t=>no S a L t)]
 intro Y M k7 rv;refine g _ _ ?_;clear g;let a5:=ak.kp k7;let k8:=k1.trans k7;let B7:=B'.kp k7;refine aj λR g=>#[_,Z,a,ns,3,Z,k8.seq hS,VU,VU,λpB HA n2 BA eA=>#[_,Z,?_]];let sA:aa M HA:=λb o e=>by rw[eA b$ ji e n2];exact e
 refine#[pB,cA,Cs,Z,BA,sA _ _ a5.ce,gC,VV,λoA C' H8 n6 f7 gB lB BB k'=>g _ _ ?_];clear g;let sB:aa M H8:=λb o e=>k' _ _ (ji e n2) (sA _ _ e);let G:=a5.kp (Kp.of_same sB);let a':ya H8 nA pA ta oA i0 C' d U nl X u I:=#[G.ps,G.xl,G.hd,G.hn,G.ag,G.hi,G.il,f7,gB];let r3:=rv.mono (aa.tm sB);let B8:=B7.same sB;clear sA k' BB BA eA a5 ak B' B7 rv k8 k1;refine aj λR g=>?_;suffices go:∀(C:V) (H9:Hp),Kp H8 H9->tj H9 u d.f I C' C->R [↑a,↑p,↑r,δ$ .str d.f,↑ta,o5,o6,↑pA,↑cA,δ Y,↑oA,δ C,θ,θ,θ] H9 by clear g;exact#[_,Z,_,Z,_,Z,_,Z,pA,ta,oA,i0,C',d,U,nl,X,u,I,Z,a',λc S b L' H9 eq hc ok dp sz k9=>go _ H9 k9 (.yes c S b L' Z hc ok dp sz eq),λno H9 k9=>go _ H9 k9 (.no Z λS a L t=>no S a L t)]
 intro C H9 k9 r0;refine g _ _ ?_;clear g;let B:=G.kp k9;let a2:=a'.kp k9;let B9:=B8.kp k9;let r2:=r3.mono k9.tm;clear G a' B8 r3;refine aj λR g=>#[_,Z,_,Z,_,Z,_,Z,_,Z,_,Z,pA,ta,p,i0,d,U,nl,X,u,I,Z,B.ps,B.hd,B.hn,B.ag,B.hi,B9,λu1 Ha c5 Ba ka=>#[_,Z,_,Z,_,Z,_,Z,pA,ta,p,i0,d,U,nl,X,u,I,Z,B.ps.mono$ ka.tm B9,B.hd,B.hn,ka.tm B9 _ _ B.ag,B.hi,Ba,λu2 Hb c9 Bb kb=>#[pU,λl n4=>g _ _ ?_]]];clear g;let k0:=ka.trans kb;let T:=k0.tm B9;let c':=B.to T (k0 _ _ (tH B9 B.ce) B.ce);let d0:=a2.to T (k0 _ _ (tH B9 a2.ce) a2.ce);let w1:∀x∈[Y,C,u1,u2],x= .non∨sV Hb u d.f I x:=by
  intro x hx;simp only[Oz,Ny,P5]at hx;rcases hx with rfl |rfl |rfl |rfl
  .exact(r2.mono T).vv
  .exact(r0.mono T).vv
  .rcases c5 with h | ⟨S,b,h1,h2,h3,h4,h5⟩
   .exact .inl h
   .let⟨c,z⟩:=id h1;let⟨_,_,_,e,_⟩:=z;subst e;exact .inr$ sV.mono (kb.tm Ba) #[c,S,b,Z,h1,h2,h3,h4,h5]
  .rcases c9 with h | ⟨S,b,h1,h2,h3,h4,h5⟩
   .exact .inl h
   .let⟨c,z⟩:=id h1;let⟨_,_,_,e,_⟩:=z;subst e;exact .inr #[c,S,b,Z,h1,h2,h3,h4,h5]
 let r4:=r2.mono T;let r1:=r0.mono T;let sl:aa Hb (af Hb l$ .lst [Y,C,u1,u2]):=je n4;let hl:af Hb l (.lst [Y,C,u1,u2]) l=δ (.lst [Y,C,u1,u2]):=jb;generalize af Hb l (.lst [Y,C,u1,u2])=Hc at sl hl ⊢;let w2:∀x∈[Y,C,u1,u2],x= .non∨sV Hc u d.f I x:=λx hx=>(w1 x hx).imp id (sV.mono$ aa.tm sl);generalize d1:[Y,C,u1,u2]=bs at hl w2;let l0:bs.length=4:=by rw[<- d1];rfl
 clear w1 c5 c9 r2 B a2 B9 ka kb k0 d1 Bb Ba;refine aj λR g=>#[_,Z,l,Z,#[_,aI.of hl],qV (K:=K) (a:=l) (xs:=bs) VV (λi ys N=>N=Hc/\ys.length<=i/\∀y∈ys,sV Hc u d.f I y) #[Z,M0 0,λy hy=>by cases hy] (λi ys N h=>#[by rw[h.1];exact aI.of hl,h.2.1]) (λi x ys N hx h=>?_) λys Hd h W n0=>g _ _ ?_]
 .clear g;let⟨rfl,ly,hy⟩:=h;refine#[_,Z,_,Z,?_];rcases w2 x (Nc hx) with rfl |hb
  .exact lU #[Z,VV,hy]
  .let f8:=hb;let⟨c,_,_,rfl,_⟩:=f8;exact i8 #[_,Z,Z,by rw[MZ];show _+1<=_;omega,λy f'=>(Ξ.mp f').elim (hy y) λz=>by cases υ.mp z;exact hb]
 clear g;let⟨rfl,ly,hy⟩:=h;let s2:aa Hd (af Hd W$ .lst ys):=je n0;let h6:af Hd W (.lst ys) W=δ (.lst ys):=jb;generalize af Hd W (.lst ys)=He at s2 h6 ⊢;let hy:∀y∈ys,sV He u d.f I y:=λy h=>(hy y h).mono (aa.tm s2);let s0:=sl.trans s2;let g0:=c'.kp (Kp.of_same s0);let g2:=d0.kp (Kp.of_same s0);let r6:=r4.mono (aa.tm s0);let r5:=r1.mono (aa.tm s0);clear s0 c' d0 r4 r1 w2 hl l0 s2 sl T;let SS:∀{o1 O:Option V},True:=λ{_ _}=>trivial;refine aj λR g=>dj λJ jj=>#[_,Z,W,Z,#[_,aI.of h6],jj _ _ ?_];clear jj;refine zx (K:=K) (a:=W) (xs:=ys) (λ_ σ N=>(∃o1 O,σ=[↑a,↑p,↑r,δ$ .str d.f,↑ta,o5,o6,↑pA,↑cA,δ Y,↑oA,δ C,↑W,o1,O])/\aa He N) #[#[_,_,Z],aa.refl _] (λk σ N _ h=>aI.of (h.2 _ _ h6)) ?_ (λσ N h=>g _ _ ?_)
 .clear g;intro E rt k x σ H2 hx fE Gq kq h;obtain⟨⟨o1,O,rfl⟩,sx⟩:=h;refine kq ?_;clear kq;let bx:=hy x (Nc hx);refine dj λJ jj=>#[_,Z,W,Z,#[_,aI.of$ sx _ _ h6],jj _ _ ?_];clear jj;refine zx (K:=K) (a:=W) (xs:=ys) (λ_ σ N=>(∃O,σ=[↑a,↑p,↑r,δ$ .str d.f,↑ta,o5,o6,↑pA,↑cA,δ Y,↑oA,δ C,↑W,δ x,O])/\aa He N) #[#[_,Z],sx] (λk σ N _ h=>aI.of (h.2 _ _ h6)) ?_ (λσ N h=>?_)
  .intro E2 r7 k2 y σ H3 g6 g7 Gq kq h;obtain⟨⟨O,rfl⟩,sy⟩:=h;refine kq ?_;clear kq;let⟨c1,z1,a1,rfl,d2,d5,d7,g8,d8⟩:=(hy y$ Nc g6).mono (aa.tm sy);let⟨c0,z0,a0,rfl,d',e2,e7,g',e9⟩:=bx.mono (aa.tm sy);refine lH λG1 yT yF=>#[_,Z,_,Z,oU u,c0,c1,d.f,I,I,z0,z1,a0,a1,Z,d',e2,e7,VV,d2,d5,d7,VV,e9,d8,λx i1 tX fX dX H4 ld _ _ _ _ g4=>#[_,Z,_,Z,oU u,c0,c1,d.f,I,I,z0,z1,a0,a1,Z,zd d'$ aa.tm g4,e2,e7,g',zd d2$ aa.tm g4,d5,d7,g8,e9,d8,λy kY tY fY dY H5 le _ _ _ _ g5=>#[x,y,i1,tX,fX,dX,kY,tY,fY,dY,_,Z,yQ ld g5,le,_,Z,yF _$ g7 _ _ #[#[_,Z],sy.trans$ g4.trans g5]]]]
  .obtain⟨⟨O,rfl⟩,sy⟩:=h;exact fE _ _ #[#[_,_,Z],sy]
 .clear g;obtain⟨⟨o1,O,rfl⟩,sx⟩:=h;let ak:=g0.kp (Kp.of_same sx);let ao:=g2.kp (Kp.of_same sx);let rv:=r6.mono (aa.tm sx);let r0:=r5.mono (aa.tm sx);let t1:∀(H4:Hp),Kp N H4->(g9 Ew (bK 11)$ ff (iS nA) [] E0$ ar (bK 7)$ ar (bK 3)$ ar (bK 4)$ ar (bK 10) bh) [↑a,↑p,↑r,δ$ .str d.f,↑ta,o5,o6,↑pA,↑cA,δ Y,↑oA,δ C,↑W,o1,O] H4 Q:=λH4 k4=>
   #[_,Z,_,Z,_,Z,_,Z,_,Z,pA,ta,oA,i0,C',d,U,nl,X,u,I,Z,ao.kp k4,λc S b L' H5 eq hc ok dp sz k5=>Zj ((r0.mono k4.tm).mono k5.tm) (.yes c S b L' Z hc ok dp sz eq) (q _),λno H5 k5=>Zj ((r0.mono k4.tm).mono k5.tm) (.no Z λS a L t=>no S a L t) (q _)]
  exact#[_,Z,_,Z,_,Z,_,Z,_,Z,pA,ta,cA,i0,Cs,d,U,nl,X,u,I,Z,ak,λc S b L' H4 eq hc ok dp sz k4=>Zj (rv.mono k4.tm) (.yes c S b L' Z hc ok dp sz eq) #[μ,Z,i8$ t1 H4 k4],λno H4 k4=>Zj (rv.mono k4.tm) (.no Z λS a L t=>no S a L t) #[μ,Z,i8$ t1 H4 k4]]
@[elab_as_elim] theorem MO{P:List ζ->Prop}(u:List ζ)(h:u.length=1)(q:∀a,P [a]):P u:=by
 cases u with
 |nil=>cases h
 |cons a r=>
  cases r with
  |nil=>exact q a
  |cons _ _=>cases h
theorem _root_._L.aQ.b1{K:γ}{st:cv}{p:List ρ}(F:aQ K x q st f g)(h:∀(kV d b:ζ) (A:Option η) (c C a:ζ),bindArgs (rs x q (bX st) (bo st) (ae st) .none kV d b A c C) #[[a],[]]=pure (p.zip [a]):=by intros;rfl)(e:p.length=1:=by rfl):aC K g p []:=F.binds λkV d b A c C u H=>MO u (H.trans e) λa=>h kV d b A c C a
@[elab_as_elim] theorem MP{P:List ζ->Prop}(u:List ζ)(h:u.length=2)(q:∀a b,P [a,b]):P u:=by
 cases u with
 |nil=>cases h
 |cons a r=>
  cases r with
  |nil=>cases h
  |cons b R=>
   cases R with
   |nil=>exact q a b
   |cons _ _=>cases h
theorem _root_._L.aQ.b2{K:γ}{st:cv}{p:List ρ}(F:aQ K x q st f i)(h:∀(kV d g:ζ) (A:Option η) (c C a b:ζ),bindArgs (rs x q (bX st) (bo st) (ae st) .none kV d g A c C) #[[a,b],[]]=pure (p.zip [a,b]):=by intros;rfl)(e:p.length=2:=by rfl):aC K i p []:=F.binds λkV d g A c C u H=>MP u (H.trans e) λa b=>h kV d g A c C a b
@[elab_as_elim] theorem MQ{P:List ζ->Prop}(u:List ζ)(h:u.length=3)(q:∀a b c,P [a,b,c]):P u:=by
 cases u with
 |nil=>cases h
 |cons a r=>
  cases r with
  |nil=>cases h
  |cons b R=>
   cases R with
   |nil=>cases h
   |cons c d=>
    cases d with
    |nil=>exact q a b c
    |cons _ _=>cases h
theorem _root_._L.aQ.b3{K:γ}{st:cv}{p:List ρ}(F:aQ K x q st f j)(h:∀(kV d g:ζ) (A:Option η) (C i a b c:ζ),bindArgs (rs x q (bX st) (bo st) (ae st) .none kV d g A C i) #[[a,b,c],[]]=pure (p.zip [a,b,c]):=by intros;rfl)(e:p.length=3:=by rfl):aC K j p []:=F.binds λkV d g A C i u H=>MQ u (H.trans e) λa b c=>h kV d g A C i a b c
@[elab_as_elim] theorem MS{P:List ζ->Prop}(u:List ζ)(h:u.length=4)(q:∀a b c d,P [a,b,c,d]):P u:=by
 cases u with
 |nil=>cases h
 |cons a r=>
  cases r with
  |nil=>cases h
  |cons b R=>
   cases R with
   |nil=>cases h
   |cons c e=>
    cases e with
    |nil=>cases h
    |cons d f=>
     cases f with
     |nil=>exact q a b c d
     |cons _ _=>cases h
theorem _root_._L.aQ.b4{K:γ}{st:cv}{p:List ρ}(F:aQ K x q st f j)(h:∀(kV D g:ζ) (A:Option η) (C i a b c d:ζ),bindArgs (rs x q (bX st) (bo st) (ae st) .none kV D g A C i) #[[a,b,c,d],[]]=pure (p.zip [a,b,c,d]):=by intros;rfl)(e:p.length=4:=by rfl):aC K j p []:=F.binds λkV D g A C i u H=>MS u (H.trans e) λa b c d=>h kV D g A C i a b c d
@[elab_as_elim] theorem MT{P:List ζ->Prop}(u:List ζ)(h:u.length=5)(q:∀a b c d e,P [a,b,c,d,e]):P u:=by
 cases u with
 |nil=>cases h
 |cons a r=>
  cases r with
  |nil=>cases h
  |cons b R=>
   cases R with
   |nil=>cases h
   |cons c f=>
    cases f with
    |nil=>cases h
    |cons d g=>
     cases g with
     |nil=>cases h
     |cons e i=>
      cases i with
      |nil=>exact q a b c d e
      |cons _ _=>cases h
theorem _root_._L.aQ.b5{K:γ}{st:cv}{p:List ρ}(F:aQ K x q st f j)(h:∀(kV D g:ζ) (A:Option η) (C i a b c d e:ζ),bindArgs (rs x q (bX st) (bo st) (ae st) .none kV D g A C i) #[[a,b,c,d,e],[]]=pure (p.zip [a,b,c,d,e]):=by intros;rfl)(e:p.length=5:=by rfl):aC K j p []:=F.binds λkV D g A C i u H=>MT u (H.trans e) λa b c d e=>h kV D g A C i a b c d e
def dU(K:γ)(p q:ρ)(st:cv)(f:η):Prop:=∃(o:ζ) (O:Option η) (kV d a:ζ) (A:Option η) (c C:ζ) (s:Array (Option ζ)),K.lookup f=δ #[o,O,.func$ rs p q (bX st) (bo st) (ae st) .none kV d a A c C,s]/\codeIn K c q=μ/\iv K (.ref f)=μ
def cj(K:γ)(p:ρ)(st:cv)(f:η):Prop:=nsIn K Ω p=δ (↑f)/\dU K p p st f
section
variable {K:γ}{py q:ρ}{st:cv}{f:η}{oc:ζ}{od:Option η}{kV dc pm:ζ}{an:Option η}{cd ct:ζ}{sl:Array (Option ζ)}
theorem Mo(l:K.lookup f=δ #[oc,od,.func$ rs py q (bX st) (bo st) (ae st) .none kV dc pm an cd ct,sl])(c:codeIn K cd q=μ)(k:iv K (.ref f)=μ):dU K py q st f:=#[_,_,_,_,_,_,_,_,_,l,c,k]
theorem LS(a:nsIn K Ω py=δ (↑f))(l:K.lookup f=δ #[oc,od,.func$ rs py py (bX st) (bo st) (ae st) .none kV dc pm an cd ct,sl])(c:codeIn K cd py=μ)(k:iv K (.ref f)=μ):cj K py st f:=#[a,Mo l c k]
theorem dU.go(h:dU K py q st f):∃F,aQ K py q st f F/\iv K (.ref f)=μ:=by let⟨oc,od,kV,dc,pm,an,cd,ct,sl,l,c,k⟩:=h;exact#[_,uA l c k,k]
theorem cj.go{mg:ρ->Option ζ}(t:cj K py st f)(X:K.In h)(G:h.Ns Ω mg):∃a,aQ K py py st f a/\iv K (.ref f)=μ/\mg py=↑f:=by let⟨a,F,k⟩:=t.2.go;exact#[a,F,k,So X G t.1]
end
theorem CO{l:rc}{w:bU}{K:γ}{mg:ρ->Option ζ}(X:K.In h)(G:h.Ns Ω mg)(o9:mg "law"=↑fa)
                 
  (t3:cj K "names_in" eZ f0)
  (t4:cj K "own_terms" EM o')
  (t5:cj K "used_behind_terms" wB fUb)
  (t6:cj K "used_ahead_of" A0 f1)
  (t7:cj K "used_ahead" AZ fUa)
  (t8:cj K "bodies_in" EE p0)
  (t':cj K "many_cuts" wm p1)
  (p2:cj K "deed_of" v9 p3)
  (p4:cj K "place_of_give" mv f2)
  (p5:cj K "place_of_set" wq p6)
  (p8:cj K "part_made" wn p9)
  (p':cj K "made" pi q0)
  (q1:cj K "_law_box" EF q2)
  (Ix:cj K "_law_take" wA q3)
  (q4:cj K "_law_number" mn q5)
  (q6:cj K "_law_names" iG q7)
  (q':cj K "_law_term" pq r0)
  (r1:cj K "_law_spot" wt r2)
  (r3:cj K "_law_statement" wu fSt)
  (r4:cj K "_law_body" ph r5)
  (r6:cj K "_law_any" ED r7)
  (r8:cj K "joined" mf r9)
  (r':cj K "worth" mw s0)
  (s1:cj K "named" mj s2)
  (s3:cj K "begun" oy s4)
  (s5:cj K "deeper" ma s6)
  (s7:cj K "part_of" ms s8)
  (s9:cj K "cut_at" oC s')
  (u0:cj K "held_at" me u1)
  (u2:cj K "worths" iw u3)
  (u':cj K "deed_at" l7 v1)
  (v2:cj K "found_in" gE f3)
  (v3:cj K "end_of" md v4)
  (v5:cj K "first_of" iF v6)
  (v7:cj K "onward" mq v8)
  (v':cj K "run" EO w0)
  (w1:cj K "whats_at" A2 w2)
  (w3:cj K "whats_in" A3 w4)
  (w5:cj K "paths_at" AX w6)
  (w7:cj K "deed_in" EJ w8)
  (w9:cj K "like_from" wj w')
  (x0:cj K "lender_from" wg x1)
  (x2:cj K "taken_from" EQ x3)
  (x4:cj K "laid" wf x5)
  (x6:cj K "_law_cells" oB x7)
  (x8:cj K "_law_changes" EH x')
  (y0:cj K "_law_found" EL y1)
  (y2:cj K "_law_book" oE y3)
  (y4:cj K "_law_changed" EG y5)
  (y8:cj K "_law_all_in" AM y')
  (z6:cj K "_law_beside" su z7)
  (z8:cj K "_law_laid" AT z')
  (A':cj K "_law_masked" AW B1)
  (B2:cj K "_law_dreamt" IR B3)
  (B4:cj K "_law_any_book" EC B5)
  (B6:cj K "_law_told_so" ER B7)
  (tZ:cj K "law" mh fZ)
  (B8:nsIn K Ω "NOUGHT"=δ (↑y)) (B9:K.lookup y=δ #[.type "tuple",odN,.seq (ε [.str "num" rN0,.int 0 rN1]) nN,slN]) (B':nsIn K Ω "Cutting"=δ (↑g)) (v0:nsIn K Ω "TOP"=δ (δ$ .int 1000000000000000000 tTop)) (vD:nsIn K Ω "DEEPEST"=δ (δ$ .int 15 tD)) (vR:nsIn K Ω "BookRun"=δ (↑C)) (vT:nsIn K Ω "Turns"=δ (↑c2)) (vL:nsIn K Ω "Laying"=δ (↑i)) (vB:nsIn K Ω "BookError"=δ (↑xB))
  (C':nsIn K Ω "TooLong"=δ (↑B))
  (D0:nsIn K Ω "TooDeep"=δ (↑D))
  (D1:K.lookup B=δ #[ocxL,odxL,.cls cdxL,slxL]) (t0:typeIn K (.ref B)=δ (.type "type")) (mbxL:mroIn K B (.type "BaseException")=δ μ) (k2:iv K (.ref B)=μ)
  (D':K.lookup D=δ #[ocxD,odxD,.cls cdxD,slxD]) (t1:typeIn K (.ref D)=δ (.type "type")) (mbxD:mroIn K D (.type "BaseException")=δ μ) (k3:iv K (.ref D)=μ)
  (E1:K.lookup xB=δ #[ocxB,odxB,.cls cdxB,slxB]) (t2:typeIn K (.ref xB)=δ (.type "type")) (m7:mroIn K xB (.type "BaseException")=δ μ) (E2:mroIn K B (.ref xB)=δ μ) (E3:mroIn K D (.ref xB)=δ μ)
  (e0:excIn K B re "ValueError.__new__"=μ) (e1:excIn K D re "ValueError.__new__"=μ)
  (X':tw K B) (c3:tw K D)
  (rk:RK K C) (E4:Mk K C f4) (tm:CD K c2 "__init__" f5) (m8:bj K C "take_turn" f6) (m9:bj K C "number_in" f7) (m2:bj K C "chain_of" E5) (m':bj K C "what_of" E6)
  (lk:LK K i) (E7:Mk K i f8) (m3:bj K i "lay" f') (c4:bj K i "drop" c5) (c6:bj K i "lay_step" E8)
  (ck:CK K g) (mk:Mk K g c9) (c':bj K g "place_of_body" d0) (E9:bj K g "place_of" E') (H0:bj K g "place_of_cut" H1) (H2:bj K g "ways_of" H3)
  (H4:dU K "__init__" "Cutting.__init__" wc c9)
  (H5:dU K "place_of_body" "Cutting.place_of_body" AQ d0)
  (H6:dU K "place_of" "Cutting.place_of" AY E')
  (H7:dU K "place_of_cut" "Cutting.place_of_cut" AR H1)
  (H8:dU K "ways_of" "Cutting.ways_of" A1 H3)
  (H9:dU K "__init__" "Turns.__init__" ww f5)
  (H':dU K "take_turn" "Turns.take_turn" oF f6)
  (I1:dU K "number_in" "Turns.number_in" wz f7)
  (I2:dU K "__init__" "BookRun.__init__" vX f4)
  (I3:dU K "chain_of" "BookRun.chain_of" AN E5)
  (I4:dU K "what_of" "BookRun.what_of" AO E6)
  (I5:dU K "__init__" "Laying.__init__" we f8)
  (I6:dU K "lay" "Laying.lay" AV f')
  (I7:dU K "drop" "Laying.drop" wb c5)
  (I':dU K "lay_step" "Laying.lay_step" AU E8)
  (z2:nsIn K Ω "len"=δ θ)
  (z3:nsIn K Ω "int"=δ θ)
  (T:nsIn K Ω "range"=δ θ)
  (z0:nsIn K Ω "list"=δ θ)
  (t:nsIn K Ω "reversed"=δ θ)
  (U:nsIn K Ω "tuple"=δ θ)
  (E:nsIn K Ω "sorted"=δ θ)
  (z4:nsIn K Ω "set"=δ θ)
  (z5:nsIn K Ω "zip"=δ θ)
  (z1:nsIn K Ω "dict"=δ θ)
  (r:nsIn K Ω "enumerate"=δ θ)
  (o:nsIn K Ω "isinstance"=δ θ)
  (tk:Ge K)
  :∃fd:hG,(∀(s:ι) (v:ζ),BindsTo s fd #[[v],[]] [("_law_script",v)])/\∀base:de,K.In base->base.Ns Ω mg->ah l.prog w K mg base aE 72 fa fd ["_law_script"] (nM K):=by
 let e:=o9.symm.trans (So X G tZ.1);cases e;let⟨J0,u,V,M⟩:=t3.go X G;let⟨dOw,d1,K1,K2⟩:=t4.go X G;let⟨dUb,d2,kUb,K3⟩:=t5.go X G;let⟨dUo,Y,k4,m4⟩:=t6.go X G;let⟨dUa,d3,kUa,K4⟩:=t7.go X G;let⟨dBi,d4,K5,K6⟩:=t8.go X G;let⟨dMc,F5,k5,d5⟩:=t'.go X G;let⟨dDe,d6,K7,L0⟩:=p2.go X G;let⟨dPg,F0,k6,d7⟩:=p4.go X G;let⟨dPs,d8,L1,L3⟩:=p5.go X G;let⟨dPm,d',L5,L6⟩:=p8.go X G;let⟨dMa,e2,L7,L8⟩:=p'.go X G;let⟨dBx,e3,L',N1⟩:=q1.go X G;let⟨dTk,F,k,m⟩:=Ix.go X G;let⟨dNu,A,I,J⟩:=q4.go X G;let⟨dNm,F6,k7,e4⟩:=q6.go X G;let⟨dTm,F1,k8,m5⟩:=q'.go X G;let⟨dPo,e5,N2,N3⟩:=r1.go X G;let⟨dSt,e6,kSt,N'⟩:=r3.go X G;let⟨dBo,F7,O',e7⟩:=r4.go X G;let⟨dAn,e8,P1,P4⟩:=r6.go X G;let⟨dJo,e9,Q',R1⟩:=r8.go X G;let⟨dWo,L,k1,m0⟩:=r'.go X G;let⟨dNd,F8,k9,e'⟩:=s1.go X G;let⟨dBe,g0,R5,R7⟩:=s3.go X G;let⟨dDp,g1,R',S1⟩:=s5.go X G;let⟨dPf,a0,k',g2⟩:=s7.go X G;let⟨dCu,O,k0,m1⟩:=s9.go X G;let⟨dHe,a1,g4,g5⟩:=u0.go X G;let⟨dWs,g6,S2,S3⟩:=u2.go X G;let⟨dDa,a2,g7,g8⟩:=u'.go X G;let⟨dFo,F2,g',h0⟩:=v2.go X G;let⟨dEn,a3,h1,h2⟩:=v3.go X G;let⟨dFi,a4,h3,h4⟩:=v5.go X G;let⟨dOn,a5,h5,h6⟩:=v7.go X G;let⟨dRu,h7,S4,S5⟩:=v'.go X G;let⟨dWa,F3,S6,h8⟩:=w1.go X G;let⟨dWi,a',S7,h'⟩:=w3.go X G;let⟨dPa,b0,i0,i1⟩:=w5.go X G;let⟨dDi,b7,i2,i3⟩:=w7.go X G;let⟨dLk,i4,S8,S9⟩:=w9.go X G;let⟨dLd,i5,S',T0⟩:=x0.go X G;let⟨dTn,i',T1,T2⟩:=x2.go X G;let⟨dLa,j0,T9,T'⟩:=x4.go X G;let⟨dCe,j1,V0,V1⟩:=x6.go X G;let⟨dCg,j2,V2,V3⟩:=x8.go X G;let⟨dLf,j3,V4,V5⟩:=y0.go X G;let⟨dLb,j4,V6,V7⟩:=y2.go X G;let⟨dLc,j5,V8,V9⟩:=y4.go X G;let⟨dAl,F4,j',m6⟩:=y8.go X G;let⟨dBs,b8,V',l0⟩:=z6.go X G;let⟨dLl,l1,W0,W1⟩:=z8.go X G;let⟨dMk,l2,W2,W3⟩:=A'.go X G;let⟨dDr,b9,W4,l3⟩:=B2.go X G;let⟨dAb,l4,W5,W6⟩:=B4.go X G;let⟨dTo,l5,W7,W8⟩:=B6.go X G;let⟨dmI,l6,kmI⟩:=H4.go;let⟨dmB,b',kmB⟩:=H5.go;let⟨dmO,l8,kmO⟩:=H6.go;let⟨dmC,l9,kmC⟩:=H7.go;let⟨dmW,l',kmW⟩:=H8.go;let⟨dTI,n1,kTI⟩:=H9.go;let⟨dTT,n2,kTT⟩:=H'.go;let⟨dTN,n3,kTN⟩:=I1.go;let⟨dRI,n4,kRI⟩:=I2.go;let⟨dRC,c0,kRC⟩:=I3.go;let⟨dRW,n5,kRW⟩:=I4.go;let⟨dLI,n6,kLI⟩:=I5.go;let⟨dLL,c1,kLL⟩:=I6.go;let⟨dLD,n7,kLD⟩:=I7.go;let⟨dLS,n',kLS⟩:=I'.go;let⟨ocZ,odZ,W9,W',Y',Z',cdZ,ctZ,slZ,lZ,cZ,kZ⟩:=tZ.2;let FZ:=uA (st:=mh) lZ cZ kZ;let c:=OY X G z2;let Q:=OY X G z3;let a:=OY X G T;let x:=OY X G z0;let d:=OY X G t;let N:=OY X G U;let f:=OY X G E;let R:=OY X G z4;let n0:=OY X G z5;let p:=OY X G z1;let b:=OY X G r;let q:=OY X G o;let o1:oi K y:=λH=>.inr #[_,_,_,B9,Z,Z,cp,(.cons #[_,Z] (.cons #[_,Z] .nil))];refine#[rs "law" "law" (bX mh) (bo mh) (ae mh) .none W9 W' Y' Z' cdZ ctZ,λs v=>.of_eq Z,λbase _ _=>?_];let j:ah l.prog w K mg base aE 1 q3 _ _ bq:=Ap F;let GBx:ah l.prog w K mg base aE 1 q2 _ _ (pJ K):=DR e3 c Q;let S:ah l.prog w K mg base aE 2 q5 _ _ fV:=rX A #[j,F.b2,k,m];let G2:ah l.prog w K mg base aE 2 q7 _ _ gJ:=vj F6 j F.b2 k m a;let G3:ah l.prog w K mg base aE 6 r0 _ _ (db 4):=CC (P:=l.prog) (w:=w) (base:=base) F1 F1.b3 m5 #[j,F.b2,k,m] #[S,A.b1,I,J] c 4;let GPo:ah l.prog w K mg base aE 7 r2 _ _ iV:=Ao e5 #[j,F.b2,k,m] #[G3,F1.b3,k8,m5];let SS:=Ii (P:=l.prog) (w:=w) (base:=base) e6 F7 #[j,F.b2,k,m] #[G3,F1.b3,k8,m5] #[GPo,e5.b2,N2,N3] e6.b5 N' F7.b5 e7 c N a;let GBo:ah l.prog w K mg base aE 21 r5 _ _ (gX 6):=(SS 6).2;let GAn:ah l.prog w K mg base aE 22 r7 _ _ pI:=DN e8 #[j,F.b2,k,m] #[G2,F6.b2,k7,e4] #[GBo,F7.b5,O',e7] c a N Q;let NS:=Cd (P:=l.prog) (w:=w) (base:=base) u u.b1 M R f;let G4:ah l.prog w K mg base aE 7 f0 _ _ (dC 6):=NS 6;let GNc:ah l.prog w K mg base aE 7 f0 _ _ (pQ K):=D4 (fN:=f0) (fdN:=J0) u #[NS 5,u.b1,V,M] R f;let GOw:ah l.prog w K mg base aE 1 o' _ _ nO:=D5 d1;let US:=IB (P:=l.prog) (w:=w) (base:=base) d3 d2 Y d3.b2 K4 d2.b2 K3 Y.b2 m4 #[GOw,d1.b1,K1,K2] #[G4,u.b1,V,M] x R f d;let GUo:ah l.prog w K mg base aE 31 f1 _ _ (gM 7):=(US 7).2;let GUz:ah l.prog w K mg base aE 10 f1 _ _ (gM 0):=(US 0).2;let GBi:ah l.prog w K mg base aE 1 p0 _ _ nF:=DQ d4;let G5:ah l.prog w K mg base aE 2 p1 _ _ gY:=Aj F5 #[GBi,d4.b1,K5,K6] x;let GDe:ah l.prog w K mg base aE 1 p3 _ _ iN:=Ac d6;let GPg:ah l.prog w K mg base aE 8 f2 _ _ gL:=vk F0 #[G4,u.b1,V,M];let GPc:ah l.prog w K mg base aE 8 f2 _ _ (pR K):=D7 F0 #[GNc,u.b1,V,M];let GPs:ah l.prog w K mg base aE 11 p6 _ _ iU:=An d8 #[GUz,Y.b2,k4,m4];let GmB:ah l.prog w K mg base aE 63 d0 _ _ (nP g 8):=Mq (P:=l.prog) (w:=w) (base:=base) ck b' l8 l9 l' b'.b3 c' l8.b3 E9 l9.b3 H0 l'.b4 H2 #[G5,F5.b1,k5,d5] #[GUo,Y.b2,k4,m4] #[GDe,d6.b1,K7,L0] #[GPg,F0.b1,k6,d7] #[GPs,d8.b2,L1,L3] c N d 8 (M0 _);let GmI:ah l.prog w K mg base aE 3 c9 _ _ (pN g):=DW l6 ck #[G5,F5.b1,k5,d5];let GPm:ah l.prog w K mg base aE 64 p9 _ _ (mK K y):=Al d' ck mk GmI l6.b2 (So X G B') (So X G B8) o1 GmB b'.b3 c' #[GPc,F0.b1,k6,d7] N d;let GMa:ah l.prog w K mg base aE 65 q0 _ _ (mH K y):=Ai e2 #[GPm,d'.b3,L5,L6] N;let GJo:ah l.prog w K mg base aE 1 r9 _ _ iR:=rV e9 (So X G v0);let G1:ah l.prog w K mg base aE 7 s0 _ _ (c7 K 6):=xS (P:=l.prog) (w:=w) (base:=base) L L.b2 m0 #[GJo,e9.b3,Q',R1] 6;let G0:ah l.prog w K mg base aE 1 s' _ _ (iM y):=u9 O;let G6:ah l.prog w K mg base aE 2 u1 _ _ (iQ y):=rS a1 #[G0,O.b2,k0,m1] p n0;let GWs:ah l.prog w K mg base aE 8 u3 _ _ gN:=sd g6 #[G1,L.b2,k1,m0] N;let G9:ah l.prog w K mg base aE 9 v1 _ _ (eh y):=rP a2 #[G6,a1.b3,g4,g5] #[G0,O.b2,k0,m1] #[G1,L.b2,k1,m0] #[GWs,g6.b2,S2,S3];let GFo:ah l.prog w K mg base aE 1 f3 _ _ fi:=ve F2;let G':ah l.prog w K mg base aE 8 v4 _ _ (nJ y):=vb a3 #[G0,O.b2,k0,m1] #[G1,L.b2,k1,m0] N o1;let o2:ah l.prog w K mg base aE 9 v6 _ _ (em y):=Y8 a4 #[G',a3.b3,h1,h2] p n0;let o3:ah l.prog w K mg base aE 9 v8 _ _ (oM y):=rY a5 #[G0,O.b2,k0,m1] #[G6,a1.b3,g4,g5] #[GFo,F2.b1,g',h0] #[G',a3.b3,h1,h2];let hxL:clsIn K B≠θ:=by
  unfold clsIn;rw[D1];intro z;cases z
 let hxD:clsIn K D≠θ:=by unfold clsIn;rw[D'];intro z;cases z
 let mxL:=So X G C';let mxD:=So X G D0;let xmL:XM K mg "TooLong" B:=#[e0,k2,X',t0,mxL];let xmD:XM K mg "TooDeep" D:=#[e1,k3,c3,t1,mxD];let o4:ah l.prog w K mg base aE 1 s2 _ _ iT:=rW F8;let o5:ah l.prog w K mg base aE 2 s8 _ _ iT:=rZ a0 #[o4,F8.b2,k9,e'];let GBe:ah l.prog w K mg base aE 2 s4 _ _ iz:=u7 g0 #[o4,F8.b2,k9,e'] c;let GDp:ah l.prog w K mg base (gj l.prog w) 1 s6 _ _ (fc D):=rQ g1 (So X G vD) xmD;let GTI:ah l.prog w K mg base aE 1 f5 _ _ (mM C):=Ar n1 rk;let GTT:ah l.prog w K mg base (gj l.prog w) 1 f6 _ _ (iW C B):=vm n2 rk xmL;let GTN:ah l.prog w K mg base aE 1 f7 _ _ (gK C):=As n3 rk;let GRI:ah l.prog w K mg base aE 2 f4 _ _ (mJ C):=Am n4 rk GTI n1.b3 (So X G vT) tm;let GRC:=Gh (P:=l.prog) (w:=w) (base:=base) rk c0 c0.b4 m2 n5 n5.b3 m' #[o2,a4.b2,h3,h4] #[G9,a2.b3,g7,g8] #[o3,a5.b2,h5,h6] GTT n2.b1 m8 GTN n3.b2 m9 (GDp) g1.b1 R' S1 #[o5,a0.b2,k',g2] N 16;let GRu:ah l.prog w K mg base (gj l.prog w) 45 w0 _ _ (pS B D y):=D8 h7 rk E4 GRI n4.b4 (So X G vR) #[GBe,g0.b3,R5,R7] GRC c0.b4 m2;let GCe:ah l.prog w K mg base aE 3 x7 _ _ iA:=u8 j1 #[j,F.b2,k,m] #[S,A.b1,I,J] a;let GCg:ah l.prog w K mg base aE 3 x' _ _ pM:=DU j2 #[j,F.b2,k,m] #[S,A.b1,I,J] a;let hxB:clsIn K xB≠θ:=by unfold clsIn;rw[E1];intro z;cases z
 let mxB:=So X G vB;let GWi:ah l.prog w K mg base aE 34 w4 _ _ (iY 16):=IF (P:=l.prog) (w:=w) (base:=base) F3 F3.b2 h8 a' a'.b2 h' b 16;let GWa:ah l.prog w K mg base aE 35 w2 _ _ (nR 17):=vq (n:=16) F3 #[GWi,a'.b2,S7,h'];let o6:ah l.prog w K mg base aE 36 w6 _ _ (lO 17):=D6 (n:=16) b0 #[GWa,F3.b2,S6,h8];let o7:ah l.prog w K mg base aE 1 w8 _ _ nG:=DV b7;let GFz:ah l.prog w K mg base aE 1 f3 _ _ iP:=rR F2;let GLk:ah l.prog w K mg base aE 1 w' _ _ mG:=Ag i4 c a;let GLd:ah l.prog w K mg base aE 2 x1 _ _ mE:=Af i5 #[o7,b7.b1,i2,i3] c a;let GTn:ah l.prog w K mg base aE 3 x3 _ _ nQ:=Ea i' #[GLk,i4.b3,S8,S9] #[GLd,i5.b3,S',T0] #[o7,b7.b1,i2,i3];let GLI:ah l.prog w K mg base aE 1 f8 _ _ (my i):=Ah n6 lk;let GLD:ah l.prog w K mg base aE 37 c5 _ _ (iO i):=Ad n7 lk #[o6,b0.b2,i0,i1] a;let GLL:ah l.prog w K mg base aE 70 f' _ _ (lN i 16):=GZ (P:=l.prog) (w:=w) (base:=base) lk c1 c1.b5 m3 n' n'.b5 c6 #[GTn,i'.b3,T1,T2] #[o6,b0.b2,i0,i1] GLD n7.b5 c4 #[GFz,F2.b1,g',h0] b c 16;let GLa:ah l.prog w K mg base aE 71 x5 _ _ mz:=Ae j0 lk E7 GLI n6.b1 (So X G vL) GLL c1.b5 m3;let GLb:ah l.prog w K mg base aE 46 y3 _ _ (iS y):=vh j4 (GRu) h7.b5 S4 S5 #[mxB,hxB,t2,m7,E2,E3] p;let GLc:ah l.prog w K mg base aE 4 y5 _ _ pK:=DT j5 #[GCg,j2.b2,V2,V3] #[j,F.b2,k,m] p;let GLf:ah l.prog w K mg base aE 1 y1 _ _ nK:=DY j3;let o8:ah l.prog w K mg base aE 18 y' _ _ (fQ 17):=Gg (P:=l.prog) (w:=w) (base:=base) F4 F4.b2 m6 b 17;let GBs:ah l.prog w K mg base aE 36 z7 _ _ (h9 16):=Gi (P:=l.prog) (w:=w) (base:=base) b8 b8.b5 l0 #[GLf,j3.b1,V4,V5] #[o8,F4.b2,j',m6] b c a Q 16;let GLl:ah l.prog w K mg base aE 37 z' _ _ pO:=DZ l1 #[GBs,b8.b5,V',l0] #[o8,F4.b2,j',m6] f;let GMk:ah l.prog w K mg base aE 4 B1 _ _ pP:=D3 l2 #[j,F.b2,k,m] #[G2,F6.b2,k7,e4];let GDr:ah l.prog w K mg base aE 26 B3 _ _ (nH y 17):=Mn (P:=l.prog) (w:=w) (base:=base) b9 b9.b5 l3 #[o5,a0.b2,k',g2] #[o2,a4.b2,h3,h4] #[G9,a2.b3,g7,g8] #[S,A.b1,I,J] #[o3,a5.b2,h5,h6] N 17;let GAb:ah l.prog w K mg base aE 27 B5 _ _ (pH y):=DM l4 #[GDr,b9.b5,W4,l3];let GTo:ah l.prog w K mg base aE 3 B7 _ _ pT:=Eb l5 tk q N x c a;exact DX FZ #[GBx,e3.b2,L',N1] #[j,F.b2,k,m] #[S,A.b1,I,J] #[GMk,l2.b1,W2,W3] #[GAn,e8.b3,P1,P4] #[GMa,e2.b1,L7,L8] #[GCe,j1.b1,V0,V1] #[GLb,j4.b4,V6,V7] #[GLc,j5.b2,V8,V9] #[GAb,l4.b4,W5,W6] #[GLl,l1.b2,W0,W1] #[GLa,j0.b2,T9,T'] #[GTo,l5.b2,W7,W8] c N
theorem LV{l:rc}{Y:bU->de->Prop}{d:DefRec}{K:Params->γ}(e:l.most=δ 63)(H:d.params.defaults=[])
  (g:∀(w:bU) (h:de),Y w h->(K w.params).In h)
  (F:∀(w:bU) (mg:ρ->Option ζ) (b:η) (h:de),(K w.params).In h->h.Ns Ω mg->mg d.name=↑b->
   ∃c:hG,(∀(s:ι) (u:ζ),BindsTo s c #[[u],[]] [("_law_script",u)])/\∀base:de,(K w.params).In base->base.Ns Ω mg->ah l.prog w (K w.params) mg base aE 72 b c ["_law_script"] (nM$ K w.params)):
  PySem.W.WalkO q L m Y l.row.toRowW d [] (λf v=>PySem.call f v):=
 _L.Bq (n:=63) (k:=72) (x:="_law_script") (CX:=λ_=>aE) (sp:=λw=>nM (K w.params)) e VU H #[Z,VU,VU] g F (λ_ _ a N i _ j=>#[a,N,Z,j,i,λ_=>Z]) λ_ _ _ _ _ z=>z
end _K
structure PySem.W.Fast:Prop where(tw12853166502106031987 tw6938108660584184729 tw15026138523879226301 tw11441351047484845841 tw16866066364591076301 tw2101151048217792332 tw10729317457348654494 tw13830469069867070991 tw11947218335712318336 tw1302708033866316338 tw11665667649800047701 tw15439774663860462802 tw4684565393077066985 tw7214361838623643199 tw497609888000670515 tw1718674481270116934 tw12537698613409939973 tw1288001757755458849 tw17994445453205640270 tw3143904510812729941 tw18434148332020858633 tw7940773692180036648 tw79026581718129557 tw15853540933316287554 tw7168261046992023629 tw17952777522836563148 tw14566827266442381184 tw11146627392081643756 tw3530878146778712098 tw14048802145778077136 tw7053873592755250428 tw17376116137466686388 tw2218571217742927193 tw2538219537768430450 tw7002100722113363950 tw5694978907571655836 tw11721510991364955707 tw1924782434743478101 tw3929853944286402650 tw14546463952420029334 tw17992690223837274630 tw11620852556439875405 tw16132929104495205408 tw10591995929406504632 tw10712042509654957057 tw8686523237304661772 tw5805155017942875492 tw1213579615849780050 tw11438086940609415836 tw3583984432369886959 tw11786455166477895855 tw16074022133249329649 tw2095306819632392702 tw5140966293113638193 tw626373421766159734 tw6174194699110978294 tw15531016041820747452 tw6334127570421284455 tw259142933166169406 tw8538050996254893934 tw18312878311387094109 tw877256343259119641 tw6931341076682479486 tw13812550716901057874 tw3874002385174311816 tw9166805461610361721 tw15753847028344740943 tw11949640068374380401 tw16802401237130564754 tw2957336108682916667 tw16181972827409517029 tw625056550828916553 tw2770198322309599694 tw7691128147299591453 tw547396556931926579 tw16315414835222078368 tw3174792637720273286 tw4319513147980108668 tw3003088549495048897 tw7164879254355701549 tw4969088765591038704 tw2190418930981217335 tw6543388751852425872 tw6472762406729730631 tw15032551357657878999 tw2817977304399860409 tw9365345047532906223 tw3155952583180537128 tw17297238581467292296 tw13039107426334004387 tw15108515930737814889 tw13605280491683209670 tw17395254345460643387 tw303142614115223247 tw2808054730702768702 tw14332858203180198753 tw13466486826627291492 tw2569570637273102087 tw7785768648485587427 tw7862494757807075878 tw20484973572877757 tw7425684361676120499 tw10989112356893489935 tw13865755482021127589 tw10249756146776338842 tw4129875990456719192 tw2454770092438964986 tw8512169907438386103 tw9021072554378004278 tw3850179054965085983 tw1620787108651304023 tw11025080289100848969 tw18316657743093718490 tw9303326982783816543 tw14268204813041491646 tw1682301760725500640 tw17523751944650093546 tw15863843745233880002 tw16653023250286876102 tw11163495216527530150 tw3815126987889373665 tw12795908641572818653 tw4920307102578319261 tw18155612976298174839 tw8002306950622056617 tw12598743824613589379 tw8176662615189118956 tw1096800330799425787 tw8861268923007435787 tw4090632178911796269 tw13807259488960474643 tw1345324039971590820 tw2085787183512708136 tw10696544215971259442 tw16663288264825567590 tw13048662478172466307 tw11835713106877521741 tw11168171294470596034 tw2796990397546689265 tw16480084761162340503 tw416133314258467084 tw7453703019518646924 tw18303088578563903992 tw1909806180311237760 tw7563372832143277346 tw13879333980675274094 tw13341847023634525608 tw5531321931201522503 tw13551368258976855803 tw16826331945853016542 tw2996067634255741401 tw12439346064641981024 tw222917690312324888 tw9296754182004556314 tw1168198916322864036 tw10346762607592051515 tw16526351647515412076 tw2364363117421412324 tw6927469517702811838 tw13779619605856188804 tw1314026369947844896 tw2538430076287942635 tw5664439532235141499 tw14268366664977075919 tw6752757689284596978 tw15406597358786875014 tw12776830808463299904 tw2403229676541937045 tw4898916310249551412 tw2680148669907761520 tw5441604107407037992 tw3820214065016697302 tw590776569701085246 tw7725995158756782010 tw11039626688726071422 tw13438096454292367388 tw16879338765171229702 tw14445782553822402269 tw17214089753811914456 tw14395481739789131739 tw11159680787846523024 tw12214007522432154990 tw17187947485233958727 tw4232591992140532142 tw5167045696442686533 tw6707871312935078825 tw16759944919892872748 tw293449595256388895 tw16007986743498676176 tw16412963839781345237 tw15607911071980620255 tw3200297508201339289 tw1926164523478463724 tw8794173732416194540 tw9383711040704620537 tw13566173908234929752 tw8207744731543301328 tw17155620234530726192 tw12471317938362033493 tw16065892036090546374 tw13944314171398807161 tw16617403476408457164 tw12536380198483067617 tw16288404756156180063 tw475239341303813032 tw15802885500361331643 tw2334951920865807517 tw16395734620962925835 tw7368102722652261570 tw15173520031690847902 tw10101343737355146421 tw14731050348918607005 tw13901171204246467563 tw10672050481730811086 tw7043588200703092801 tw14572572312795193782 tw3239903055210195543 tw7726798799494118124 tw8936965773512287094 tw6121548905133431517 tw12054641069151590808 tw18193773395409332431 tw12201516308220175872 tw15998539094241525662 tw15829736718572840643 tw14909706598750291339 tw12322285706267357977 tw15249284985800711344 tw7236559945959016544 tw4497416076766402336 tw10341036004817744718 tw2919833446963679223 tw12583049352208909584 tw17482570786692581236 tw16991961357421873088 tw6908561139956995455 tw5414903083904521286 tw13197367431402728779 tw1070525906685324082 tw17873878689861815903 tw261807924398638279 tw2764535410798860159 tw13861754933043273862 tw17879717331335185142 tw12844645136806252168 tw4320816403097220522 tw12154125238384280311 tw9832482627909499048 tw14596750956922245735 tw5098753303112160342 tw9182061570176212097 tw7112848759504689771 tw2465514286624981230 tw13541396734359046932 tw3402432428636044261 tw16711757047812374703 tw1974394196689032302 tw7359290739911092401 tw16880777549130894883 tw4351995690641448480 tw8348446386545293886 tw11119985004947453788 tw1926480444133592682 tw15034045641969176665 tw6158559887869259148 tw11299398215331441218 tw1222808152614213158 tw12123728804056580163 tw17897123924954832496 tw5792318546971906348 tw3551106977884711167 tw12664313941398848348 tw418078038031117257 tw3489373135898214805 tw13878721053390854082 tw13780441009012279136 tw1058854240016951691 tw10913270393336918702 tw3099322507085121418 tw10242840089757524790 tw18097853308022848965 tw172284340623541828 tw11279431376276933049 tw17380833023473908749 tw3684464724234145578 tw13600678800262868048 tw7969506777894047738 tw6217209465125705083 tw11388573149837157467 tw15436704282127165687 tw79952387279558291 tw14794724132506787760 tw1070808912905290375 tw14584223657264468304 tw2453889266923651307 tw9362501720521017813 tw17869971012524922964 tw10944000725822305705 tw17976341181928541074 tw8331249329186843173 tw11209788646112137571 tw10532949752600202861 tw2997203171363525066 tw7531254053664107320 tw15722425438878213052 tw9566371103632542928 tw12614064350716952878 tw9483200863567312516 tw8938569280694044358 tw7603110963413995106 tw14606487009750763636 tw12468838797974226964 tw4716405369289563596 tw17184957048933846915 tw3719768849201926166 tw15877875024055953524 tw7785865339505632922 tw1620662247468595840 tw10469460167280815934 tw6886573702007014218 tw8017441431927402449 tw8269313162683840911 tw8119570174210985348 tw5597670383850060000 tw3126682293239033241 tw16794137171003560912 tw4717150473220932281 tw17496293958568326252 tw5868663101985929322 tw5080022920135919327 tw3226678079210272643 tw1144057597311811622 tw16274813010863379928 tw9618626502563948560 tw18151627219923638173 tw8324557589814794114 tw323975096184056377 tw8984969779624932687 tw701753438623366506 tw2573406476582090453 tw14331794073817528530 tw17964932939502344196 tw11371574280082517287 tw13261322444291723668 tw6464622457011540776 tw7329197059145983566 tw14465146861293985311 tw15290711488658812648 tw9622602901559016510 tw3773046640587535427 tw9517141193078313865 tw9227183295963258605 tw14548463788994204274 tw5301905872184827924 tw2007047507208183356 tw7857251270879321652 tw873517337663726072 tw4844093483053772888 tw13419617348773808607 tw5255320051271584077 tw6878245717625735145 tw8828046329542390606 tw18023269652853084179 tw584143482976864235 tw653813541617935169 tw6830191807590198848 tw13560643966858694560 tw1658925010834895130 tw13493367411827591047 tw3231393315537112620 tw11494797340985253872 tw14875910163780824901 tw13344035101195437646 tw6433594916452103634 tw15861909108828604679 tw2738776961127465498 tw7825641868559544548 tw5755073616326394177 tw14218601325276056650 tw5156924640033953758 tw874665952379277267 tw12223096889725505088 tw14526895468422014297 tw16753628131340981186 tw16840966615064321789 tw2514705474193053026 tw8336960711709088620 tw7172557606433133012 tw4505781903647130429 tw6078363864651551340 tw6930158159481871158 tw11483910805456902796 tw17506502229773399112 tw5680462502496234794 tw17201259421486413558 tw16380911806120251638 tw2375403889932055802 tw1431378530189431941 tw6610388623178654932 tw3353037591448490169 tw1587161397520213476 tw11398662380062350469 tw8149340151383543909 tw2383767411239611673 tw11853980623896120521 tw14855058184900028958 tw8572344239043138474 tw635038451281619792 tw6525367219767465761 tw13940037253974996927 tw724908402955633751:True)
open PySem PySem.W PyProof.Rows PySem.W.X
theorem _K.ID {q : ψ} {loose : List PySem.Str} {XP : (PySem.Str → Option ζ) → de → Prop} {K : Params → γ} {as : List η} {n t : Nat} {r : RowW} {d : DefRec} {kwd : List (PySem.Str × PySem.Expr)} {run : ζ → List ζ → Sem ζ}
    (e : ∀ P, as = (K P).map (·.1)) (h : WalkO q loose XP (InK K) r d kwd run) : WalkX q loose XP (obsZ as) (valZ K n t) r d kwd run :=
  fun w s₀ s₁ mg mb G Y a o pm cd doc dV kV h1 h2 h3 h4 h5 h6 args vals as' L => h w s₀ s₁ mg mb G (InK.keeps w _ _ (z_facts e Y).2.1 L.keeps) a o pm cd doc dV kV h1 h2 h3 h4 h5 h6 args vals as'
set_option maxRecDepth 100000 in
set_option maxHeartbeats 0 in
theorem PySem.Challenge.cw_againbook_k34_within_calls_holds : PySem.Challenge.rw_againbook_k34_within_calls.Holds := by
  w_on; o_law; z_head; (case hw => w_witness2)
  refine _K.ID (fun _ => by rfl)$ _K.LV (l := PySem.Challenge.rw_againbook_k34_within_calls) rfl rfl (fun w h Y => Y) ?F
  case F =>
    intro w mg fa h KX G hmg
    apply _K.CO KX G hmg
    iterate 57 (apply _K.LS;iterate 4 k_is)
    iterate 24 k_is
    iterate 2 k_exc
    iterate 2 (constructor<;>k_is)
    refine ⟨⟨?_,?_,?_,?_⟩,?_,?_,?_,?_,?_⟩;iterate 4 k_is
    iterate 5 (unfold _L.a7;k_is)
    iterate 2 (constructor;iterate 4 k_is)
    iterate 4 (constructor;iterate 3 k_is)
    refine ⟨⟨?_,?_,?_,?_⟩,?_,?_,?_,?_⟩;iterate 4 k_is
    iterate 4 (unfold _L.a7;k_is)
    constructor;iterate 4 k_is
    iterate 3 (constructor;iterate 3 k_is)
    refine ⟨⟨?_,?_,?_,?_⟩,?_,?_⟩;iterate 4 k_is
    iterate 2 (unfold _L.a7;k_is)
    constructor;iterate 4 k_is
    iterate 4 (constructor;iterate 3 k_is)
    iterate 15 (apply _K.Mo;iterate 3 k_is)
    iterate 12 k_is
    constructor;iterate 2 kit_is
