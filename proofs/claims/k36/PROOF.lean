import PyProof.Rows.All
import Wide.All
import OpenK.AllK
import Wide.FinOn
import Lean
import PyProof.EqAt
import PyProof.EqKinds
import PyProof.TupleCall
import PySem.Challenge.RW_againbook_k36_distance
set_option Elab.async false
set_option linter.all false
set_option maxRecDepth 100000
set_option genSizeOf false
set_option genInjectivity false
set_option compiler.extract_closed false
set_option bootstrap.genMatcherCode false
open Option renaming some->δ,none->θ,map_eq_some_iff->de,isSome_iff_exists->mI
open List renaming toArray->ε,getElem?_eq_some_iff->ξ,mem_singleton->υ,mem_cons->Θ,mem_append->Ψ,mem_map->dn,range->dN,lookup->hJ,mem_append_right->ir,mem_iff_getElem->iv,getElem?_eq_getElem->jq,pairwise_cons->kr,length_eq_zero_iff->ks,replicate->kz,mem_append_left->mm,append_eq_nil_iff->mT,nodup_cons->mU,length->ot,mem_filter->ro,mem_range->rs,pairwise_iff_getElem->ry
open PySem renaming Value->ζ,Addr->η,Shared->ι,wpAny->π,Str->ρ,sizeLine->τ,model->χ,Program->ψ,starEach->Δ,mainGlobals->Φ,World->bF,Around->bU,Stmt->cc,strKind->cv,Heap->cJ,Expr->dg,Builtin->dO,backTo->fy,FuncData->fJ,Obj->ge,Scope->hY,codeAny->kw,holding->lu,sizeLine->mu
open Bool renaming true->μ,false->ν,eq_false_iff->mL
open Or renaming inl->ω,inr->fR
open PySem.Value renaming ref->Ξ,none->γ,type->fr,int->ic,str->lq,bool->oS
open PySem.Builtin.SmallTypes renaming nextOf->Ω,ownedTupleIsFree->bx,ownedTupleHandOut->mB
open PySem.W renaming Frag->β,keepIn->iu,methodObj->pz,takerIn->ri,OpenLaw->rm,fnOf->rx
open PySem.Obj renaming mapSeq->ab,mapFields->gb,putSet->mF
open Array renaming getElem?_eq_some_iff->bm,toList->mS
open List.Pairwise renaming nil->dr
open PySem.Builtin.Tuple renaming tupleExact->ef,tupleItemsOf->ra
open PySem.Builtin.List renaming listSameRef->eT,listTooLong->fz,listExtendWith->hG,listLengthHint->ll,listSubscript?->rb,listAllItems->rc
open PySem.Heap renaming SameBut->fx,ExtBut->ov
open PySem.Builtin.Slice renaming slicePlaces->im,sliceAdjust->ly,sliceApplied->qs
open PySem.F renaming slot_zip_getattribute->ls,called_tuple->nI
local macro_rules|`(tactic|let $d:letDecl)=>`(tactic|have $d:letDecl)
local macro_rules|`(tactic|erw[$t:term])=>`(tactic|refine $t)
local macro_rules|`(↑$a)=>`(some (.ref $a))
local macro_rules|`(tactic|let ⟨$x,*⟩:=$t)=>do{let y←x.getElems.mapM fun|`($i:ident)=>`(Lean.Parser.Tactic.rcasesPatLo|$i:ident)|_=>`(Lean.Parser.Tactic.rcasesPatLo|_);`(tactic|obtain ⟨$y,*⟩:=$t)}
def fc:0≤mu:=by decide
def iQ:1≤mu:=by decide
def cj:2≤mu:=by decide
def hZ:3≤mu:=by decide
def rY:4≤mu:=by decide
set_option maxHeartbeats 4000000
open PySem.W (keepIn Frag nsIn kitOne fnOf mg_of codeIn findIn mroIn isFn mg_none_of kia_one typeIn emptyDict clsIn instObj hasDictIn kitAny specialIn callWith_K excIn lookIn plainGet notCls tailIn)
noncomputable section
abbrev tz:=@List
abbrev tT:=@Option
def WL{p:Prop}(h:p:=by decide):p:=h
def WM{p:Prop}(h:p:=by omega):p:=h
def WN{p:Prop}(h:p:=by simp):p:=h
def WO{p:Prop}(h:p:=by decide +kernel):p:=h
def WP{p:Prop}(h:p:=by rfl):p:=h
def Z{α:Sort u}{a:α}:a=a:=rfl
def Wb{p:Prop}(h:p:=by first|decide|rfl):p:=h
def Wx{p:Prop}(h:p:=by first |exact .inl Z |exact .inr Z |assumption):p:=h
local macro_rules|`(↥$p)=>`(autoParam $p Wb._auto_1)
open PySem renaming wpAny_bind->NJ,wpAny_pure->NN,wpAny_holding->Oi,wpAny_field->Oo,wpAny_call_entry->Oy,wpAny_callSpecial?_slot->OA,wpAny_newObj_type->OB,boot_len->OD,builtinLookup_eq_fast->OK,wpAny_setField->ON,wpAny_Call_Name_kw->OP,wpAny_seqItems->OY,wpAny_mono->O2,typeLookup_type->Pk,codeAny_builtin->Pl,mem_of_lookup->Pn,isSubtype_type->Pu,wpAny_setState_of->Px,wpAny_specialOf->Py,wpAny_typeOf->PL,wpAny_rule->PU,plainId_quiet->P8,wpAny_isInstance->P9,sizeLine_eq->Rb,wpAny_setField_rec->Ri,wpAny_passesOwn->Rj,wpAny_standAt->Rk,wpAny_askSetting->Rv,codeAny_mono->Rx,wpAny_setEntries_of->RD,wpAny_newList->RF,wpAny_attempt->RG,wpAny_execs_nil->RI,wpAny_pyIter_tuple->RL,wpAny_truthy_bool->RS,wpAny_newTuple->RT,tupleKind_room_in1->Sm,wpAny_pyIter_list->SJ,wpAny_of_eq->SK,fits_of_scanBound->SN,entryFor_of_tree->Tb,wpAny_updateSeq->Th,wpAny_fieldsOf->Tk,isSubtype_stop->Tn,entryFor_alias->To,call_meets->TF,wpAny_sequenceKey->TQ,wpAny_pyIter_slot->TR,wpAny_execs_cons->T8,noFill_tuple_add->Ua,codeAny_of_tree->Uq,wpAny_runValue->Uw,wpAny_loadPart->Ux,wpAny_listPart->Uy,wpAny_call->Uz,wpAny_bindName->UA,wpAny_onRaise->UL,wpAny_comprehension_free->UM,seq_tuple_add->UN,wpAny_pyNext_list_item->UZ,seqIndex_neg->U1,concat_meets->U3,call_meetsIn->U5,callType_new->U6,wpAny_pyNext_list_end->Vd,wpAny_isTrue_Compare1->Ve,wpAny_updateSeq_pair->Vl,wpAny_loadName_local->Vm,wpAny_letGo->Vn,seqIndex_of->Vo,codeAny_extend_loopS->Vq,wpAny_loadName_cell->Vx,wpAny_load->VI,wpAny_Name->VJ,wpAny_storeSet_of->VO,wpAny_pyIter_enum->VP,wpAny_assign_Name->VQ,wpAny_Assign_Name->VR,slot_list_setitem->VS,merged_length_le->VZ,callType_codes->WE
open List renaming getElem?_eq_getElem->NK,length_map->NO,length_append->NP,size_toArray->NR,getElem?_map->Od,mem_cons_self->Oe,mem_of_getElem?->Og,length_take->Oh,mem_append_right->Oj,map_append->Ol,mem_cons_of_mem->On,append_nil->Op,length_cons->Oq,not_mem_nil->Ov,length_drop->OE,take_length->OH,getD_eq_getElem?_getD->OT,take_add_one->OU,mem_of_mem_take->OZ,take_of_length_le->O0,lookup_cons->O4,getElem?_eq_none->O6,map_cons->O8,getElem_cons_drop->O9,mem_append_left->Pj,append_assoc->Pt,getElem?_append_right->PJ,getElem?_append_left->PR,mem_append->PX,take_sublist->PY,getElem?_set_ne->PZ,mem_cons->P6,drop_zero->P7,forIn_cons->Ra,take_append_drop->Rc,length_singleton->Rg,take_succ->Rl,map_map->Rm,find?_cons->Rz,filter_append->RC,getElem?_set_self->RJ,length_filter_le->RO,getElem?_reverse->RP,getElem_mem->RQ,map_take->RU,drop_nil->RV,any_cons->RW,mem_singleton->R8,getElem?_drop->R9,forIn_nil->Sa,reverse_cons->Sf,length_range->Si,append_cancel_right->Sl,filter_cons_of_pos->Sq,filter_cons_of_neg->Sr,ext_getElem->Ss,append_cancel_left->Su,all_eq_true->Sv,of_mem_zip->SU,length_set->SV,length_replicate->Ta,nodup_nil->Te,getElem?_of_mem->Tf,filterMap_cons->Tj,eraseIdx_eq_take_drop_succ->Tv,length_zip->TK,length_nil->TM,take_take->T6,length_eraseIdx_of_lt->T7,getElem?_zip_eq_some->Ud,all_cons->Ul,getElem?_replicate->Ur,map_nil->Us,drop_eq_nil_of_le->Ut,mem_of_mem_drop->UK,length_reverse->UQ,map_inj_right->UV,forIn_toArray->UW,getElem?_inj->U8,any_eq_false->U9,zipIdx_cons->Vf,filter_cons->Vg,drop_length->Vh,append_inj'->Vi,any_eq_true->Vj,zipIdx_nil->Vr,nodup_cons->Vs,nil_append->Vt,mem_filter->Vu,drop_drop->VC,sum_cons->VM,map_drop->VN,map_set->VV
open PySem.Heap renaming get?_push_of_some->NM,lt_size->NT,get?_push_size->NV,get?_update_other->Of,get?_update_self->Oz,size_push->OL,size_update->TC,get?_update_ne->UR
open Nat renaming le_refl->NQ,zero_le->NY,le_trans->N6,ne_of_lt->N8,lt_of_lt_of_le->Oc,le_succ->OR,ne_of_gt->OS,lt_irrefl->OV,lt_succ_self->Pb,lt_of_le_of_lt->Ph,succ_le_succ->Pq,min_eq_left->Pw,lt_succ_of_lt->P0,le_of_lt->P5,zero_add->Rp,le_max_right->Rq,le_add_right->Rr,le_max_left->RB,lt_of_succ_lt->RN,not_lt_zero->R0,sub_self->R6,le_of_not_lt->SG,sub_zero->SQ,lt_or_ge->SR,min_le_left->S0,le_of_eq->Tu,add_sub_cancel'->UT,add_le_add_left->UU,le_add_left->VA,max_assoc->VT,add_zero->V9,mod_lt->WI
open PySem.F renaming plainAttrs_list->NZ,type_list_append->Oa,slot_list_append->Ob,slot_tuple_iterator_next->O5,slot_zip_next->Pd,type_list_extend->Pe,slot_list_extend->Pf,args_tuple_iterator_next_1->Rs,plain_list_iadd->Rt,args_zip_next_1->Ru,entry_tuple_iterator_next->Ry,entry_zip_next->RE,args_object_init_2->RZ,args_tuple_add_2->Sb,entry_tuple_add->Se,slot_tuple_add->Sn,plainAttrs_str->So,type_str_join->Sx,slot_str_join->Sz,slot_dict_get->SA,plain_proto_collect->Tz,entry_proto_collect->TB,plain_extend_loop->TJ,plain_tuple_new->TZ,plainAttrs_dict->T3,entry_list_iadd->T4,args_dict_get_3->T5,entry_dict_get->Uc,slot_set_iter->Ui,slot_dict_pop->Uj,plain_set_new->Uk,args_list_extend_2->Va,entry_list_extend->Vk,slot_list_extend->Vv
open Bool renaming false_ne_true->N5,false_eq_true->N9,and_eq_true->Pa,not_true->RX,eq_iff_iff->SW,and_false->Tg,or_false->Um,not_eq_true'->Vb,eq_false_iff->Vc,false_and->VH,true_or->VY
open Array renaming length_toList->Om,getElem?_toList->Po,getElem?_eq_getElem->PQ,getElem?_eq_none->SI,size_append->Ts,toList_push->UY,size_map->Vw
open PySem.PassesOwn renaming never->Ot
open PySem.Obj renaming data_mapFields->Ox,isFreed_of_fields->O7,cls_mapFields->RM
open PyProof.Rows renaming callWith_type1->OF,slot_tuple_getitem->PM,boot_tuple->PV,listUpdate_at->R3,seqEpoch_at->SM,entry_list_sort->Ti,slot_list_sort->Tl,boot_sorted->Tp,args_list_sort->Tq,plain_sorted->TU,entry_sorted->TW,args_sorted1->TX,kind_sorted->Uf,list_sort_plain->Uo,get?_update_seq->Up,size_push'->UB,boot_int->UC,boot_reversed->UO,subscriptTail_builtinR->U0,listItems_at->U2,collect_list->U4,Subscript_->VL,boot_isinstance->V',tupleItemsOf_->Ws,iadd_int->Wt,entry_tuple_getitem->Wu,callWith_builtin1->Wv,boot_zip->Ww,boot_enumerate->Wz,boot_dict->WA,args_tuple_getitem->WB,slicePart_none->WC,boot_set->WF
open Option.some renaming inj->OG
open Int renaming emod_lt_of_pos->OJ,toNat_natCast->OM,emod_nonneg->O3,eq_ofNat_of_zero_le->Uu,toNat_of_nonneg->UX,ediv_nonneg->VE
open PySem.Around renaming under_plainId->OX
open PySem.AutoSeq1 renaming wpAny_loadPart'->Pp
open PySem.Heap.SameBut renaming update->Pr,refl->Ue
open PySem.W renaming mg_none_of->Pz,kia_one->Sd,methodCall_KW->Sw,plainGet_of->Tc,callWith_K0->Td,mg_of->Tx,callWith_K->TH,cellsFrom_some->Ub,kitx_list->UF,kitx_dict->UG,looks_mroIn->Vp
open PySem.Calls renaming spliced_cons->PH,spliced_nil->Rh,call_function_entry->Ro,callWith_builtin->SH,Name_function_global->TY,evalArgs_plain->UE
open PyProof.Rows.F renaming plain_set_update_loop->P',entry_set_update_loop->Sj
open PySem.Value renaming isStrOf_shape->RY
open Option renaming map_some->SE,getD_none->Tt,isNone_some->UH,isNone_none->UJ,isSome_map->UP
open PySem.W.KFB renaming if_not->SO,if_so->WG
open PySem.Heap.IsSliceOf renaming new->TN
open PySem.SeqAt.EqAt renaming str_int->Ug,int_str->Uh,tuple_int->VG,str_str->VW,int_int->VX
open PySem.Heap.DictOf renaming new->Uv
open PySem.IsL renaming isList->UD
open StateT renaming run_pure->U7
open PyProof.Rows.IsTup renaming new->U'
open PySem.SeqAt.RcAt renaming lists_lengths->Vy,lists->Vz
open PySem.W.Looks renaming of_pure->VB,here->V0,ld->WJ
open PySem.ItemsOf renaming nil->VD
open PySem.Meets renaming of_wp->VU
open PySem.EqMixed renaming ne_str_int->V1,ne_str_bool->V2,ne_int_str->V3,ne_bool_str->V4,eq_str_int->V5,eq_str_bool->V6,eq_int_str->V7,eq_bool_str->V8
open PySem.Within renaming cons->Wa
open PySem.EqNone renaming ne_str_none->Wc,ne_none_str->We,ne_none_none->Wf,ne_none_int->Wg,ne_none_bool->Wi,ne_int_none->Wj,ne_bool_none->Wk,eq_str_none->Wl,eq_none_str->Wm,eq_none_none->Wn,eq_none_int->Wo,eq_none_bool->Wp,eq_int_none->Wq,eq_bool_none->Wr
open PySem.SeqAt renaming notIn_listAt->WH
def NW:=@decide_eq_false
def N0:=@if_pos
def N4:=@decide_eq_true
def N7:=@if_neg
def Ou:=@Ne.symm
def OQ:=@of_decide_eq_true
def O1:=@congrArg
def Pg:=@if_false
def Pm:=@bne_self_eq_false
def R4:=@if_true
def Sc:=@beq_self_eq_true
def SX:=@or_false
def SY:=@of_decide_eq_false
def Tw:=@Iff.rfl
def VF:=@PySem.Heap.IsTupleIter.at
def WK:=@PySem.Heap.IsList.at
local macro_rules|`(#[$x,*])=>`(⟨$x,*⟩)
local macro_rules|`(tactic|omega)=>`(tactic|lia)
namespace _L
open PySem PySem.Spec PyProof.Rows
abbrev bV:=Sum Int ρ
noncomputable def lR:bV->ζ->Bool
 | .inl k,v=>Value.isInt k v
 | .inr x,v=>Value.isStrOf x v
noncomputable def Mt(w:bF):bV->Int
 | .inl k=>hashInt k
 | .inr x=>hashStr w x
theorem kc:∀{k:bV} {v:ζ},lR k v=μ->(∃i t,k=Sum.inl i/\v=ic i t)∨(∃x t,k=Sum.inr x/\v=lq x t)
 | .inl i,v,h=>by let⟨t,e⟩:=Value.isInt_shape (k:=i) (v:=v) h;exact .inl #[i,t,Z,e]
 | .inr x,v,h=>by let⟨t,e⟩:=RY (x:=x) (v:=v) h;exact .inr #[x,t,Z,e]
def tq(i:Int)(t:Tok):lR (.inl i) (.int i t)=μ:=by simp [lR,Value.isInt]
def tw(x:ρ)(t:Tok):lR (.inr x) (.str x t)=μ:=by simp [lR,Value.isStrOf]
def Ek(a b:Int):decide ((Sum.inl a:bV)=Sum.inl b)=(a==b):=by
 by_cases e:a=b
 .subst e;simp
 .let h:¬(Sum.inl a:bV)=Sum.inl b:=λq=>e (Sum.inl.inj q);rw[NW h];exact(beq_eq_false_iff_ne.mpr e).symm
def En(a b:ρ):decide ((Sum.inr a:bV)=Sum.inr b)=decide (a=b):=by
 by_cases e:a=b
 .subst e;simp
 .let h:¬(Sum.inr a:bV)=Sum.inr b:=λq=>e (Sum.inr.inj q);rw[NW h,NW e]
def El(a:Int)(b:ρ):decide ((Sum.inl a:bV)=Sum.inr b)=ν:=NW (λq=>nomatch q)
def Em(a:ρ)(b:Int):decide ((Sum.inr a:bV)=Sum.inl b)=ν:=NW (λq=>nomatch q)
noncomputable def aX(p:ψ)(w:bF):PySem.KeyKind p w bV where
 is:=lR
 hash:=Mt w
 inj:=λv a b d c=>by
  rcases kc d with ⟨i,t,rfl,rfl⟩ | ⟨x,t,rfl,rfl⟩
  .rcases kc c with ⟨j,u,rfl,e⟩ | ⟨y,u,rfl,e⟩
   .injection e with E _;rw[E]
   .exact nomatch e
  .rcases kc c with ⟨j,u,rfl,e⟩ | ⟨y,u,rfl,e⟩
   .exact nomatch e
   .injection e with E _;rw[E]
 byValue:=λk v h=>by rcases kc h with ⟨i,t,rfl,rfl⟩ | ⟨x,t,rfl,rfl⟩<;>rfl
 pyHash:=λH h=>by
  rcases kc H with ⟨i,t,rfl,rfl⟩ | ⟨x,t,rfl,rfl⟩
  .exact wpAny_pyHash_int h
  .exact wpAny_pyHash_str h
 eqBool:=λf H h=>by
  rcases kc f with ⟨i,t,rfl,rfl⟩ | ⟨x,t,rfl,rfl⟩
  .rcases kc H with ⟨j,u,rfl,rfl⟩ | ⟨y,u,rfl,rfl⟩
   .rw[Ek]at h;exact wpAny_eqBool_int h
   .rw[El]at h;exact Uh i t y u _ _ _ _ h
  .rcases kc H with ⟨j,u,rfl,rfl⟩ | ⟨y,u,rfl,rfl⟩
   .rw[Em]at h;exact Ug x t j u _ _ _ _ h
   .rw[En]at h;exact wpAny_eqBool_str h
 «strs»:=λk x t v h=>by
  rcases kc h with ⟨i,u,rfl,e⟩ | ⟨y,u,rfl,e⟩
  .exact nomatch e
  .injection e with E _;subst E;cases v<;>rfl
def Yu(p:ψ)(w:bF)(i:Int)(t:Tok):(aX p w).is (.inl i) (.int i t)=μ:=tq i t
def Yv(p:ψ)(w:bF)(x:ρ)(t:Tok):(aX p w).is (.inr x) (.str x t)=μ:=tw x t
end _L
namespace _L
open PySem PySem.Spec PyProof.Rows
set_option genInjectivity true in
inductive V where
 |non |bl (b:Bool) |int (i:Int) |str (x:ρ) |byt (b:Array UInt8) |flt (b:UInt64) |ref (a:η) |ty (n:String)
 deriving DecidableEq
set_option genInjectivity false
def aJ:V->ζ->Prop
 | .non,u=>u=γ
 | .bl b,u=>u=oS b
 | .int i,u=>∃t,u=ic i t
 | .str x,u=>∃t,u=lq x t
 | .byt b,u=>∃t,u=Value.bytes b t
 | .flt b,u=>∃t,u=Value.float b t
 | .ref a,u=>u=Ξ a
 | .ty n,u=>u=fr n
abbrev aD:tz V->tz ζ->Prop:=Paired aJ
theorem aD.length(r:aD x u):x.length=u.length:=Paired.length r
theorem aD.get:∀{X:tz V} {U:tz ζ} {i:Nat} {x:V},aD X U->X[i]?=δ x->∃u,U[i]?=δ u/\aJ x u
 |_,_,_,_,.nil,e=>by simp at e
 |_,_,0,_,.cons r _,e=>by simp at e;subst e;exact#[_,Z,r]
 |_,_,i+1,x,.cons _ t,e=>by let⟨u,h,H⟩:=aD.get (i:=i) (x:=x) t (by simpa using e);exact#[u,by simpa using h,H]
theorem aD.set(r:aJ x u):∀{X:tz V} {U:tz ζ} (i:Nat),aD X U->aD (X.set i x) (U.set i u)
 |_,_,_,.nil=>.nil
 |_,_,0,.cons _ t=>.cons r t
 |_,_,i+1,.cons q t=>.cons q (aD.set r i t)
theorem aD.append:∀{x y:tz V} {u w:tz ζ},aD x u->aD y w->aD (x++y) (u++w)
 |_,_,_,_,.nil,s=>s
 |_,_,_,_,.cons r t,s=>.cons r (aD.append t s)
theorem aD.take:∀{x:tz V} {u:tz ζ} (n:Nat),aD x u->aD (x.take n) (u.take n)
 |_,_,0,_ |_,_,_+1,.nil=>.nil
 |_,_,n+1,.cons r t=>.cons r (aD.take n t)
theorem aD.drop:∀{x:tz V} {u:tz ζ} (n:Nat),aD x u->aD (x.drop n) (u.drop n)
 |_,_,0,r=>r
 |_,_,_+1,.nil=>.nil
 |_,_,n+1,.cons _ t=>aD.drop n t
def eL:tT V->tT ζ->Prop
 |some v,δ u=>aJ v u
 |none,θ=>True
 |_,_=>False
def KV{a:Type}:tz (a×V)->tz (a×ζ)->Prop:=Paired λ(p:a×V) (q:a×ζ)=>p.1=q.1/\aJ p.2 q.2
noncomputable def kV:bV->V
 | .inl i=>.int i
 | .inr x=>.str x
inductive HO where
 |lst (xs:List V)
 |tup (xs:List V)
 |dK (kvs:List (bV×V)) |dT (kvs:List (List bV×V))
 |set (S:Int->Bool) (n:Nat)
 |ins (C dx:η) (fs:List (ρ×V))
 |own (x:η)
 |xd (fs:List (ρ×V))
 |met (f x:η)
 |rng (lo hi:Int)
 |frz (o:ge) (u:HO)
 |tbl (ps:Array ζ)
 |ext (φ:cJ->Prop)
abbrev Hp:=η->tT HO
noncomputable def af(H:Hp)(a:η)(o:HO):Hp:=λb=>if b=a then δ o else H b
def jc:af H a o a=δ o:=by unfold af;rw[N0 Z]
def jh(h:b≠a):af H a o b=H b:=by unfold af;rw[N7 h]
def jR{H:Hp}(h:H a=δ o)(c:H b=δ u)(d:o≠u):a≠b:=by intro e;subst e;rw[h]at c;exact d (OG c)
def jk{H:Hp}(h:H a=δ o)(c:H b=θ):a≠b:=by intro e;subst e;rw[h]at c;cases c
section
variable (P:ψ)(w:bF)
def aP(H:Hp)(h:cJ)(a:η):HO->Prop
 | .lst X=>X.length<=τ/\∃(i:tz ζ) (n:Nat),aD X i/\h.get? a=δ { cls:=.type "list",data:=.seq i.toArray n }
 | .tup X=>X.length<=τ/\∃i:tz ζ,aD X i/\IsTup h a i.toArray
 | .dK k=>k.length<=τ/\(a==sysModules)=ν/\∃c,KV k c/\h.DictOf (aX P w) a c
 | .dT k=>k.length<=τ/\(a==sysModules)=ν/\∃X:tz (tz bV×η×ζ),
   Paired (λ(p:tz bV×V) (q:tz bV×η×ζ)=>p.1=q.1/\H q.2.1=δ (.tup$ p.1.map kV)/\aJ p.2 q.2.2) k X/\
   ∃o e E,h.get? a=δ o/\o.ExactDict/\o.data= .dict e E/\e.toList=X.map (entryOfKey$ tupleKind$ aX P w)/\(X.map (·.1)).Nodup
 | .set S n=>h.SetOf (intKind P w) a S n
 | .ins C d F=>H d=δ (.own a)/\F.length<=1000/\d≠a/\h.get? a=δ (instObj C d)/\
   ∃m,h.Ns1 d m/\(∀f,eL (F.lookup f)$ m f)/\PySem.Within m (F.map (·.1))
 | .own _=>∃o,h.get? a=δ o
 | .xd F=>∃m,h.Ns1 a m/\∀f,eL (F.lookup f) (m f)
 | .rng lo l=>∃t u v,h.get? a=δ { cls:=.type "range",data:=.fields (ε [.int lo t,.int l u,.int 1 v]) }
 | .frz o u=>h.get? a=δ o/\aP H h a u
 | .tbl r=>h.get? a=δ { cls:=.none,data:=.fields r }
 | .met f x=>h.get? a=δ (pz (.ref f) (.ref x))
 | .ext b=>b h/\(∃o,h.get? a=δ o)/\∀g j:cJ,b g->(∀o,g.get? a=δ o->j.get? a=δ o)->b j
def fV(H:Hp)(h:cJ):Prop:=∀a o,H a=δ o->aP P w H h a o
end
section
variable {P:ψ}{w:bF}{H H':Hp}{h h':cJ}{a:η}{o:HO}
theorem aP.lt(x:aP P w H h a o):a < h.objs.size:=by
 cases o with
 |lst X=>let⟨_,_,_,_,e⟩:=x;exact NT e
 |tup X=>let⟨_,_,_,p⟩:=x;exact p.lt
 |dK k |dT k=>let⟨_,_,_,_,o,_,_,e,_⟩:=x;exact NT e
 |set S n=>let⟨o,_,_,_,e,_⟩:=x;exact NT e
 |ins C d F=>let⟨_,_,_,e,_⟩:=x;exact NT e
 |own y=>let⟨_,e⟩:=x;exact NT e
 |xd F=>obtain⟨_,⟨_,_,_,e,_⟩,_⟩:=x;exact NT e
 |rng lo b=>let⟨_,_,_,e⟩:=x;exact NT e
 |frz O u=>let⟨e,_⟩:=x;exact NT e
 |tbl c |met f y=>exact NT (show h.get? a=δ _ from x)
 |ext g=>obtain⟨_,⟨_,e⟩,_⟩:=x;exact NT e
theorem Paired.mapP{c d:Type}{F G:c->d->Prop}:∀{l:tz c} {L:tz d},Paired F l L->(∀a b,F a b->G a b)->Paired G l L
 |_,_,.nil,_=>.nil
 |_,_,.cons r t,f=>.cons (f _ _ r) (Paired.mapP t f)
def aP.stay(x:aP P w H h a o)(k:∀b u,(b=a∨H b=δ (.own a))->h.get? b=δ u->h'.get? b=δ u)
  (s:∀b,H b=δ (.own a)->H' b=δ (.own a)) (A:∀b X,H b=δ (.tup X)->H' b=δ (.tup X)):aP P w H' h' a o:=by
 induction o with
 |lst X=>let⟨z,i,n,r,e⟩:=x;exact#[z,i,n,r,k _ _ (.inl Z) e]
 |tup X=>let⟨z,i,r,O,e,c⟩:=x;exact#[z,i,r,O,k _ _ (.inl Z) e,c]
 |dK K=>let⟨z,y,V,r,O,E,g,e,c⟩:=x;exact#[z,y,V,r,O,E,g,k _ _ (.inl Z) e,c]
 |dT K=>let⟨z,y,X,r,O,E,g,e,c⟩:=x;exact#[z,y,X,Paired.mapP r λp q z=>#[z.1,A _ _ z.2.1,z.2.2],O,E,g,k _ _ (.inl Z) e,c]
 |set S n=>let⟨O,E,g,t,e,c⟩:=x;exact#[O,E,g,t,k _ _ (.inl Z) e,c]
 |ins C D F=>obtain⟨d,z,N,e,m,⟨j,E,g,B,c⟩,r⟩:=x;exact#[s _ d,z,N,k _ _ (.inl Z) e,m,#[j,E,g,k _ _ (.inr d) B,c],r]
 |own y=>let⟨O,e⟩:=x;exact#[O,k _ _ (.inl Z) e]
 |xd F=>obtain⟨m,⟨j,E,g,e,c⟩,r⟩:=x;exact#[m,#[j,E,g,k _ _ (.inl Z) e,c],r]
 |rng lo G=>let⟨t,u,v,e⟩:=x;exact#[t,u,v,k _ _ (.inl Z) e]
 |frz O u I=>let⟨e,q⟩:=x;exact#[k _ _ (.inl Z) e,I q]
 |tbl l=>have e:h.get? a=δ { cls:=.none,data:=.fields l }:=x;show h'.get? a=δ { cls:=.none,data:=.fields l };exact k a _ (.inl Z) e
 |met f y=>have e:h.get? a=δ (pz (.ref f)$ .ref y):=x;show h'.get? a=δ (pz (.ref f)$ .ref y);exact k a _ (.inl Z) e
 |ext J=>obtain⟨p,⟨o,e⟩,st⟩:=x;exact#[st _ _ p λo q=>k _ _ (.inl Z) q,#[o,k _ _ (.inl Z) e],st]
theorem fV.lt(x:fV P w H h)(e:H a=δ o):a < h.objs.size:=(x a o e).lt
def fV.fresh(x:fV P w H h)(e:h.objs.size<=a):H a=θ:=by
 cases q:H a with
 |none=>rfl
 |some u=>exact absurd (Oc (x.lt q) e) (OV _)
def fV.kept(x:fV P w H h)(k:∀b u,h.get? b=δ u->h'.get? b=δ u):fV P w H h':=λa o e=>
 (x a o e).stay (λb u _ q=>k b u q) (λ_ q=>q) λ_ _ q=>q
def fV.laid(x:fV P w H h)(k:∀b u,h.get? b=δ u->h'.get? b=δ u)(g:h.objs.size<=a)(n:aP P w (af H a o) h' a o):fV P w (af H a o) h':=λb u e=>by
 let d:=x.fresh g;by_cases f:b=a
 .subst f;rw[jc]at e;cases e;exact n
 .rw[jh f]at e;exact(x b u e).stay (λc v _ q=>k c v q) (λc q=>by rwa[jh$ jk q d]) λc X q=>by rwa[jh$ jk q d]
end
def Rd(H:Hp)(a:η)(u:HO):Prop:=H a=δ u∨∃o,H a=δ (.frz o u)
def Rd.ok{P:ψ}(r:Rd H a u)(x:fV P w H h):aP P w H h a u:=by
 rcases r with r | ⟨o,r⟩
 .exact x a u r
 .let⟨_,q⟩:=x a _ r;exact q
def Hl:tT HO->Prop
 |some (.lst _) |some (.dK _) |some (.dT _) |some (.set _ _) |some (.ins _ _ _) |some (.ext _)=>True
 |_=>False
section
variable {P:ψ}{w:bF}{H:Hp}{h h':cJ}{x e:η}{o':HO}
def fV.write(o:fV P w H h)(m:Hl (H x))(i:e=x∨H e=δ (.own x))(k:∀b u,b≠e->h.get? b=δ u->h'.get? b=δ u)(f:∃u,h'.get? e=δ u)
  (g:aP P w (af H x o') h' x o'):fV P w (af H x o') h':=λb u q=>by
 let n:∀c y,H c=δ (.own y)->c≠x:=λc y r z=>by subst z;rw[r]at m;exact m
 let N:∀c X,H c=δ (.tup X)->c≠x:=λc X r z=>by subst z;rw[r]at m;exact m
 by_cases d:b=x
 .subst d;rw[jc]at q;cases q;exact g
 .rw[jh d]at q;by_cases a:b=e
  .let Q:H b=δ (.own x):=by
    rcases i with z |z
    .exact absurd (a.trans z) d
    .rwa[a]
   rw[q]at Q;cases Q;let⟨v,j⟩:=f;exact#[v,by rwa[a]]
  .refine(o b u q).stay (λc v hc r=>k c v ?_ r) (λc r=>by rwa[jh$ n c b r]) λc X r=>by rwa[jh$ N c X r]
   rcases hc with rfl |hc
   .exact a
   .rintro rfl;rcases i with z |z
    .exact n c b hc z
    .rw[hc]at z;cases z;exact d Z
end
structure Un(fs ex:tz η)(H H':Hp)(h h':cJ):Prop where
 keep:∀b o,h.get? b=δ o->H b=θ->b∉fs->b∉ex->h'.get? b=δ o
 slot:∀b o,h.get? b=δ o->H b=θ->b∈fs->b∉ex->∃sl,h'.get? b=δ { o with slots:=sl }
 free:∀b o,h.get? b=δ o->H b=θ->b∉ex->H' b=θ
 there:∀b o,h.get? b=δ o->b∉ex->∃o',h'.get? b=δ o'
 tups:∀b xs,H b=δ (.tup xs)->H' b=δ (.tup xs)
 frzs:∀b o u,H b=δ (.frz o u)->H' b=δ (.frz o u)
 tbls:∀b ps,H b=δ (.tbl ps)->∃more,H' b=δ (.tbl$ ps++more)
section
variable {fs fs' ex ex':tz η}{H H1 H2:Hp}{h h1 h2 h':cJ}{a x e:η}{o:HO}
def Un.any(u:Un fs ex H H1 h h1)(q:h.get? b=δ O)(n:H b=θ)(c:b∉ex):∃s,h1.get? b=δ { O with slots:=s }:=by
 by_cases d:b∈fs
 .exact u.slot b O q n d c
 .exact#[O.slots,u.keep b O q n d c]
def Un.kept(k:∀b u,h.get? b=δ u->h'.get? b=δ u):Un fs ex H H h h':=
 #[λb O q _ _ _=>k b O q,λb O q _ _ _=>#[O.slots,k b O q],λ_ _ _ n _=>n,λb O q _=>#[O,k b O q],λ_ _ q=>q,λ_ _ _ q=>q,λ_ p q=>#[(ε []),by rw[q];simp]]
def Un.refl:Un fs ex H H h h:=Un.kept λ_ _ q=>q
def Un.laid(k:∀b u,h.get? b=δ u->h'.get? b=δ u)(d:h.objs.size<=a)(c:H a=θ):Un fs ex H (af H a o) h h' where
 keep:=λb u q _ _ _=>k b u q
 slot:=λb u q _ _ _=>#[u.slots,k b u q]
 free:=λb u q n _=>by rwa[jh$ N8$ Oc (NT q) d]
 there:=λb u q _=>#[u,k b u q]
 tups:=λb X q=>by rwa[jh$ jk q c]
 frzs:=λb u X q=>by rwa[jh$ jk q c]
 tbls:=λb p q=>#[(ε []),by rw[jh$ jk q c,q];simp]
def Un.write(m:Hl (H x))(j:e=x∨H e=δ (.own x))(k:∀b u,b≠e->h.get? b=δ u->h'.get? b=δ u)(d:∃u,h'.get? e=δ u):Un fs ex H (af H x o) h h':=by
 let g:∀b,H b=θ->b≠x:=λb n z=>by subst z;rw[n]at m;exact m
 let i:∀b,H b=θ->b≠e:=λb n z=>by
  subst z;rcases j with r |r
  .exact g b n r
  .rw[n]at r;cases r
 let f:∀b u,H b=δ u->¬Hl (δ u)->b≠x:=λb u q N z=>by subst z;rw[q]at m;exact N m
 refine#[λb u q n _ _=>k b u (i b n) q,λb u q n _ _=>#[u.slots,k b u (i b n) q],λb u q n _=>by rwa[jh$ g b n],λb u q _=>?_,
  λb X q=>by rwa[jh$ f b _ q λz=>z],λb u X q=>by rwa[jh$ f b _ q λz=>z],λb p q=>#[(ε []),by rw[jh$ f b _ q λz=>z,q];simp]]
 by_cases c:b=e
 .subst c;exact d
 .exact#[u,k b u c q]
end
noncomputable def LU(h:cJ)(H:Hp):tz η:=(dN h.objs.size).filter λa=>(H a).isSome
noncomputable def md(h:cJ)(H:Hp):cJ:=PySem.W.hideAll h (LU h H)
def sX(h:cJ)(H:Hp):(md h H).objs.size=h.objs.size:=PySem.W.hideAll_size _ _
def vO{h:cJ}{H:Hp}(e:h.get? b=δ o)(n:H b=θ):(md h H).get? b=δ o:=
 PySem.W.hideAll_get _ e λa=>by let q:(H b).isSome=μ:=(ro.mp a).2;rw[n]at q;simp at q
def AX(e:(md h H).get? b=δ o):h.get? b=δ o/\H b=θ:=by
 let E:h.get? b=δ o:=PySem.W.of_hideAll (LU h H) e;refine#[E,?_];cases q:H b with
 |none=>rfl
 |some x=>have a:b∈LU h H:=ro.mpr #[rs.mpr$ NT E,by simp [q]];let z:(md h H).get? b=θ:=PySem.W.hideAll_none (LU h H) a;rw[z]at e;cases e
end _L
open _L.V renaming str->rz,int->sn,ref->tf
namespace _L
open PySem PySem.Spec PyProof.Rows
structure Mod(K:β)(mg:ρ->tT ζ)(base:cJ):Prop where
 kin:K.In base
 glob:base.Ns Φ mg
 blt:∃mb,base.Ns builtinsNs mb/\∀x:ρ,x≠"__name__"->mb x=bootBuiltins x
 nolimit:base.NoLimit
structure Cx where
 prog:ψ
 w:bF
 K:β
 mg:ρ->Option ζ
 base:cJ
 A:bU
 N:List ρ
 s₀:ι
 H₀:Hp
 env:Env
 outer:List Env
 stack:List Env
 ex:List η
 fn:ρ->Bool
 calm:Bool
 pn:List (η×ge)
 xe:ζ->ι->Prop
noncomputable def lO(l:tz Env):tz η:=l.filterMap (·.frame)
noncomputable abbrev Cx.fs(X:Cx):tz η:=lO X.outer
def LN(s:hY)(x:ρ):Prop:=s.names.lookup x=δ .local∨s.names.lookup x=δ .cell∨s.names.lookup x=δ .free
def uP(s:hY)(x:ρ):Prop:=s.names.lookup x=δ .local∨s.names.lookup x=δ .cell
def Ma(e:Env)(h:cJ)(m:ρ->tT ζ)(x:ρ)(u:ζ):Prop:=
 (e.kindOf x=δ .local/\m x=δ u)∨((e.kindOf x=δ .cell∨e.kindOf x=δ .free)/\∃c,e.cells.lookup x=δ c/\h.IsCell c (δ u))
structure Cx.Ok(X:Cx):Prop where
 mod:Mod X.K X.mg X.base
 kind:X.env.scope.kind= .function
 glob:X.env.globals=Φ
 blt:X.env.builtins=builtinsNs
 above:X.s₀.heap.objs.size<=X.env.locals
 inj:∀x y c,X.env.cells.lookup x=δ c->X.env.cells.lookup y=δ c->x=y
 has:∀x,(X.env.kindOf x=δ .cell∨X.env.kindOf x=δ .free)->∃c,X.env.cells.lookup x=δ c
 cab:∀x c,X.fn x=μ->X.env.cells.lookup x=δ c->X.s₀.heap.objs.size<=c
 hd:X.calm=μ->X.A.handled=θ
 frames:X.A.frames=δ X.stack
 stk:X.stack=X.outer∨(X.stack=X.env::X.outer/\X.env.frame=δ X.env.locals)
 exf:∀b∈X.ex,b≠X.env.locals/\∀x c,X.env.cells.lookup x=δ c->c≠b
 bs:∀b o,X.base.get? b=δ o->X.s₀.heap.get? b=δ o/\X.H₀ b=θ
 bsz:X.base.objs.size<=X.s₀.heap.objs.size
 noex:∀b o,X.base.get? b=δ o->b∉X.ex
 exfs:∀b∈X.ex,b∉X.fs
 funs:X.s₀.heap.FunFrames X.base X.outer
 frf:∀b∈X.fs,X.H₀ b=θ
structure au(X:Cx)(pins:tz (η×ge))(σ:tz (tT V))(H:Hp)(s:ι):Prop where
 ok:X.Ok
 os:s.os=X.s₀.os
 bare:AllBare s.gens
 base:Un X.fs X.ex X.H₀ H X.s₀.heap s.heap
 loc:∃m,s.heap.Ns X.env.locals m/\∀(i:Nat) (x:ρ) (v:V),X.N[i]?=δ x->σ[i]?=δ (δ v)->LN X.env.scope x->∃u,aJ v u/\Ma X.env s.heap m x u
 cell:∀x c,X.env.cells.lookup x=δ c->∃v,s.heap.IsCell c v
 free:H X.env.locals=θ
 freeC:∀x c,X.env.cells.lookup x=δ c->H c=θ
 pin:∀p∈X.pn++pins,s.heap.get? p.1=δ p.2/\H p.1=θ/\p.1≠X.env.locals/\p.1∉X.fs/\∀v,p.2.data≠ .cell v
 hok:fV X.prog X.w H s.heap
 len:σ.length=X.N.length
section
variable {X:Cx}{pins:tz (η×ge)}{σ:tz (tT V)}{H H':Hp}{s:ι}{h':cJ}
def Cx.Ok.nofr(O:X.Ok)(e:X.base.get? b=δ o):b∉X.fs:=λh=>by let:=(O.funs.mem h).1;rw[e]at this;cases this
theorem au.bs(I:au X pins σ H s):∀b o,X.base.get? b=δ o->s.heap.get? b=δ o/\H b=θ:=λb o e=>
 #[I.base.keep b o (I.ok.bs b o e).1 (I.ok.bs b o e).2 (I.ok.nofr e)$ I.ok.noex b o e,I.base.free b o (I.ok.bs b o e).1 (I.ok.bs b o e).2$ I.ok.noex b o e]
def au.bk(I:au X pins σ H s):∀b o,X.base.get? b=δ o->s.heap.get? b=δ o:=λb o e=>(I.bs b o e).1
theorem au.mod(I:au X pins σ H s):Mod X.K X.mg X.base:=I.ok.mod
def au.kIn(I:au X pins σ H s):X.K.In s.heap:=I.ok.mod.kin.keeps I.bk
theorem au.lt(I:au X pins σ H s):X.env.locals < s.heap.objs.size:=let #[_,h,_]:=I.loc;h.lt
def au.sz(I:au X pins σ H s):X.s₀.heap.objs.size<=s.heap.objs.size:=N6 I.ok.above (P5 I.lt)
def au.nofs(I:au X pins σ H s)(h:s.heap.objs.size<=a):a∉X.fs:=λb=>by let⟨_,o,c,_⟩:=I.ok.funs.mem b;exact absurd (Oc (NT c)$ N6 I.sz h)$ OV _
def au.cne(I:au X pins σ H s):∀x c,X.env.cells.lookup x=δ c->c≠X.env.locals:=λx c e z=>by let⟨v,o,b,d⟩:=I.cell x c e;obtain⟨m,⟨O,E,f,h,a,_⟩,_⟩:=I.loc;rw[z,h]at b;cases b;rw[a]at d;cases d
theorem au.funs(I:au X pins σ H s):s.heap.FunFrames X.base X.outer:=by
 let all:∀(l:tz Env),(∀b∈lO l,b∈X.fs)->X.s₀.heap.FunFrames X.base l->s.heap.FunFrames X.base l:=by
  intro l;induction l with
  |nil=>intro _ _;trivial
  |cons E r i=>intro d f;obtain⟨g,⟨L,o,h,j,k,m⟩,n⟩:=f;let a:L∈X.fs:=d L (by unfold lO;rw[List.filterMap_cons,h];exact List.mem_cons_self);let⟨S,e⟩:=I.base.slot L o k (I.ok.frf L a) a λz=>I.ok.exfs L z a;exact#[g,#[L,_,h,j,e,m],i (λb c=>d b (by unfold lO;rw[List.filterMap_cons,h];exact List.mem_cons_of_mem _ c)) n]
 exact all X.outer (λ_ c=>c) I.ok.funs
theorem au.stack(I:au X pins σ H s):s.heap.FunFrames X.base X.stack:=by
 rcases I.ok.stk with e | ⟨e,h⟩
 .rw[e];exact I.funs
 .rw[e];let⟨m,a,_⟩:=I.loc;refine .cons (by rw[I.ok.kind];decide) h a ?_ I.funs;exact Heap.get?_none_of_le$ N6 I.ok.bsz I.ok.above
def au.stkSub(I:au X pins σ H s):∀b∈lO X.stack,b∈X.env.locals::X.fs:=λb h=>by
 rcases I.ok.stk with e | ⟨e,a⟩
 .rw[e]at h;exact On _ h
 .rw[e]at h;unfold lO at h;rw[Tj,a]at h;exact h
def au.stkFree(I:au X pins σ H s):∀b∈lO X.stack,H b=θ:=λb hb=>by
 rcases Θ.mp (I.stkSub b hb) with e |hb
 .rw[e];exact I.free
 .let⟨_,o,h,_⟩:=I.ok.funs.mem hb;exact I.base.free b o h (I.ok.frf b hb) λz=>I.ok.exfs b z hb
def au.step{g':Array GenState}{d':Drawn}{ch:tz η}(I:au X pins σ H s)
  (a:∀b∈ch,(b∈X.ex∨X.s₀.heap.objs.size<=b)/\b≠X.env.locals/\(∀x c,X.env.cells.lookup x=δ c->c≠b)/\∀p∈X.pn++pins,p.1≠b)
  (K:∀b o,b≠X.env.locals->b∉X.fs->b∉ch->s.heap.get? b=δ o->H b=θ->h'.get? b=δ o)
  (S:∀b o,b≠X.env.locals->b∈X.fs->b∉ch->s.heap.get? b=δ o->H b=θ->∃J,h'.get? b=δ { o with slots:=J }) (f:∀b o,b∉ch->s.heap.get? b=δ o->H b=θ->H' b=θ)
  (t:∀b o,b∉ch->s.heap.get? b=δ o->∃O,h'.get? b=δ O)
  (T:∀b j,H b=δ (.tup j)->H' b=δ (.tup j)) (F:∀b o u,H b=δ (.frz o u)->H' b=δ (.frz o u)) (B:∀b P,H b=δ (.tbl P)->∃M,H' b=δ (.tbl$ P++M))
  (ns:∀m,s.heap.Ns X.env.locals m->h'.Ns X.env.locals m) (L:fV X.prog X.w H' h') (hg:AllBare g'):
  au X pins σ H' { s with heap:=h',gens:=g',drawn:=d',toks:=t' }:=by
 let D:∀b o,X.s₀.heap.get? b=δ o->b≠X.env.locals:=λb o e=>N8 (Oc (NT e) I.ok.above);let g:∀b o,X.s₀.heap.get? b=δ o->b∉X.ex->b∉ch:=λb o e h y=>by
  rcases(a b y).1 with z |z
  .exact h z
  .exact absurd (Oc (NT e) z)$ OV _
 let C:∀x c,X.env.cells.lookup x=δ c->∀v,s.heap.IsCell c v->h'.IsCell c v:=λx c e v #[o,A,Q]=>by
  let N:c∉ch:=λz=>(a c z).2.2.1 x c e Z;by_cases U:c∈X.fs
  .let⟨J,q⟩:=S c o (I.cne x c e) U N A (I.freeC x c e);exact#[_,q,Q]
  .exact#[o,K c o (I.cne x c e) U N A$ I.freeC x c e,Q]
 refine#[I.ok,I.os,hg,#[λb o e n y h=>?_,λb o e n y h=>?_,λb o e n h=>?_,λb o e h=>?_,λb j e=>T b j (I.base.tups b j e),λb o j e=>F b o j (I.base.frzs b o j e),λb P e=>?_],?_,λx c e=>?_,?_,λx c e=>?_,λp W=>?_,L,I.len]
 .exact K b o (D b o e) y (g b o e h) (I.base.keep b o e n y h)$ I.base.free b o e n h
 .let⟨J,E⟩:=I.base.slot b o e n y h;let⟨R,G⟩:=S b _ (D b o e) y (g b o e h) E (I.base.free b o e n h);exact#[R,G]
 .let⟨O,E⟩:=I.base.there b o e h;exact f b O (g b o e h) E$ I.base.free b o e n h
 .let⟨O,E⟩:=I.base.there b o e h;exact t b O (g b o e h) E
 .let⟨m1,E⟩:=I.base.tbls b P e;let⟨m2,G⟩:=B b _ E;exact#[m1++m2,by rw[G,Array.append_assoc]]
 .let⟨m,hn,hl⟩:=I.loc;refine#[m,ns m hn,λi x v E G e3=>?_];let⟨u,r,l⟩:=hl i x v E G e3;refine#[u,r,?_];rcases l with l | ⟨k,c,e,z⟩
  .exact .inl l
  .exact .inr #[k,c,e,C x c e _ z]
 .let⟨v,z⟩:=I.cell x c e;exact#[v,C x c e v z]
 .obtain⟨m,⟨o,_,_,A,_⟩,_⟩:=I.loc;exact f _ o (λz=>(a _ z).2.1 Z) A I.free
 .let⟨v,o,A,Q⟩:=I.cell x c e;exact f c o (λz=>(a c z).2.2.1 x c e Z) A$ I.freeC x c e
 .let⟨e,n,Y,nf,d⟩:=I.pin p W;let N:p.1∉ch:=λz=>(a p.1 z).2.2.2 p W Z;exact#[K p.1 p.2 Y nf N e n,f p.1 p.2 N e n,Y,nf,d]
def au.un{t':Nat}(I:au X pins σ H s)(u:Un X.fs [] H H' s.heap h')(a:fV X.prog X.w H' h'):au X pins σ H' { s with heap:=h',toks:=t' }:=by
 obtain⟨m,⟨o,j,k,f,r⟩,_⟩:=id I.loc;let⟨S,g⟩:=u.any f I.free WN;exact I.step (g':=s.gens) (d':=s.drawn) (ch:=[]) (λ_ z=>nomatch z) (λb o _ c _ e n=>u.keep b o e n c WN) (λb o _ c _ e n=>u.slot b o e n c WN) (λb o _ e n=>u.free b o e n WN) (λb o _ e=>u.there b o e WN) u.tups u.frzs u.tbls (λM i=>by
  let⟨O,E,d,h,R⟩:=i;rw[f]at h;cases h;exact#[_,E,d,g,R]) a I.bare
def au.call{g':Array GenState}{t':Nat}{d':Drawn}{ch:tz η}(I:au X pins σ H s)(u:Un (lO X.stack) ch H H' s.heap h')(f:fV X.prog X.w H' h')(k:AllBare g')
  (a:∀b∈ch,(b∈X.ex∨X.s₀.heap.objs.size<=b)/\b≠X.env.locals/\(∀x c,X.env.cells.lookup x=δ c->c≠b)/\∀p∈X.pn++pins,p.1≠b):
  au X pins σ H' { s with heap:=h',gens:=g',drawn:=d',toks:=t' }:=by
 obtain⟨m,⟨o,t,v,j,r⟩,_⟩:=id I.loc;let⟨S,g⟩:=u.any j I.free λz=>(a _ z).2.1 Z;exact I.step (ch:=ch) a (λb o g l h e n=>u.keep b o e n (λz=>(Θ.mp$ I.stkSub b z).elim g l) h) (λb o _ _ h e n=>u.any e n h) (λb o h e n=>u.free b o e n h) (λb o h e=>u.there b o e h) u.tups u.frzs u.tbls (λM q=>by
  let⟨O,E,i,d,R⟩:=q;rw[j]at d;cases d;exact#[_,E,i,g,R]) f k
def au.turned{t':Nat}{it:η}(I:au X pins σ H s)(k:∀b o,b≠it->s.heap.get? b=δ o->h'.get? b=δ o)(d:H it=θ)(a:it≠X.env.locals)
  (f:it∈X.ex∨X.s₀.heap.objs.size<=it) (g:∀x c,X.env.cells.lookup x=δ c->c≠it) (i:∀p∈X.pn++pins,p.1≠it):au X pins σ H { s with heap:=h',toks:=t' }:=by
 let N:∀b u,H b=δ u->b≠it:=λb u e z=>by rw[z,d]at e;cases e
 refine I.step (g':=s.gens) (d':=s.drawn) (ch:=[it]) (λb j=>?_) (λb o _ _ h e _=>k b o (λz=>h (by simp [z])) e) (λb o _ _ h e _=>#[o.slots,k b o (λz=>h (by simp [z])) e]) (λ_ _ _ _ n=>n)
  (λb o h e=>#[o,k b o (λz=>h (by simp [z])) e]) (λ_ _ e=>e) (λ_ _ _ e=>e) (λb P e=>#[(ε []),by rw[e];simp]) (λm l=>?_) (λb u e=>?_) I.bare
 .let e:b=it:=by simpa using j
  subst e;exact#[f,a,g,i]
 .let⟨o,E,t,w,r⟩:=l;exact#[o,E,t,k _ o (Ou a) w,r]
 .refine(I.hok b u e).stay (λc v h q=>k c v ?_ q) (λ_ q=>q) λ_ _ q=>q;rcases h with z |z
  .rw[z];exact N b u e
  .exact N c _ z
def au.tok(I:au X pins σ H s)(t:Nat):au X pins σ H { s with toks:=t }:=I.un (h':=s.heap) (t':=t) Un.refl I.hok
theorem au.kept{t':Nat}(I:au X pins σ H s)(k:∀b u,s.heap.get? b=δ u->h'.get? b=δ u):au X pins σ H { s with heap:=h',toks:=t' }:=I.un (Un.kept k) (I.hok.kept k)
theorem au.laid{a:η}{o:HO}{t':Nat}(I:au X pins σ H s)(k:∀b u,s.heap.get? b=δ u->h'.get? b=δ u)(h:s.heap.objs.size<=a)(n:aP X.prog X.w (af H a o) h' a o):
  au X pins σ (af H a o) { s with heap:=h',toks:=t' }:=I.un (Un.laid k h$ I.hok.fresh h) (I.hok.laid k h n)
theorem au.write{x e:η}{o:HO}{t':Nat}(I:au X pins σ H s)(m:Hl (H x))(a:e=x∨H e=δ (.own x))(k:∀b u,b≠e->s.heap.get? b=δ u->h'.get? b=δ u)(h:∃u,h'.get? e=δ u)
  (n:aP X.prog X.w (af H x o) h' x o):au X pins σ (af H x o) { s with heap:=h',toks:=t' }:=I.un (Un.write m a k h) (I.hok.write m a k h n)
def au.pins_of{pins':tz (η×ge)}(I:au X pins σ H s)(h:∀p∈pins',s.heap.get? p.1=δ p.2/\H p.1=θ/\p.1≠X.env.locals/\p.1∉X.fs/\∀v,p.2.data≠ .cell v):au X pins' σ H s:=
 #[I.ok,I.os,I.bare,I.base,I.loc,I.cell,I.free,I.freeC,λp a=>(Ψ.mp a).elim (λz=>I.pin p (Pj _ z)) (h p),I.hok,I.len]
def XY{N:tz ρ}(h:N.Nodup){i j:Nat}{x:ρ}(a:N[i]?=δ x)(b:N[j]?=δ x):i=j:=by let⟨c,e⟩:=ξ.mp a;let⟨d,E⟩:=ξ.mp b;exact(List.getElem_inj h).mp (e.trans E.symm)
noncomputable def QN{v:V}{Q:Unit->ι->Prop}(I:au X pins σ H s)(hN:X.N.Nodup)(L:X.N[i]?=δ x)(l:uP X.env.scope x)(r:aJ v u)
  (h:∀s',au X pins (σ.set i$ δ v) H s'->(∃a,fx a s.heap s'.heap/\(a=X.env.locals∨X.env.cells.lookup x=δ a))->Q () s') (hf:autoParam (X.fn x=μ∨X.env.scope.names.lookup x=δ .local) Wx._auto_1):π M A (storeName X.env x u) Q E s:=by
 let⟨m,hn,hl⟩:=id I.loc;let O:(X.env.scope.kind== .class||(X.env.scope.kind== .module&&X.env.locals != X.env.globals))=ν:=by rw[I.ok.kind];rfl
 let D:i < σ.length:=by rw[I.len];exact(ξ.mp L).1
 let F:=I.cne;let t:∀{a:η} {h':cJ},(∃o,s.heap.get? a=δ o/\H a=θ)->fx a s.heap h'->fV X.prog X.w H h':=λ{a h'} ha f b ob e=>by
  let⟨_,_,B⟩:=ha;refine(I.hok b ob e).stay (λc W hc q=>(f.2 c ?_).trans q) (λ_ q=>q) λ_ _ q=>q;rintro rfl;rcases hc with rfl |hc
  .rw[B]at e;cases e
  .rw[B]at hc;cases hc
 rcases l with hk |hk
 .refine wpAny_storeName_local hk hn (λh' h0 f=>?_) O;let⟨oL,_,_,h1,_⟩:=id hn;refine h _ #[I.ok,I.os,I.bare,#[λb o e n G l=>?_,λb o e n G l=>?_,I.base.free,λb o e l=>?_,I.base.tups,I.base.frzs,I.base.tbls],#[_,h0,λj y v' g C e3=>?_],λy c e=>?_,I.free,I.freeC,λp hp=>?_,t #[oL,h1,I.free] f,by simpa using I.len] #[_,f,.inl Z]
  .exact(f.2 b$ N8$ Oc (NT e) I.ok.above).trans (I.base.keep b o e n G l)
  .let⟨sl,g⟩:=I.base.slot b o e n G l;exact#[sl,(f.2 b$ N8$ Oc (NT e) I.ok.above).trans g]
  .let⟨o',g⟩:=I.base.there b o e l;exact#[o',(f.2 b$ N8$ Oc (NT e) I.ok.above).trans g]
  .by_cases J:j=i
   .subst J;rw[L]at g;cases g;rw[RJ D]at C;cases C;exact#[u,r,.inl #[hk,WN]]
   .rw[PZ$ Ou J]at C;let⟨u',r',q⟩:=hl j y v' g C e3;refine#[u',r',?_];rcases q with ⟨k,e⟩ | ⟨k,c,e,z⟩
    .refine .inl #[k,?_];let:y≠x:=λe=>J (XY hN g$ e▸L);simp [this,e]
    .exact .inr #[k,c,e,z.sameBut f$ F y c e]
  .let⟨W,z⟩:=I.cell y c e;exact#[W,z.sameBut f$ F y c e]
  .let⟨e,n,U,nf,d⟩:=I.pin p hp;exact#[(f.2 p.1 U).trans e,n,U,nf,d]
 .let K:X.fn x=μ:=by
   rcases hf with z |z
   .exact z
   .rw[z]at hk;cases hk
  let⟨c,hc⟩:=I.ok.has x (.inl hk);let⟨W,z⟩:=I.cell x c hc;erw[wpAny_storeName_cell I.ok.kind hk hc z (λh' P f=>?_)];let⟨oc,R,S⟩:=id z;refine h { s with heap:=h' } #[I.ok,I.os,I.bare,#[λb o e n G l=>?_,λb o e n G l=>?_,I.base.free,λb o e l=>?_,I.base.tups,I.base.frzs,I.base.tbls],#[m,hn.sameBut f$ Ou$ F x c hc,λj y v' g C e3=>?_],λy Y e=>?_,I.free,I.freeC,λp hp=>?_,t #[oc,R,I.freeC x c hc] f,by simpa using I.len] #[c,f,.inr hc]
  .exact(f.2 b$ N8$ Oc (NT e)$ I.ok.cab x c K hc).trans (I.base.keep b o e n G l)
  .let⟨sl,g⟩:=I.base.slot b o e n G l;exact#[sl,(f.2 b$ N8$ Oc (NT e)$ I.ok.cab x c K hc).trans g]
  .let⟨o',g⟩:=I.base.there b o e l;exact#[o',(f.2 b$ N8$ Oc (NT e)$ I.ok.cab x c K hc).trans g]
  .by_cases J:j=i
   .subst J;rw[L]at g;cases g;rw[RJ D]at C;cases C;exact#[u,r,.inr #[.inl hk,c,hc,P]]
   .rw[PZ$ Ou J]at C;let⟨u',r',q⟩:=hl j y v' g C e3;refine#[u',r',?_];rcases q with q | ⟨k,Y,e,z'⟩
    .exact .inl q
    .refine .inr #[k,Y,e,z'.sameBut f ?_];rintro rfl;exact J$ XY hN g$ I.ok.inj _ _ _ e hc▸L
  .by_cases T:Y=c
   .subst T;exact#[_,P]
   .let⟨w2,z2⟩:=I.cell y Y e;exact#[w2,z2.sameBut f T]
  .let⟨e,n,U,nf,d⟩:=I.pin p hp;refine#[(f.2 p.1 ?_).trans e,n,U,nf,d];intro q;rw[q,R]at e;let q':oc=p.2:=OG e;exact d W (by rw[<- q'];exact S)
def zP{Q:Unit->ι->Prop}(I:au X pins σ H s)(a:X.N.Nodup)(b:X.N[i]?=δ x)(c:uP X.env.scope x)(r:aJ v u)
  (h:∀S,au X pins (σ.set i$ δ v) H S->Q () S) (d:autoParam (X.fn x=μ∨X.env.scope.names.lookup x=δ .local) Wx._auto_1):π M A (storeName X.env x u) Q E s:=
 QN I a b c r (λS e _=>h S e) d
def au.call'{S:ι}{ch:tz η}(I:au X pins σ H s)(d:S.os=s.os)(u:Un (lO X.stack) ch H H' s.heap S.heap)(h:fV X.prog X.w H' S.heap)(f:AllBare S.gens)
  (a:∀b∈ch,(b∈X.ex∨X.s₀.heap.objs.size<=b)/\b≠X.env.locals/\(∀x c,X.env.cells.lookup x=δ c->c≠b)/\∀p∈X.pn++pins,p.1≠b):au X pins σ H' S:=by
 let⟨h',g',d',t',o⟩:=S;let e:o=s.os:=d;subst e;exact I.call (g':=g') (t':=t') (d':=d') u h f a
end
abbrev XK:=ζ->tT η->Hp->Prop
abbrev St:=tz (tT V)
abbrev VK:=V->Hp->Prop
abbrev TE:=St->Hp->VK->Prop
abbrev TT:=St->Hp->(Bool->Hp->Prop)->Prop
abbrev TA:=St->Hp->(tz V->Hp->Prop)->Prop
structure bh where
 nx:St->Hp->Prop
 rt:VK
 bk:St->Hp->Prop:=λ_ _=>False
 ct:St->Hp->Prop:=λ_ _=>False
abbrev TS:=bh->St->Hp->Prop
inductive EP(X:Cx)(a:tz (η×ge))(d:St)(Q:VK)(u:ζ)(c:ι):Prop
 |mk(v b:_)(_:au X a d b c)(_:aJ v u)(_:Q v b)
inductive TP(X:Cx)(a:tz (η×ge))(e:St)(Q:Bool->Hp->Prop)(b:Bool)(d:ι):Prop
 |mk(c:_)(_:au X a e c d)(_:Q b c)
inductive AP(X:Cx)(a:tz (η×ge))(f:St)(Q:tz V->Hp->Prop)(d:tz ζ)(c:ι):Prop
 |mk(e b:_)(_:au X a f b c)(_:aD e d)(_:Q e b)
def SP(X:Cx)(p:tz (η×ge))(D:bh)(f:Flow)(s:ι):Prop:=
 match f with
 | .next=>∃a H,au X p a H s/\D.nx a H
 | .brk=>∃a H,au X p a H s/\D.bk a H
 | .cont=>∃a H,au X p a H s/\D.ct a H
 | .ret u=>∃v a H,au X p a H s/\aJ v u/\D.rt v H
def PE(X:Cx)(e:dg)(t:TE):Prop:=
 ∀(p:tz (η×ge)) (s:ι) (a:St) (H:Hp) (Q:VK),au X p a H s->t a H Q->π (χ X.prog X.w) X.A (eval e X.env) (EP X p a Q) X.xe s
def PT(X:Cx)(e:dg)(t:TT):Prop:=
 ∀(p:tz (η×ge)) (s:ι) (a:St) (H:Hp) (Q:Bool->Hp->Prop),au X p a H s->t a H Q->π (χ X.prog X.w) X.A (isTrue e X.env$ eval e X.env) (TP X p a Q) X.xe s
def PW(X:Cx)(e:dg)(t:TT):Prop:=
 ∀(W:Sem ζ) (p:tz (η×ge)) (s:ι) (a:St) (H:Hp) (Q:Bool->Hp->Prop),au X p a H s->t a H Q->π (χ X.prog X.w) X.A (isTrue e X.env W) (TP X p a Q) X.xe s
def PW.pt{X:Cx}{e:dg}{t:TT}(h:PW X e t):PT X e t:=h _
def PA(X:Cx)(e:tz dg)(t:TA):Prop:=
 ∀(P:Pos) (p:tz (η×ge)) (s:ι) (a:St) (H:Hp) (Q:tz V->Hp->Prop),au X p a H s->t a H Q->π (χ X.prog X.w) X.A (spliced$ fy P$ Δ e X.env) (AP X p a Q) X.xe s
def PS(X:Cx)(st:cc)(t:TS):Prop:=
 ∀(p:tz (η×ge)) (s:ι) (a:St) (H:Hp) (D:bh),au X p a H s->t D a H->π (χ X.prog X.w) X.A (exec st X.env) (SP X p D) X.xe s
def nF(X:Cx)(st:tz cc)(t:TS):Prop:=
 ∀(p:tz (η×ge)) (s:ι) (a:St) (H:Hp) (D:bh),au X p a H s->t D a H->π (χ X.prog X.w) X.A (execs st X.env) (SP X p D) X.xe s
def aV{b:Type}{t:Sem b}{Q q:b->ι->Prop}{M:Model}{A:bU}{E:ζ->ι->Prop}{s:ι}(h:π M A t Q E s)(H:∀a s,Q a s->q a s):π M A t q E s:=O2 h H λ_ _ x=>x
section
variable {X:Cx}
inductive a9(i:Nat)(a:St)(H:Hp)(Q:VK):Prop
 |mk(v:_)(_:a[i]?=δ (δ v))(_:Q v H)
def tC(v:V):TE:=λ_ H Q=>Q v H
noncomputable def FH(j:X.N[i]?=δ x)(k:LN X.env.scope x)(b:↥((x==("__debug__":ρ))=ν))(d:↥((x==("__classdict__":ρ))=ν)):PE X (.Name x n) (a9 i):=by
 intro p s o H Q I h;let⟨v,e,h⟩:=h;let⟨m,q,t⟩:=I.loc;let⟨u,r,l⟩:=t i x v j e k;let f:EP X p o Q u s:=#[v,H,I,r,h];rcases l with ⟨hk,w⟩ | ⟨hk,c,g,a⟩
 .exact VJ (Vm I.ok.kind hk q w f) b
 .rcases hk with hk |hk
  .exact VJ (Vx I.ok.kind hk g a f) b
  .exact VJ (wpAny_loadName_free I.ok.kind hk g a f d) b
def jf{i j p}:PE X (.Constant (.int i) j p) (tC$ .int i):=λ_ _ _ H _ I h=>wpAny_Constant_int #[.int i,H,I.tok _,#[_,Z],h]
def wT{b j p}:PE X (.Constant (.bool b) j p) (tC$ .bl b):=λ_ _ _ H _ I h=>Constant_bool #[.bl b,H,I,Z,h]
def KG{j p}:PE X (.Constant .none j p) (tC .non):=λ_ _ _ H _ I h=>Constant_none #[.non,H,I,Z,h]
def jm{x j p}:PE X (.Constant (.str x) j p) (tC$ .str x):=λ_ _ _ H _ I h=>Calls.Constant_str #[.str x,H,I.tok _,#[_,Z],h]
def Gl(X:Cx)(x:ρ):Prop:=X.env.kindOf x=δ .globalImplicit
def zZ{Q:ζ->ι->Prop}(I:au X p e H s)(a:Gl X x)(b:X.mg x=δ u)(h:Q u s)
  (c:↥((x==("__debug__":ρ))=ν)):π (χ X.prog X.w) X.A (eval (.Name x d) X.env) Q E s:=
 TY I.ok.kind a (Calls.loadGlobal_global (by rw[I.ok.glob];exact I.mod.glob.keeps I.bk) b h) c
def zJ{Q:ζ->ι->Prop}(I:au X p j H s)(a:Gl X x)(b:X.mg x=θ)(c:bootBuiltins x=δ u)(h:Q u s)
  (d:↥(x≠"__name__")) (e:↥((x==("__debug__":ρ))=ν)):π (χ X.prog X.w) X.A (eval (.Name x f) X.env) Q E s:=by
 let⟨m,g,i⟩:=I.mod.blt;exact TY I.ok.kind a (Calls.loadGlobal_builtin (by rw[I.ok.glob];exact I.mod.glob.keeps I.bk) b (by rw[I.ok.blt];exact g.keeps I.bk) ((i x d).trans c) h) e
def Jf{v:V}(a:Gl X x)(b:X.mg x=δ u)(r:aJ v u)(c:↥((x==("__debug__":ρ))=ν)):PE X (.Name x p) (tC v):=
 λ_ _ _ H _ I h=>zZ I a b #[v,H,I,r,h] c
def ZM{v:V}(a:Gl X x)(b:X.mg x=θ)(c:bootBuiltins x=δ u)(r:aJ v u)(d:↥(x≠"__name__"))(e:↥((x==("__debug__":ρ))=ν)):PE X (.Name x p) (tC v):=
 λ_ _ _ H _ I h=>zJ I a b c #[v,H,I,r,h] d e
variable {a b:dg}{ta tb:TE}{pos:Pos}
def PC(X:Cx)(o:CmpOp)(a b:dg)(t:TE):Prop:=
 ∀(p:tz (η×ge)) (s:ι) (d:St) (H:Hp) (Q:VK),au X p d H s->t d H Q->
  π (χ X.prog X.w) X.A (eval a X.env) (λv S=>π (χ X.prog X.w) X.A (eval b X.env) (λu c=>π (χ X.prog X.w) X.A (compareOp o v u) (EP X p d Q) X.xe c) X.xe S) X.xe s
def MP(ta:TE):TE:=λc H Q=>ta c H λx h=>Q (.bl$ decide$ x= .non) h
def aJ.none_iff(r:aJ x v):(v==γ)=decide (x= .non):=by
 cases x with
 |non |bl _=>cases r;rfl
 |int _ |str _ |byt _ |flt _=>let⟨t,rfl⟩:=r;rfl
 |ref _ |ty _=>cases r;rfl
def Xd{j p}(c:PE X a ta):PC X .Is a (.Constant .none j p) (MP ta):=by intro P s d H Q I h;erw[aV (c P s d H _ I h) λv S z=>?_];let⟨x,e,i,r,q⟩:=z;exact Constant_none$ is_none_gen #[.bl _,e,i,by rw[r.none_iff];rfl,q]
inductive Nl(Q:Bool->Hp->Prop)(x:V)(a:Hp):Prop
 |mk(c:_)(_:x= .bl c)(_:Q c a)
def tB(t:TE):TT:=λc H Q=>t c H (Nl Q)
def KH(h:PC X o a b t)(e:behindInMarks o b=ν:=by first |exact n _ WL WL |rfl):PT X (.Compare a [o] [b] pos) (tB t):=by intro p s f H Q I g;erw[Ve (aV (h p s f H _ I g) λv S e=>aV e λu m i=>aV i λc w z=>?_) e];let⟨x,j,k,r,l⟩:=z;let⟨d,rfl,q⟩:=l;cases r;exact RS #[j,k,q]
noncomputable def YL(h:PE X e t)(c:∀w,isTrue e X.env w=(do let v <- w;standAt e.pos;lu [v] (truthy v)):=by intro _;rfl):PT X e (tB t):=by intro p s f H Q I g;erw[isTrue_plain (aV (h p s f H _ I g) λv S z=>?_)$ c _];let⟨x,i,j,r,k⟩:=z;let⟨d,rfl,q⟩:=k;cases r;exact RS #[i,j,q]
variable {tA tB':TT}{rest:tz dg}
def MK(t u:TT):TT:=λd H Q=>t d H λc h=>if c=μ then u d h Q else Q ν h
def Nz(t u:TT):TT:=λd H Q=>t d H λc h=>if c=μ then Q μ h else u d h Q
def MQ(t:TT):TT:=λd H Q=>t d H λc h=>Q (!c) h
def qM(d:PT X a tA):PW X (.BoolOp .And [a] pos) tA:=by
 intro w p s f H Q I h;erw[isTrue_and$ aV (d p s f H Q I h) λc S e=>?_];cases c with
 |true=>exact isTrue_and_nil e
 |false=>exact e
def KI(d:PT X a tA):PW X (.BoolOp .Or [a] pos) tA:=by
 intro w p s f H Q I h;erw[isTrue_or$ aV (d p s f H Q I h) λc S e=>?_];cases c with
 |false=>exact isTrue_or_nil e
 |true=>exact e
def JH(f:PT X a tA)(g:PW X (.BoolOp .And (b::rest) pos) tB'):PW X (.BoolOp .And (a::b::rest) pos) (MK tA tB'):=by
 intro w p s d H Q I h;erw[isTrue_and$ aV (f p s d H _ I h) λc S z=>?_];let⟨e,i,q⟩:=z;cases c with
 |true=>exact g w p S d e Q i q
 |false=>exact#[e,i,q]
def XQ(f:PT X a tA)(g:PW X (.BoolOp .Or (b::rest) pos) tB'):PW X (.BoolOp .Or (a::b::rest) pos) (Nz tA tB'):=by
 intro w p s d H Q I h;erw[isTrue_or$ aV (f p s d H _ I h) λc S z=>?_];let⟨e,i,q⟩:=z;cases c with
 |true=>exact#[e,i,q]
 |false=>exact g w p S d e Q i q
def xo(e:PT X a tA):PT X (.UnaryOp .Not a pos) (MQ tA):=by intro p s f H Q I h;exact isTrue_not$ aV (e p s f H (λc d=>Q (!c) d) I h) λc S #[d,i,q]=>#[d,i,q]
inductive yB(b:TE)(d:St)(Q:VK)(x:V)(a:Hp):Prop
 |mk(c:_)(_:x= .bl c)(_:if c=μ then b d a Q else Q (.bl ν) a)
def Ln(ta tb:TE):TE:=λc H Q=>ta c H (yB tb c Q)
def FG(h:PE X a t):PE X (.BoolOp o [a] pos) t:=λp s c H Q I d=>BoolOp_one (h p s c H Q I d)
def FD(f:PE X a ta)(g:PE X (.BoolOp .And (b::rest) pos) tb):PE X (.BoolOp .And (a::b::rest) pos) (Ln ta tb):=by
 intro p s d H Q I h;erw[BoolOp_and$ aV (f p s d H _ I h) λv S z=>?_];let⟨x,e,i,r,q⟩:=z;let⟨c,rfl,q⟩:=q;cases r;erw[RS ?_];cases c with
 |true=>exact g p S d e Q i q
 |false=>exact#[.bl ν,e,i,Z,q]
def Ny(t:TT)(ta tb:TE):TE:=λd H Q=>t d H λc h=>if c=μ then ta d h Q else tb d h Q
def kU(g:PT X c tA)(j:PE X a ta)(k:PE X b tb):PE X (.IfExp c a b pos) (Ny tA ta tb):=by
 intro p s e H Q I h;erw[wpAny_IfExp$ aV (g p s e H _ I h) λd S z=>?_];let⟨f,i,q⟩:=z;cases d with
 |true=>exact j p S e f Q i q
 |false=>exact k p S e f Q i q
end
def aH(K:β)(H:Hp)(a:η)(x:tz V):Prop:=
 Rd H a (.lst x)∨
  ∃(o:ge) (i:Array ζ) (n:Nat),K.lookup a=δ o/\o.cls= .type "list"/\o.dict=θ/\o.data= .seq i n/\i.size<=τ/\aD x i.toList
def aC(K:β)(H:Hp)(a:η)(x:tz V):Prop:=
 Rd H a (.tup x)∨
  ∃(o:ge) (i:Array ζ) (n:Nat),K.lookup a=δ o/\o.cls= .type "tuple"/\o.data= .seq i n/\i.size<=τ/\aD x i.toList
noncomputable def Mi:ζ->tT V
 | .none=>δ .non
 | .bool b=>δ (.bl b)
 | .int i _=>δ (.int i)
 | .str x _=>δ (.str x)
 | .bytes b _=>δ (.byt b)
 | .float b _=>δ (.flt b)
 | .ref a=>↑a
 | .type n=>δ (.ty n)
 |_=>θ
def aJ.abs(r:aJ x u):Mi u=δ x:=by
 cases x with
 |non |bl _=>cases r;rfl
 |int _ |str _ |byt _ |flt _=>let⟨t,rfl⟩:=r;rfl
 |ref _ |ty _=>cases r;rfl
def aJ.inj{x:V}(r:aJ x u)(q:aJ y u):x=y:=OG (r.abs.symm.trans q.abs)
theorem aD.inj:∀{x y:tz V} {u:tz ζ},aD x u->aD y u->x=y
 |_,_,_,.nil,.nil=>rfl
 |_,_,_,.cons r t,.cons R T=>by rw[r.inj R,aD.inj t T]
section
variable {X:Cx}{pins:tz (η×ge)}{σ:St}{H:Hp}{s:ι}{a:η}{xs ys:tz V}
def aH.of{K:β}(h:H a=δ (.lst xs)):aH K H a xs:=.inl (.inl h)
def aC.of{K:β}(h:H a=δ (.tup xs)):aC K H a xs:=.inl (.inl h)
def au.list(I:au X pins σ H s)(h:aH X.K H a xs):∃i:tz ζ,aD xs i/\PlainL s.heap a i.toArray/\xs.length<=τ:=by
 rcases h with h | ⟨o,i,n,b,c,d,f,g,r⟩
 .let⟨z,i,n,r,e⟩:=h.ok I.hok;exact#[i,r,#[_,n,e,Z,Z,Z],z]
 .refine#[i.toList,r,#[o,n,I.kIn a o b,c,d,by simpa using f],?_];let e:=r.length;simp only[Om]at e;omega
def au.tuple(I:au X pins σ H s)(h:aC X.K H a xs):∃i:tz ζ,aD xs i/\IsTup s.heap a i.toArray/\xs.length<=τ:=by
 rcases h with h | ⟨o,i,n,b,c,d,f,r⟩
 .let⟨z,i,r,p⟩:=h.ok I.hok;exact#[i,r,p,z]
 .refine#[i.toList,r,#[o,I.kIn a o b,c,n,by simpa using d],?_];let e:=r.length;simp only[Om]at e;omega
def au.list_inj(I:au X pins σ H s)(h:aH X.K H a xs)(c:aH X.K H a ys):xs=ys:=by
 obtain⟨b,r,⟨o,n,e,_,_,d⟩,_⟩:=I.list h;obtain⟨i,R,⟨O,N,E,_,_,D⟩,_⟩:=I.list c;rw[e]at E;cases E;rw[d]at D;injection D with f _;let:b=i:=by simpa using O1 mS f
 subst this;exact r.inj R
def au.tuple_inj(I:au X pins σ H s)(h:aC X.K H a xs)(c:aC X.K H a ys):xs=ys:=by
 obtain⟨b,r,⟨o,e,_,n,d⟩,_⟩:=I.tuple h;obtain⟨i,R,⟨O,E,_,N,D⟩,_⟩:=I.tuple c;rw[e]at E;cases E;rw[d]at D;injection D with f _;let:b=i:=by simpa using O1 mS f
 subst this;exact r.inj R
end
noncomputable abbrev Cx.wish(X:Cx)(E:ζ->ι->Prop):Cx:={ X with xe:=E }
noncomputable abbrev Cx.nox(X:Cx):Cx:=X.wish λ_ _=>False
theorem Cx.Ok.wish{X:Cx}(o:X.Ok)(E:ζ->ι->Prop):(X.wish E).Ok:=
 #[o.mod,o.kind,o.glob,o.blt,o.above,o.inj,o.has,o.cab,o.hd,o.frames,o.stk,o.exf,o.bs,o.bsz,o.noex,o.exfs,o.funs,o.frf]
def Cx.Ok.unwish{X:Cx}(o:(X.wish E).Ok):X.Ok:=
 #[o.mod,o.kind,o.glob,o.blt,o.above,o.inj,o.has,o.cab,o.hd,o.frames,o.stk,o.exf,o.bs,o.bsz,o.noex,o.exfs,o.funs,o.frf]
section
variable {X:Cx}{pins:tz (η×ge)}{σ:St}{H:Hp}{s:ι}{E:ζ->ι->Prop}
theorem au.wish(I:au X pins σ H s)(E:ζ->ι->Prop):au (X.wish E) pins σ H s:=#[I.ok.wish E,I.os,I.bare,I.base,I.loc,I.cell,I.free,I.freeC,I.pin,I.hok,I.len]
theorem au.unwish(I:au (X.wish E) pins σ H s):au X pins σ H s:=#[I.ok.unwish,I.os,I.bare,I.base,I.loc,I.cell,I.free,I.freeC,I.pin,I.hok,I.len]
theorem SP.unwish(h:SP (X.wish E) pins D f c):SP X pins D f c:=by
 cases f with
 |next |brk |cont=>let⟨a,b,I,q⟩:=h;exact#[a,b,I.unwish,q]
 |ret u=>let⟨v,a,b,I,r,q⟩:=h;exact#[v,a,b,I.unwish,r,q]
theorem nF.nox{st:tz cc}(h:nF X.nox st t):nF X st t:=λpins s σ H D I a=>
 O2 (h pins s σ H D (I.wish _) a) (λ_ _ q=>q.unwish) λ_ _ z=>False.elim z
end
section
variable {X:Cx}{st:cc}{rest:tz cc}{t u:TS}{e:dg}{te:TE}{pos:Pos}
def yI:TS:=λD a H=>D.nx a H
def dH(t u:TS):TS:=λD a H=>t { D with nx:=u D } a H
def jp:nF X [] yI:=λ_ _ a H _ I h=>RI #[a,H,I,h]
def jd(b:PS X st t)(c:nF X rest u):nF X (st::rest) (dH t u):=by
 intro p s d H D I h;refine T8$ aV (b p s d H { D with nx:=u D } I h) λf S q=>?_;cases f with
 |next=>let⟨a,g,i,q⟩:=q;exact c p S a g D i q
 |ret v |brk |cont=>exact q
def jg(a:PS X st t):nF X [st] t:=by
 intro p s b H D I h;erw[T8$ aV (a p s b H D I h) λf S q=>?_];cases f with
 |next=>exact RI q
 |ret v |brk |cont=>exact q
def au.quiet(I:au X p a H s):interactive X.env=ν:=by simp [interactive,I.ok.kind]
def sd(te:TE):TS:=λD a H=>te a H λ_ h=>D.nx a h
def jH(b:PE X e te)(c:↥(swapsWith e θ pos.line X.env=pure ν)):PS X (.Expr e pos) (sd te):=by intro p s a H D I h;exact wpAny_Expr_any (aV (b p s a H _ I h) λv S #[x,d,i,r,q]=>#[a,d,i,q]) I.quiet c
def gY(te:TE):TS:=λD a H=>te a H D.rt
def jo(b:PE X e te):PS X (.Return (δ e) pos) (gY te):=by intro p s a H D I h;exact wpAny_Return_some$ aV (b p s a H _ I h) λv S #[x,c,i,r,q]=>#[x,a,c,i,r,q]
def gX(c:TT)(t u:TS):TS:=λD a H=>c a H λb h=>if b=μ then t D a h else u D a h
def jz{c:dg}{a b:tz cc}{T:TT}(j:PT X c T)(k:nF X a t)(l:nF X b u):PS X (.If c a b pos) (gX T t u):=by
 intro p s f H D I h;erw[wpAny_If$ aV (j p s f H _ I h) λd S z=>?_];let⟨g,i,q⟩:=z;cases d with
 |true=>exact k p S f g D i q
 |false=>exact l p S f g D i q
end
abbrev TG:=V->St->Hp->(St->Hp->Prop)->Prop
abbrev An:=tz V->St->Hp->(St->Hp->Prop)->Prop
def PG(X:Cx)(T:dg)(t:TG):Prop:=
 ∀(p:tz (η×ge)) (s:ι) (b:St) (H:Hp) (v:V) (u:ζ) (Q:St->Hp->Prop),au X p b H s->aJ v u->t v b H Q->
  π (χ X.prog X.w) X.A (assign T X.env u) (λ_ S=>∃a h,au X p a h S/\Q a h) X.xe s
def GX(X:Cx)(T:tz dg)(t:An):Prop:=
 ∀(p:tz (η×ge)) (s:ι) (b:St) (H:Hp) (v:tz V) (u:tz ζ) (Q:St->Hp->Prop),au X p b H s->aD v u->t v b H Q->
  π (χ X.prog X.w) X.A (assignInOrder ((assignEach T X.env).map (·.2)) u) (λ_ S=>∃a h,au X p a h S/\Q a h) X.xe s
abbrev DL:=V->V->V->Hp->(Hp->Prop)->Prop
def Ho(X:Cx)(t:DL):Prop:=
 ∀(p:tz (η×ge)) (s:ι) (a:St) (H:Hp) (o i v:V) (O I u:ζ) (Q:Hp->Prop),au X p a H s->aJ o O->aJ i I->aJ v u->t o i v H Q->
  π (χ X.prog X.w) X.A (setItem O I u) (λ_ S=>∃h,au X p a h S/\Q h) X.xe s
abbrev Md:=V->V->Hp->VK->Prop
def M9(X:Cx)(o:Operator)(t:Md):Prop:=
 ∀(p:tz (η×ge)) (s:ι) (a:St) (H:Hp) (x y:V) (v u:ζ) (Q:VK),au X p a H s->aJ x v->aJ y u->t x y H Q->
  π (χ X.prog X.w) X.A (inplaceOp o v u) (EP X p a Q) X.xe s
section
variable {X:Cx}{pos:Pos}
def bp(i:Nat):TG:=λv a H Q=>Q (a.set i$ δ v) H
def jw{i:Nat}{x:ρ}(a:X.N.Nodup)(b:X.N[i]?=δ x)(c:uP X.env.scope x)(d:autoParam (X.fn x=μ∨X.env.scope.names.lookup x=δ .local) Wx._auto_1):PG X (.Name x pos) (bp i):=by intro p s f H v u Q I r h;exact VQ$ zP I a b c r (λS e=>#[_,H,e,h]) d
def vK:An:=λv a H Q=>v=[]/\Q a H
inductive dP(t:TG)(u:An)(a:tz V)(b:St)(H:Hp)(Q:St->Hp->Prop):Prop
 |mk(v r:_)(_:a=v::r)(_:t v b H λσ' H'=>u r σ' H' Q)
def kj:GX X [] vK:=by intro p s a H v u Q I r h;let⟨e,h⟩:=h;subst e;cases r;exact assignInOrder_nil #[a,H,I,h]
def jB(b:PG X e t)(c:GX X E u)
  (d:↥((assignEach (e::E) X.env).map (·.2)=assign e X.env::(assignEach E X.env).map (·.2))):GX X (e::E) (dP t u):=by
 intro p s f H V U Q I r h;let⟨v,k,g,h⟩:=h;subst g;cases r with
 |cons r R=>rw[d];erw[assignInOrder_cons$ aV (b p s f H _ _ _ I r h) λ_ S z=>?_];let⟨a,i,j,q⟩:=z;exact c p S a i _ _ Q j R q
inductive sV(K:β)(n:Nat)(t:An)(v:V)(c:St)(H:Hp)(Q:St->Hp->Prop):Prop
 |mk(a b:_)(_:v= .ref a)(_:aC K H a b)(_:b.length=n)(_:t b c H Q)
def zz{n:Nat}(g:X.calm=μ)(h:GX X E t)
  (i:↥((assignEach E X.env).length=n)) (c:↥((assignEach E X.env).findIdx? (·.1)=θ)):PG X (.Tuple E k pos) (sV X.K n t):=by
 intro p s f H v u Q I r d;let⟨a,x,j,l,m,d⟩:=d;subst j;cases r;let⟨q,R,w,B⟩:=I.tuple l;refine assign_Tuple_tuple (I.ok.hd g) w (by simp [i,<- m,R.length]) c λy z=>?_;let A:au X p f H { s with heap:=y }:=I.kept (t':=s.toks) λb o e=>z b o (N8$ NT e) e;exact h p _ f H x _ Q A (by simpa using R) d
def Ed(T b:TE)(t:DL):TG:=λv a H Q=>T a H λo h=>b a h λi c=>t o i v c λd=>Q a d
def qY{o i:dg}{T c:TE}{t:DL}(d:PE X o T)(e:PE X i c)(f:Ho X t)
  (g:∀v,assign (.Subscript o i pos) X.env v=(do
   let O <- lu [v] (eval o X.env)
   let a <- lu [v,O] (eval i X.env)
   standAt pos
   lu [v,O,a] (setItem O a v)
   release [v,O,a] []):=by intro _;rfl):PG X (.Subscript o i pos) (Ed T c t):=by
 intro p s b H v u Q I r h;rw[g];erw[NJ$ Oi$ aV (d p s b H _ I h) λO S z=>?_];let⟨x,j,k,R,q⟩:=z;erw[NJ$ Oi$ aV (e p S b j _ k q) λa l z=>?_];let⟨y,m,n,w,A⟩:=z;erw[NJ$ Rk$ NJ$ Oi$ aV (f p l b m x y v O a u _ n R w r A) λ_ E z=>?_];let⟨B,C,D⟩:=z;exact wpAny_release #[b,B,C,D]
def dJ(t:TE)(g:TG):TS:=λD a H=>t a H λx h=>g x a h D.nx
def zA{t e:dg}{T:TE}{g:TG}(b:PE X e T)(c:PG X t g)(d:↥(swapsWithSole [t] e pos.line X.env=pure ν))(f:↥(swappedStores [t] e X.env=pure θ))
  (i:↥((assignEach [t] X.env).map (·.2)=[assign t X.env])):PS X (.Assign [t] e pos) (dJ T g):=by
 intro p s a H D I h;erw[wpAny_Assign_stores (aV (b p s a H _ I h) λv S z=>?_) d f];let⟨x,j,k,r,Q⟩:=z;rw[i];exact aV (c p S a j x v _ k r Q) λ_ l q=>q
def zc{i:Nat}{x:ρ}{e:dg}{t:TE}{p:Pos}(a:X.N.Nodup)(b:X.N[i]?=δ x)(c:uP X.env.scope x)(d:PE X e t)(f:↥(swapsWith e (δ$ .Name x p) pos.line X.env=pure ν))(g:autoParam (X.fn x=μ∨X.env.scope.names.lookup x=δ .local) Wx._auto_1):
  PS X (.Assign [.Name x p] e pos) (dJ t$ bp i):=by
 intro P s j H D I h;erw[VR (aV (d P s j H _ I h) λv S z=>?_) f];let⟨y,k,l,r,q⟩:=z;exact zP l a b c r (λn m=>#[_,k,m,q]) g
inductive Lo(i:Nat)(a:TE)(b:Md)(D:bh)(c:St)(H:Hp):Prop
 |mk(x:_)(_:c[i]?=δ (δ x))(_:a c H λy H1=>b x y H1 λz H2=>D.nx (c.set i (δ z)) H2)
def FJ{i:Nat}(q:X.N.Nodup)(g:X.N[i]?=δ x)(f:uP X.env.scope x)(t:PE X e T)(B:M9 X o C)(E:autoParam (X.fn x=μ∨X.env.scope.names.lookup x=δ .local) Wx._auto_1):
  PS X (.AugAssign (.Name x j) o e pos) (Lo i T C):=by
 intro p s n H D I h;let⟨v,F,h⟩:=h;let⟨m,J,K⟩:=I.loc;let V:LN X.env.scope x:=by rcases f with k |k;exact .inl k;exact .inr$ .inl k
 let⟨u,r,l⟩:=K i x v g F V;erw[wpAny_AugAssign_Name ?_];let G:π (χ X.prog X.w) X.A (eval e X.env) (λw S=>π (χ X.prog X.w) X.A (inplaceOp o u w) (λr d=>π (χ X.prog X.w) X.A (storeName X.env x r) (λ_=>SP X p D .next) X.xe d) X.xe S) X.xe s:=by erw[aV (t p s n H _ I h) λw L a=>?_];let⟨y,M,O,R,Q⟩:=a;erw[aV (B p L n M v y u w _ O r R Q) λz s2 a=>?_];let⟨zv,P,U,W,Y⟩:=a;exact zP U q g f W (λs3 I3=>#[_,P,I3,Y]) E
 rcases l with ⟨hk,hm⟩ | ⟨hk,c,hc,b⟩
 .exact Vm I.ok.kind hk J hm G
 .rcases hk with hk |hk
  .exact Vx I.ok.kind hk hc b G
  .rcases f with k |k
   .let:X.env.scope.names.lookup x=δ .free:=hk;rw[k]at this;cases this
   .let:X.env.scope.names.lookup x=δ .free:=hk;rw[k]at this;cases this
inductive Nf(f:Int->Int->Int)(x y:V)(H:Hp)(Q:VK):Prop
 |mk(i j:_)(_:x= .int i)(_:y= .int j)(_:Q (.int (f i j)) H)
def Ei:M9 X .Add (Nf λi j=>i+j):=by intro p s a H x y v u Q I r R h;let⟨i,j,e,E,q⟩:=h;subst e;subst E;let⟨t,rfl⟩:=r;let⟨T,rfl⟩:=R;exact iadd_int #[.int _,H,I.tok _,#[_,Z],q]
def yL(c:TT)(t:TS):TS:=λD a H=>∃W:Nat->St->Hp->Prop,(∃m,W m a H)/\∀m a H,W m a H->
 c a H λb h=>if b=μ then ∃N:St->Hp->Prop,(∀d e,N d e->∃M,M < m/\W M d e)/\t { D with nx:=N,ct:=N,bk:=D.nx } a h else D.nx a h
def XZ(o:PassesOwn (χ X.prog X.w) X.A X.env X.xe)(E:PT X c T)(F:nF X B G):PS X (.While c B [] pos) (yL T G):=by
 intro p s J H D I h;obtain⟨W,⟨M,K⟩,t⟩:=h;erw[wpAny_While$ codeAny_whileLoop (λn S=>∃e r,au X p e r S/\W n e r) ?_ M #[J,H,I,K]];rintro n L ⟨d,u,O,P⟩;erw[Rj o$ aV (E p L d u _ O$ t n d u P) λb R z=>?_];let⟨x,y,q⟩:=z;cases b with
 |true=>
  let⟨N,C,q⟩:=q;rw[N0 Z];erw[Rj o$ aV (F p R d x _ y q) λf U Q=>?_];cases f with
  |next |cont=>let⟨a,g,i,j⟩:=Q;let⟨m,k,l⟩:=C a g j;exact#[m,k,a,g,i,l]
  |brk |ret v=>exact Q
 |false=>rw[N7 N5];exact RI #[d,x,y,q]
end
structure It where
 go:Nat->Hp->Prop
 yld:Nat->Hp->V->Hp->Prop
 stop:Nat->Hp->Prop
def gw(X:Cx)(P:tz (η×ge))(H:Hp)(b:η):Prop:=
 H b=θ/\b≠X.env.locals/\b∉X.fs/\(b∈X.ex∨X.s₀.heap.objs.size<=b)/\(∀x c,X.env.cells.lookup x=δ c->c≠b)/\∀p∈X.pn++P,p.1≠b
def au.fpOk{X:Cx}{d:Hp}(I:au X a i H s)(h:s.heap.objs.size<=b)(f:d b=θ):gw X a d b:=by
 refine#[f,OS$ Oc I.lt h,I.nofs h,.inr$ N6 I.sz h,λx c e z=>?_,λp g z=>?_]
 .let⟨v,q⟩:=I.cell x c e;exact absurd (Oc q.lt (by rwa[z]))$ OV _
 .exact absurd (Oc (NT (I.pin p g).1) (by rwa[z]))$ OV _
structure oJ(P:ψ)(w:bF)(K:β)(tg:dg)(J:It)(fp:tz η)(it:η)(tn:Nat->cJ->Prop):Prop where
 mem:it∈fp
 obj:∀i h,tn i h->∀b∈fp,∃o,h.get? b=δ o/\∀v,o.data≠ .cell v
 keep:∀i h h',tn i h->(∀b∈fp,∀o,h.get? b=δ o->h'.get? b=δ o)->tn i h'
 item:∀(X:Cx),X.prog=P->X.w=w->X.K=K->X.calm=μ->∀(i:Nat) (pins:tz (η×ge)) (s:ι) (σ:St) (H:Hp) (E:ζ->ι->Prop),au X pins σ H s->(∀b∈fp,gw X pins H b)->tn i s.heap->J.go i H->
  π (χ P w) X.A (pyNext$ .ref it) (λr s1=>∃u,r=δ u/\
   π (χ P w) X.A (letOwnedTupleGo tg (.ref it) u) (λ_ s2=>∃x H',au X pins σ H' s2/\aJ x u/\J.yld i H x H'/\tn (i+1) s2.heap/\∀b∈fp,H' b=θ) E s1) E s
 done:∀(X:Cx),X.prog=P->X.w=w->X.K=K->X.calm=μ->∀(i:Nat) (pins:tz (η×ge)) (s:ι) (σ:St) (H:Hp) (E:ζ->ι->Prop),au X pins σ H s->(∀b∈fp,gw X pins H b)->tn i s.heap->J.stop i H->
  π (χ P w) X.A (pyNext$ .ref it) (λr s1=>r=θ/\au X pins σ H s1) E s
 self:∀(A:bU) (i:Nat) (s:ι) (Q:ζ->ι->Prop) (E:ζ->ι->Prop),tn i s.heap->Q (.ref it) s->π (χ P w) A (pyIter$ .ref it) Q E s
abbrev TI:=St->Hp->(It->Hp->Prop)->Prop
def M8(X:Cx)(p:tz (η×ge))(a:St)(T:dg)(R:It->Hp->Prop)(i:ζ)(s:ι):Prop:=
 ∃(I:η) (f:tz η) (t:Nat->cJ->Prop) (J:It) (H:Hp),i= .ref I/\au X p a H s/\oJ X.prog X.w X.K T J f I t/\t 0 s.heap/\(∀b∈f,gw X p H b)/\R J H
def PI(X:Cx)(t iter:dg)(W:TI):Prop:=
 ∀(p:tz (η×ge)) (s:ι) (a:St) (H:Hp) (R:It->Hp->Prop),au X p a H s->W a H R->
  π (χ X.prog X.w) X.A (eval iter X.env) (λv S=>π (χ X.prog X.w) X.A (pyIter v) (M8 X p a t R) X.xe S) X.xe s
def ZD{s : ι}{n : String}{Q : Unit -> ι -> Prop}(a : s.heap.get? i = δ o)(b : o.cls = .type n)(c : o.data = .fields v)
    (d : ["enumerate", "zip", "dict_itemiterator", "dict_reverseitemiterator", "odict_iterator", "itertools.zip_longest", "itertools.pairwise"].contains n = ν) (H : Q () s) : π M A (letOwnedTupleGo t (.ref i) u) Q E s := by
  unfold letOwnedTupleGo;cases t <;> first
    | exact NN H
    | (cases u <;> first
        | exact NN H
        | (refine NJ (VI a ?_)
           rw [b, c];show π M A (if (["enumerate", "zip", "dict_itemiterator", "dict_reverseitemiterator", "odict_iterator", "itertools.zip_longest", "itertools.pairwise"].contains n && v[0]? == δ (rawInt _)) = μ then _ else _) Q E s;rw [N7 (by intro h; rw [d, VH] at h; cases h)];exact NN H))
noncomputable def y9(K:β)(a:η):It:=
 #[λi H=>∃X x,aH K H a X/\X[i]?=δ x,λi H x h=>h=H/\∀X,aH K H a X->X[i]?=δ x,λi H=>∃X,aH K H a X/\X.length<=i]
noncomputable def Aa(K:β)(a:η):It:=
 #[λi H=>∃X x,aC K H a X/\X[i]?=δ x,λi H x h=>h=H/\∀X,aC K H a X->X[i]?=δ x,λi H=>∃X,aC K H a X/\X.length<=i]
noncomputable def uO(lo:Int)(n:Nat):It:=#[λi _=>i < n,λi H x h=>h=H/\x= .int (lo+i),λi _=>n<=i]
def uG{P:ψ}{K:β}(a g:η):oJ P w K tg (y9 K a) [g] g (λi h=>h.IsListIter g a i) where
 mem:=by simp
 obj:=λi h st b j=>by
  let e:b=g:=by simpa using j
  subst e;let⟨o,e,c,d⟩:=st;exact#[o,e,λv z=>by rw[d]at z;cases z]
 keep:=λi h l st k=>st.at λo e=>k g WN o e
 item:=by intro X q r t L i f s M H E I m st y;subst q r t;let⟨N,x,n,A⟩:=y;let⟨B,R,p,O⟩:=I.list n;let⟨u,Q,T⟩:=R.get A;let⟨F,C,U,D,G,J⟩:=m g WN;refine UZ st p.isList (x:=u) (by simpa using Q) λl S V=>?_;let W:au X f M H { s with heap:=l }:=I.turned (t':=s.toks) (λb o j e=>(V.2 b j).trans e) F C D G J;let⟨o,e,c,d⟩:=id S;exact#[u,Z,ZD (s:={ s with heap:=l }) e c d WL #[x,H,W,T,#[Z,λys Y=>by rw[I.list_inj Y n];exact A],S,λb j=>(m b j).1]]
 done:=by intro X q r t L i f s M H E I m st y;subst q r t;let⟨N,n,A⟩:=y;let⟨B,R,p,O⟩:=I.list n;let⟨F,C,U,D,G,J⟩:=m g WN;let hl:=R.length;exact Vd (I.ok.hd L) st p.isList (by simp;omega) λl eb=>#[Z,I.turned (t':=s.toks) (λb o j e=>eb b o j e) F C D G J]
 self:=λ_ _ _ _ _ st h=>wpAny_pyIter_listiter st h
def YZ{P:ψ}{K:β}(a g:η):oJ P w K tg (Aa K a) [g] g (λi h=>h.IsTupleIter g a i) where
 mem:=by simp
 obj:=λi h st b j=>by
  let e:b=g:=by simpa using j
  subst e;let⟨o,e,c,d⟩:=st;exact#[o,e,λv z=>by rw[d]at z;cases z]
 keep:=λi h m st k=>st.at λo e=>k g WN o e
 item:=by intro X r t y L i f s M H E I n st A;subst r t y;let⟨N,x,q,B⟩:=A;let⟨l,R,p,O⟩:=I.tuple q;let⟨u,Q,T⟩:=R.get B;let⟨F,C,U,D,G,J⟩:=n g WN;refine wpAny_pyNext_tuple_item st (show s.heap.IsTuple a l.toArray from p) (x:=u) (by simpa using Q) λm S V=>?_;let W:au X f M H { s with heap:=m }:=I.turned (t':=s.toks) (λb o j e=>(V.2 b j).trans e) F C D G J;let⟨o,e,c,d⟩:=id S;exact#[u,Z,ZD (s:={ s with heap:=m }) e c d WL #[x,H,W,T,#[Z,λys Y=>by rw[I.tuple_inj Y q];exact B],S,λb j=>(n b j).1]]
 done:=by intro X r t y L i f s M H E I n st A;subst r t y;let⟨N,q,B⟩:=A;let⟨l,R,p,O⟩:=I.tuple q;let⟨F,C,U,D,G,J⟩:=n g WN;let hl:=R.length;exact wpAny_pyNext_tuple_end (I.ok.hd L) st (show s.heap.IsTuple a l.toArray from p) (by simp;omega) λm eb=>#[Z,I.turned (t':=s.toks) (λb o j e=>eb b o j e) F C D G J]
 self:=λ_ _ _ _ _ st h=>wpAny_pyIter_tupleiter st h
def Y0{P:ψ}{K:β}(a:η)(lo:Int)(n:Nat):oJ P w K M (uO lo n) [a] a (λi h=>IsRangeIter h a (lo+(i:Nat)*1) ((n:Int) - (i:Nat)) 1) where
 mem:=by simp
 obj:=λi h st b c=>by
  let e:b=a:=by simpa using c
  subst e;exact#[_,st,λv z=>by
   let B:Data.fields _=Data.cell v:=z;cases B]
 keep:=λi h d st k=>k a WN _ st
 item:=by intro X g j l m i p s A H E I f st q;subst g j l;let⟨F,r,C,u,x,y⟩:=f a WN;let W:=Walks.range (prog:=X.prog) (w:=X.w) (I.ok.hd m) a lo 1 n;erw[W.item i s _ _ q st λv d T D S G=>?_];let⟨t,rfl⟩:=D;let J:au X p A H { s with heap:=d,toks:=T }:=I.turned (λb o c e=>G b o (by simpa using c) e) F r u x y;refine#[_,Z,ZD (s:={ s with heap:=d,toks:=T }) (n:="range_iterator") S Z Z WL #[.int$ lo+i,H,J,#[t,?_],#[Z,Z],S,λb c=>(f b c).1]];rw[Int.mul_one]
 done:=by intro X g j l m i p s A H E I f st q;subst g j l;let⟨F,r,C,u,x,y⟩:=f a WN;exact wpAny_pyNext_range_end (I.ok.hd m) st (by let:n<=i:=q;omega) λd L=>#[Z,I.turned (t':=s.toks) (λb o c e=>L b o c e) F r u x y]
 self:=λ_ _ _ _ _ st h=>wpAny_pyIter_rangeiter st h
section
variable {X:Cx}{tg:dg}
inductive vP(K:β)(R:It->Hp->Prop)(x:V)(b:Hp):Prop
 |mk(a:_)(_:x= .ref a)(_:∃xs,aH K b a xs)(_:R (y9 K a) b)
def Dc(K:β)(t:TE):TI:=λa H R=>t a H (vP K R)
inductive Dg(K:β)(R:It->Hp->Prop)(x:V)(b:Hp):Prop
 |mk(a:_)(_:x= .ref a)(_:∃xs,aC K b a xs)(_:R (Aa K a) b)
def Ms(K:β)(t:TE):TI:=λa H R=>t a H (Dg K R)
def zj(c:PE X l t):PI X tg l (Dc X.K t):=by
 intro P s d H R I h;erw[aV (c P s d H _ I h) λv S z=>?_];let⟨x,f,i,r,Q⟩:=z;obtain⟨a,e,⟨m,g⟩,q⟩:=Q;subst e;cases r;let⟨j,n,p,u⟩:=i.list g;erw[SJ p.isList ?_];refine#[S.heap.objs.size,[S.heap.objs.size],_,_,f,Z,i.kept (t':=S.toks) λb o e=>NM _ e,uG a _,#[_,NV _ Z,Z,Z],λb k=>?_,q];let e:b=S.heap.objs.size:=by simpa using k
 subst e;exact i.fpOk (NQ _)$ i.hok.fresh$ NQ _
def qo(d:PE X l t):PI X tg l (Ms X.K t):=by
 intro P s f H R I h;erw[aV (d P s f H _ I h) λv S z=>?_];let⟨x,g,i,r,Q⟩:=z;obtain⟨a,e,⟨m,j⟩,q⟩:=Q;subst e;cases r;let⟨c,n,p,u⟩:=i.tuple j;refine RL (show S.heap.IsTuple a c.toArray from p) ?_;refine#[S.heap.objs.size,[S.heap.objs.size],_,_,g,Z,i.kept (t':=S.toks) λb o e=>NM _ e,YZ a _,#[_,NV _ Z,Z,Z],λb k=>?_,q];let e:b=S.heap.objs.size:=by simpa using k
 subst e;exact i.fpOk (NQ _)$ i.hok.fresh$ NQ _
def X0{R:It->Hp->Prop}{lo:Int}(I:au X p a H s)(c: -(2 ^ 62)<=lo)(d:lo < 2 ^ 62)(f: -(2 ^ 62)<=h)(g:h < 2 ^ 62)
  (q:R (uO lo (h - lo).toNat) H):π (χ X.prog X.w) X.A (pyIter$ .ref s.heap.objs.size) (M8 X p a tg R) E { s with heap:=s.heap.push { cls:=.type "range",data:=.fields (ε [.int lo t,.int h u,.int 1 v]) },toks:=T }:=by
 erw[wpAny_pyIter_range (IsRange.new ..) (small_one c d f g) ?_];let i:au X p a H { s with heap:=s.heap.push { cls:=.type "range",data:=.fields (ε [.int lo t,.int h u,.int 1 v]) },toks:=T }:=I.kept λb o e=>NM _ e;refine#[(s.heap.push { cls:=.type "range",data:=.fields (ε [.int lo t,.int h u,.int 1 v]) }).objs.size,[(s.heap.push { cls:=.type "range",data:=.fields (ε [.int lo t,.int h u,.int 1 v]) }).objs.size],_,_,H,Z,
  i.kept (t':=T) λb o e=>NM _ e,Y0 _ lo (h - lo).toNat,?_,λb j=>?_,q]
 .let k:lo+((0:Nat):Int)*1=lo:=by simp
  let l:(((h - lo).toNat:Nat):Int) - ((0:Nat):Int)=Builtin.Range.rangeSize lo h 1:=by rw[rangeSize_one];split<;>omega
  show IsRangeIter _ _ (lo+((0:Nat):Int)*1) ((((h - lo).toNat:Nat):Int) - ((0:Nat):Int)) 1;rw[k,l];exact NV _ Z
 .let e:b=(s.heap.push { cls:=.type "range",data:=.fields (ε [.int lo t,.int h u,.int 1 v]) }).objs.size:=by simpa using j
  subst e;exact i.fpOk (NQ _)$ i.hok.fresh$ NQ _
inductive vQ(R:It->Hp->Prop)(b:tz V)(a:Hp):Prop
 |mk(j:Int)(_:b=[.int j])(_:-(2 ^ 62)<=j)(_:j < 2 ^ 62)(_:R (uO 0 j.toNat) a)
def Ik(t:TA):TI:=λa H R=>t a H (vQ R)
inductive vS(R:It->Hp->Prop)(b:tz V)(a:Hp):Prop
 |mk(i j:Int)(_:b=[.int i,.int j])(_:-(2 ^ 62)<=i/\i < 2 ^ 62/\ -(2 ^ 62)<=j/\j < 2 ^ 62)(_:R (uO i (j - i).toNat) a)
def Il(t:TA):TI:=λa H R=>t a H (vS R)
def zf{a:dg}{T:TA}{p P:Pos}(c:Gl X "range")(d:X.mg "range"=θ)(f:PA X [a] T)(g:↥(Δ [a] X.env=[(ν,eval a X.env)])):PI X tg (.Call (.Name "range" p) [a] [] P) (Ik T):=by
 intro b s i H R I h;erw[Call_$ zJ I c d boot_range$ OF (aV (f P b s i H _ I h) λu S z=>?_) g Z];let⟨v,o,k,l,Q⟩:=z;let⟨j,e,Q,m,q⟩:=Q;subst e;cases l with
 |cons r n=>cases n;let⟨t,rfl⟩:=r;exact call_range_1$ X0 k WM WM Q m (by simpa using q)
def ql(g:Gl X "range")(k:X.mg "range"=θ)(l:PA X [a,b] T)(m:↥(Δ [a,b] X.env=[(ν,eval a X.env),(ν,eval b X.env)]))(c:↥(Δ [b] X.env=[(ν,eval b X.env)])):
  PI X tg (.Call (.Name "range" p) [a,b] [] d) (Il T):=by
 intro P s n H R I h;refine Call_$ zJ I g k boot_range$ OF (aV (l d P s n H _ I h) λU S #[V,z,o,u,Q]=>?_) (by rw[m,c]) (by rw[c];rfl);obtain⟨i,j,e,⟨Q,v,w,x⟩,q⟩:=Q;subst e;cases u with
 |cons r f=>
  cases f with
  |cons y f=>cases f;let⟨t,rfl⟩:=r;let⟨A,rfl⟩:=y;exact call_range_2$ X0 o Q v w x q
def Cq(w:TI)(g:TG)(t:TS):TS:=λD a H=>w a H λJ d=>∃W:Nat->Nat->St->Hp->Prop,(∃m,W 0 m a d)/\∀i m a H,W i m a H->
 (J.stop i H/\D.nx a H)∨(J.go i H/\∃N:St->Hp->Prop,(∀b h,N b h->∃M,M < m/\W (i+1) M b h)/\∀x h,J.yld i H x h->g x a h λc e=>t { D with nx:=N,ct:=N,bk:=D.nx } c e)
noncomputable def mn(f:tz η)(h:cJ):tz (η×ge):=f.filterMap λb=>(h.get? b).map λo=>(b,o)
def zo{h:cJ}(H:b∈f)(e:h.get? b=δ o):(b,o)∈mn f h:=List.mem_filterMap.mpr #[b,H,by rw[e];rfl]
def tO(H:p∈mn f h):p.1∈f/\h.get? p.1=δ p.2:=by
 let⟨b,a,e⟩:=List.mem_filterMap.mp H;cases q:h.get? b with
 |none=>rw[q]at e;cases e
 |some o=>rw[q]at e;let E:(b,o)=p:=OG e;subst E;exact#[a,q]
def au.pinned(I:au X a c H s)(g:∀b∈f,gw X a H b)(i:∀b∈f,∃o,s.heap.get? b=δ o/\∀v,o.data≠ .cell v):au X (a++mn f s.heap) c H s:=
 I.pins_of λp j=>(Ψ.mp j).elim (λz=>I.pin p (Oj _ z)) λz=>by let⟨h,e⟩:=tO z;let⟨F,k,l,_⟩:=g p.1 h;let⟨o,E,d⟩:=i p.1 h;rw[e]at E;cases E;exact#[e,F,k,l,d]
def au.unpinned(I:au X (a++c) b H s):au X a b H s:=I.pins_of λp h=>I.pin p (Oj _$ Pj _ h)
def j6{iter:dg}{B:tz cc}{wi:TI}{g:TG}{tb:TS}{P:Pos}(C:PassesOwn (χ X.prog X.w) X.A X.env X.xe)(hc:X.calm=μ)(hi:PI X tg iter wi)(hg:PG X tg g)(c:nF X B tb)
  (hs:∀x,foldedSetIterable iter X.env x=pure x:=by intro _;rfl):PS X (.For tg iter B [] P) (Cq wi g tb):=by
 intro p s σ H D I h;erw[wpAny_For (aV (hi p s σ H _ I h) λv s1 h1=>aV h1 λi0 s2 h2=>?_) hs];obtain⟨it,F,tn,J,H2,e,I2,T,O,f2,W,⟨m0,w0⟩,E⟩:=h2;subst e;let S:∀{t:Hp},(∀b∈F,t b=θ)->∀b∈F,gw X p t b:=λhn b c=>#[hn b c,(f2 b c).2];erw[codeAny_forLoop_any (λn s'=>∃i j t,au X p j t s'/\tn i s'.heap/\(∀b∈F,t b=θ)/\W i n j t) ?_ m0 #[0,σ,H2,I2,O,λb c=>(f2 b c).1,w0]];rintro n s3 ⟨i,k,M,I3,G,K,w3⟩;rcases E i n k M w3 with ⟨stop,qn⟩ | ⟨go,N,hN,step⟩
 .refine Rj C$ aV (T.done X Z Z Z hc i p s3 k M X.xe I3 (S K) G stop) λr s4 z=>?_;let⟨R,I4⟩:=z;subst R;exact RI #[k,M,I4,qn]
 .refine Rj C$ aV (T.item X Z Z Z hc i p s3 k M X.xe I3 (S K) G go) λr s4 z=>?_;let⟨u,R,h4⟩:=z;subst R;erw[Rj C$ aV h4 λ_ s5 z=>?_];let⟨x,H5,I5,r5,y5,y,U⟩:=z;let V:=I5.pinned (S U) (T.obj _ _ y);erw[Rj C$ aV (hg _ s5 k H5 x u _ V r5$ step x H5 y5) λ_ s6 z=>?_];let⟨Y,H6,I6,q6⟩:=z;erw[Rj C$ aV (c _ s6 Y H6 _ I6 q6) λf s7 Q=>?_];let again:∀{a:St} {l:Hp},au X (p++mn F s5.heap) a l s7->N a l->∃m,m < n/\∃i j t,au X p j t s7/\tn i s7.heap/\(∀b∈F,t b=θ)/\W i m j t:=λ{a l} q L=>by let⟨m',hm,w7⟩:=hN a l L;refine#[m',hm,i+1,a,l,q.unpinned,T.keep _ _ _ y λb c o e=>(q.pin (b,o)$ Oj _$ Oj _$ zo c e).1,λb c=>?_,w7];let⟨o,e,d⟩:=T.obj _ _ y b c;exact(q.pin (b,o)$ Oj _$ Oj _$ zo c e).2.1
  cases f with
  |next |cont=>let⟨a,l,q,L⟩:=Q;exact again q L
  |brk=>let⟨a,l,q,Q⟩:=Q;exact#[a,l,q.unpinned,Q]
  |ret v=>let⟨x7,a,l,q,r7,Q⟩:=Q;exact#[x7,a,l,q.unpinned,r7,Q]
end
def vH{K:β}{a:η}{X:tz V}{g:TG}{t:TS}{D:bh}{b:St}{H:Hp}(Pv:Nat->St->Hp->Prop)(k:Pv 0 b H)(l:∀i b H,i<=X.length->Pv i b H->aH K H a X)
  (n:∀i x b H,X[i]?=δ x->Pv i b H->g x b H λc j=>t { D with nx:=Pv (i+1),ct:=Pv (i+1),bk:=D.nx } c j) (o:∀b H,Pv X.length b H->D.nx b H):
  ∃W:Nat->Nat->St->Hp->Prop,(∃m,W 0 m b H)/\∀i m b H,W i m b H->
   ((y9 K a).stop i H/\D.nx b H)∨((y9 K a).go i H/\∃N:St->Hp->Prop,(∀d h,N d h->∃M,M < m/\W (i+1) M d h)/\∀x h,(y9 K a).yld i H x h->g x b h λc j=>t { D with nx:=N,ct:=N,bk:=D.nx } c j):=by
 refine#[λi m b H=>m=X.length - i/\i<=X.length/\Pv i b H,#[X.length,WN,NY _,k],?_];rintro i m b H ⟨rfl,r,p⟩;let q:=l i b H r p;by_cases f:i < X.length
 .refine .inr #[#[X,X[i],q,by simp [f]],Pv$ i+1,λd h P=>#[X.length - (i+1),WM,Z,f,P],λx h y=>?_];let⟨e,y⟩:=y;subst e;exact n i x b _ (y X q) p
 .let e:i=X.length:=by omega
  subst e;exact .inl #[#[X,q,NQ _],o b H p]
def AD{K:β}{a:η}{X:tz V}{g:TG}{t:TS}{D:bh}{b:St}{H:Hp}(Pv:Nat->St->Hp->Prop)(k:Pv 0 b H)(l:∀i b H,i<=X.length->Pv i b H->aC K H a X)
  (n:∀i x b H,X[i]?=δ x->Pv i b H->g x b H λc j=>t { D with nx:=Pv (i+1),ct:=Pv (i+1),bk:=D.nx } c j) (o:∀b H,Pv X.length b H->D.nx b H):
  ∃W:Nat->Nat->St->Hp->Prop,(∃m,W 0 m b H)/\∀i m b H,W i m b H->
   ((Aa K a).stop i H/\D.nx b H)∨((Aa K a).go i H/\∃N:St->Hp->Prop,(∀d h,N d h->∃M,M < m/\W (i+1) M d h)/\∀x h,(Aa K a).yld i H x h->g x b h λc j=>t { D with nx:=N,ct:=N,bk:=D.nx } c j):=by
 refine#[λi m b H=>m=X.length - i/\i<=X.length/\Pv i b H,#[X.length,WN,NY _,k],?_];rintro i m b H ⟨rfl,r,p⟩;let q:=l i b H r p;by_cases f:i < X.length
 .refine .inr #[#[X,X[i],q,by simp [f]],Pv$ i+1,λd h P=>#[X.length - (i+1),WM,Z,f,P],λx h y=>?_];let⟨e,y⟩:=y;subst e;exact n i x b _ (y X q) p
 .let e:i=X.length:=by omega
  subst e;exact .inl #[#[X,q,NQ _],o b H p]
def QO{lo:Int}{n:Nat}{g:TG}{t:TS}{D:bh}{a:St}{H:Hp}(Pv:Nat->St->Hp->Prop)(j:Pv 0 a H)
  (k:∀i a H,i < n->Pv i a H->g (.int$ lo+i) a H λb f=>t { D with nx:=Pv (i+1),ct:=Pv (i+1),bk:=D.nx } b f) (l:∀a H,Pv n a H->D.nx a H):
  ∃W:Nat->Nat->St->Hp->Prop,(∃m,W 0 m a H)/\∀i m a H,W i m a H->
   ((uO lo n).stop i H/\D.nx a H)∨((uO lo n).go i H/\∃N:St->Hp->Prop,(∀c h,N c h->∃M,M < m/\W (i+1) M c h)/\∀x h,(uO lo n).yld i H x h->g x a h λb f=>t { D with nx:=N,ct:=N,bk:=D.nx } b f):=by
 refine#[λi m a H=>m=n - i/\i<=n/\Pv i a H,#[n,WN,NY _,j],?_];rintro i m a H ⟨rfl,o,p⟩;by_cases d:i < n
 .refine .inr #[d,Pv$ i+1,λc h P=>#[n - (i+1),WM,Z,d,P],λx h y=>?_];let⟨e,y⟩:=y;subst e y;exact k i a _ d p
 .let e:i=n:=by omega
  subst e;exact .inl #[NQ _,l a H p]
abbrev R2:=V->V->Hp->VK->Prop
def fX(X:Cx)(f:ζ->ζ->Sem ζ)(r:R2):Prop:=
 ∀(p:tz (η×ge)) (s:ι) (a:St) (H:Hp) (x y:V) (v u:ζ) (Q:VK),au X p a H s->aJ x v->aJ y u->r x y H Q->
  π (χ X.prog X.w) X.A (f v u) (EP X p a Q) X.xe s
def Mg(X:Cx)(f:ζ->Sem ζ)(r:V->Hp->VK->Prop):Prop:=
 ∀(p:tz (η×ge)) (s:ι) (a:St) (H:Hp) (x:V) (v:ζ) (Q:VK),au X p a H s->aJ x v->r x H Q->
  π (χ X.prog X.w) X.A (f v) (EP X p a Q) X.xe s
def dM(X:Cx)(f:ζ)(r:tz V->Hp->VK->Prop):Prop:=
 ∀(p:tz (η×ge)) (s:ι) (a:St) (H:Hp) (x:tz V) (u:tz ζ) (Q:VK),au X p a H s->aD x u->r x H Q->
  π (χ X.prog X.w) X.A (call f u) (EP X p a Q) X.xe s
def Mf(X:Cx)(r:V->Hp->(Bool->Hp->Prop)->Prop):Prop:=
 ∀(p:tz (η×ge)) (s:ι) (a:St) (H:Hp) (x:V) (v:ζ) (Q:Bool->Hp->Prop),au X p a H s->aJ x v->r x H Q->
  π (χ X.prog X.w) X.A (truthy v) (TP X p a Q) X.xe s
def eV(r:R2)(t T:TE):TE:=λa H Q=>t a H λx h=>T a h λy b=>r x y b Q
def NA(r:V->Hp->VK->Prop)(t:TE):TE:=λa H Q=>t a H λx h=>r x h Q
inductive rI(C:Int->Int->Prop)(g:Int->Int->V)(x y:V)(H:Hp)(Q:VK):Prop
 |mk(i j:_)(_:x= .int i)(_:y= .int j)(_:C i j)(_:Q (g i j) H)
inductive Ae(g:Int->Int->V)(x y:V)(H:Hp)(Q:VK):Prop
 |mk(i j:_)(_:x= .int i)(_:y= .int j)(_:Q (g i j) H)
inductive rU(g:Int->V)(x:V)(H:Hp)(Q:VK):Prop
 |mk(i:_)(_:x= .int i)(_:Q (g i) H)
section
variable {X:Cx}{a b c:dg}{ta tb tc:TE}{pos:Pos}
def DR(k:PE X a ta)(l:PE X b tb){R:V->V->Hp->Prop}(I:au X p e H s)
  (h:ta e H λx j=>tb e j λy d=>R x y d)  {f:ζ->ζ->Sem ζ}
  (m:∀v u i x y d,au X p e d i->aJ x v->aJ y u->R x y d->π (χ X.prog X.w) X.A (f v u) Q X.xe i):
  π (χ X.prog X.w) X.A (eval a X.env) (λv S=>π (χ X.prog X.w) X.A (eval b X.env) (λu g=>π (χ X.prog X.w) X.A (f v u) Q X.xe g) X.xe S) X.xe s:=by
 erw[aV (k p s e H _ I h) λv n z=>?_];let⟨x,j,o,r,q⟩:=z;erw[aV (l p n e j _ o q) λu i z=>?_];let⟨y,d,t,B,C⟩:=z;exact m v u i x y d t r B C
def jx{o:Operator}{r:R2}(d:fX X (binaryOp o) r)(e:PE X a ta)(f:PE X b tb):PE X (.BinOp a o b pos) (eV r ta tb):=by intro p s g H Q I h;exact wpAny_BinOp$ DR e f I h λv u S x y i j R k q=>d p S g i x y v u Q j R k q
def wW(e:Mg X (unaryOp o) r)(f:PE X a ta):PE X (.UnaryOp o a pos) (NA r ta):=by intro p s d H Q I h;exact UnaryOp_$ aV (f p s d H _ I h) λv S #[x,g,i,R,q]=>e p S d g x v Q i R q
def LP{f:ζ->ζ->Sem ζ}{C:Int->Int->Prop}{g:Int->Int->Int}
  (rule:∀(i j:Int) (t u:Tok) (s:ι) (Q:ζ->ι->Prop) (E:ζ->ι->Prop),C i j->Q (.int (g i j) s.toks) { s with toks:=s.toks+1 }->π (χ X.prog X.w) X.A (f (.int i t)$ .int j u) Q E s):
  fX X f (rI C λi j=>.int (g i j)):=by
 intro p s e H x y v u Q I r R h;let⟨i,j,rfl,rfl,d,q⟩:=h;let⟨t,rfl⟩:=r;let⟨T,rfl⟩:=R;exact rule i j t T s _ _ d #[.int$ g i j,H,I.tok _,#[_,Z],q]
def IE{f:ζ->ζ->Sem ζ}{g:Int->Int->Int}
  (rule:∀(i j:Int) (t u:Tok) (s:ι) (Q:ζ->ι->Prop) (E:ζ->ι->Prop),Q (.int (g i j) s.toks) { s with toks:=s.toks+1 }->π (χ X.prog X.w) X.A (f (.int i t)$ .int j u) Q E s):
  fX X f (Ae λi j=>.int (g i j)):=by
 intro p s d H x y v u Q I r R h;let⟨i,j,rfl,rfl,q⟩:=h;let⟨t,rfl⟩:=r;let⟨T,rfl⟩:=R;exact rule i j t T s _ _ #[.int$ g i j,H,I.tok _,#[_,Z],q]
def Fp{f:ζ->ζ->Sem ζ}{g:Int->Int->Bool}
  (rule:∀(i j:Int) (t u:Tok) (s:ι) (Q:ζ->ι->Prop) (E:ζ->ι->Prop),Q (.bool$ g i j) s->π (χ X.prog X.w) X.A (f (.int i t)$ .int j u) Q E s):
  fX X f (Ae λi j=>.bl (g i j)):=by
 intro p s d H x y v u Q I r R h;let⟨i,j,rfl,rfl,q⟩:=h;let⟨t,rfl⟩:=r;let⟨T,rfl⟩:=R;exact rule i j t T s _ _ #[.bl$ g i j,H,I,Z,q]
def LW(i j:Int):Prop:=0<=j/\j<=1000000/\i.natAbs < 2 ^ 64
def Ag(i j:Int):Prop:=(-(2 ^ 64) < i/\i < 2 ^ 64)∨(-(2 ^ 64) < j/\j < 2 ^ 64)
def Ag.ok(h:Ag i j):IntMulOk i j:=by
 rcases h with ⟨H,d⟩ | ⟨H,d⟩
 .exact .of_left$ intBits_le_64 H d
 .exact .of_right$ intBits_le_64 H d
def jW:fX X (binaryOp .Add) (Ae λi j=>.int (i+j)):=IE λ_ _ _ _ _ _ _ q=>add_int q
def zd:fX X (binaryOp .Sub) (Ae λi j=>.int (i - j)):=IE λ_ _ _ _ _ _ _ q=>sub_int q
def zK:fX X (binaryOp .Mult) (rI Ag λi j=>.int (i*j)):=LP λ_ _ _ _ _ _ _ h q=>mul_int q h.ok
def zn:fX X (binaryOp .Mod) (rI (λ_ j=>0 < j) λi j=>.int (i % j)):=LP λi j _ _ _ _ _ h q=>by let H:(0:Int) < j:=h;exact mod_int' WM (by rwa[Int.fmod_eq_emod_of_nonneg i WM])
def JI:fX X (binaryOp .Pow) (rI LW λi j=>.int (i ^ j.toNat)):=LP λ_ _ _ _ _ _ _ h q=>pow_int_small h.1 h.2.1 h.2.2 q
def NC{f:ζ->Sem ζ}{g:Int->Int}
  (rule:∀(i:Int) (t:Tok) (s:ι) (Q:ζ->ι->Prop) (E:ζ->ι->Prop),Q (.int (g i) s.toks) { s with toks:=s.toks+1 }->π (χ X.prog X.w) X.A (f$ .int i t) Q E s):
  Mg X f (rU λi=>.int (g i)):=by
 intro p s d H x v Q I r h;let⟨i,rfl,q⟩:=h;let⟨t,rfl⟩:=r;exact rule i t s _ _ #[.int$ g i,H,I.tok _,#[_,Z],q]
def YM:Mg X (unaryOp .USub) (rU λi=>.int (-i)):=NC λ_ _ _ _ _ q=>neg_int q
end
noncomputable def La:V->V->Bool
 | .non,.non=>μ | .non,.int _=>μ | .int _,.non=>μ | .non,.bl _=>μ | .bl _,.non=>μ | .non,.str _=>μ | .str _,.non=>μ
 | .int _,.int _=>μ | .bl _,.bl _=>μ | .str _,.str _=>μ | .byt _,.byt _=>μ
 | .int _,.str _=>μ | .str _,.int _=>μ | .bl _,.str _=>μ | .str _,.bl _=>μ
 |_,_=>ν
def IM:R2:=λx y H Q=>La x y=μ/\Q (.bl$ decide$ x=y) H
def Nh:R2:=λx y H Q=>La x y=μ/\Q (.bl (!decide (x=y))) H
def ZN:decide (sn i=sn j)=(i==j):=by rw[SW];simp
def vh:decide (V.bl i=V.bl j)=(i==j):=by rw[SW];simp
def ZO:decide (rz i=rz j)=(i==j):=by rw[SW];simp
def ZP:decide (V.byt i=V.byt j)=(i.toList==j.toList):=by rw[SW];cases i;cases j;simp
section
variable {X:Cx}{a b c:dg}{ta tb tc:TE}{pos:Pos}
def jS{Q:VK}(I:au X p d H s)(q:Q (.bl k) H)(e:k=f):EP X p d Q (.bool f) s:=by subst e;exact#[.bl k,H,I,Z,q]
def qh:fX X (compareOp .Eq) IM:=by
 intro p s e H x y v u Q I R r h;let⟨d,q⟩:=h;cases x with
 |non=>
  cases R;cases y with
  |non=>cases r;exact Wn (jS I q WN)
  |bl j=>cases r;exact Wp (jS I q WN)
  |int j=>let⟨T,rfl⟩:=r;exact Wo (jS I q WN)
  |str j=>let⟨T,rfl⟩:=r;exact Wm (jS I q WN)
  |_=>exact absurd (show ν=μ from d) N5
 |bl i=>
  cases R;cases y with
  |non=>cases r;exact Wr (jS I q WN)
  |bl j=>cases r;exact eq_bool (jS I q vh)
  |str j=>let⟨T,rfl⟩:=r;exact V8 (jS I q WN)
  |_=>exact absurd (show ν=μ from d) N5
 |int i=>
  let⟨t,rfl⟩:=R;cases y with
  |non=>cases r;exact Wq (jS I q WN)
  |int j=>let⟨T,rfl⟩:=r;exact eq_int (jS I q ZN)
  |str j=>let⟨T,rfl⟩:=r;exact V7 (jS I q WN)
  |_=>exact absurd (show ν=μ from d) N5
 |str i=>
  let⟨t,rfl⟩:=R;cases y with
  |non=>cases r;exact Wl (jS I q WN)
  |bl j=>cases r;exact V6 (jS I q WN)
  |int j=>let⟨T,rfl⟩:=r;exact V5 (jS I q WN)
  |str j=>let⟨T,rfl⟩:=r;exact eq_str (jS I q ZO)
  |_=>exact absurd (show ν=μ from d) N5
 |byt i=>
  let⟨t,rfl⟩:=R;cases y with
  |byt j=>let⟨T,rfl⟩:=r;exact PySem.W.eq_bytes (jS I q ZP)
  |_=>exact absurd (show ν=μ from d) N5
 |_=>cases y<;>exact absurd (show ν=μ from d) N5
def ZE:fX X (compareOp .NotEq) Nh:=by
 intro p s e H x y v u Q I R r h;let⟨d,q⟩:=h;cases x with
 |non=>
  cases R;cases y with
  |non=>cases r;exact Wf (jS I q WN)
  |bl j=>cases r;exact Wi (jS I q WN)
  |int j=>let⟨T,rfl⟩:=r;exact Wg (jS I q WN)
  |str j=>let⟨T,rfl⟩:=r;exact We (jS I q WN)
  |_=>exact absurd (show ν=μ from d) N5
 |bl i=>
  cases R;cases y with
  |non=>cases r;exact Wk (jS I q WN)
  |bl j=>cases r;exact ne_bool (jS I q (O1 not vh))
  |str j=>let⟨T,rfl⟩:=r;exact V4 (jS I q WN)
  |_=>exact absurd (show ν=μ from d) N5
 |int i=>
  let⟨t,rfl⟩:=R;cases y with
  |non=>cases r;exact Wj (jS I q WN)
  |int j=>let⟨T,rfl⟩:=r;exact ne_int (jS I q (O1 not ZN))
  |str j=>let⟨T,rfl⟩:=r;exact V3 (jS I q WN)
  |_=>exact absurd (show ν=μ from d) N5
 |str i=>
  let⟨t,rfl⟩:=R;cases y with
  |non=>cases r;exact Wc (jS I q WN)
  |bl j=>cases r;exact V2 (jS I q WN)
  |int j=>let⟨T,rfl⟩:=r;exact V1 (jS I q WN)
  |str j=>let⟨T,rfl⟩:=r;exact ne_str (jS I q (O1 not ZO))
  |_=>exact absurd (show ν=μ from d) N5
 |byt i=>
  let⟨t,rfl⟩:=R;cases y with
  |byt j=>let⟨T,rfl⟩:=r;exact PySem.W.ne_bytes (jS I q (O1 not ZP))
  |_=>exact absurd (show ν=μ from d) N5
 |_=>cases y<;>exact absurd (show ν=μ from d) N5
def QI:fX X (compareOp .Lt) (Ae λi j=>.bl (decide$ i < j)):=Fp λ_ _ _ _ _ _ _ q=>lt_int q
def JX:fX X (compareOp .Gt) (Ae λi j=>.bl (decide$ j < i)):=Fp λ_ _ _ _ _ _ _ q=>gt_int q
def wQ:fX X (compareOp .GtE) (Ae λi j=>.bl (decide$ j<=i)):=Fp λ_ _ _ _ _ _ _ q=>ge_int q
def aI(b:dg)(h:↥(o≠ .In))(H:↥(o≠ .NotIn)):behindInMarks o b=ν:=by
 let e:(o==CmpOp.In)=ν:=by cases o<;>first |rfl |exact absurd Z h
 let E:(o==CmpOp.NotIn)=ν:=by cases o<;>first |rfl |exact absurd Z H
 cases b<;>simp [behindInMarks,e,E]
def z9(d:fX X (compareOp o) r)(e:PE X a ta)(f:PE X b tb)(g:behindInMarks o b=ν):PE X (.Compare a [o] [b] pos) (eV r ta tb):=by intro p s i H Q I h;exact wpAny_Compare1 (DR e f I h λv u S x y j k R l q=>d p S i j x y v u Q k R l q) g
inductive yK(Q:Bool->Hp->Prop)(x:V)(a:Hp):Prop
 |mk(k:_)(_:x= .bl k)(_:Q k a)
def l7(t:TE):TT:=λd H Q=>t d H (yK Q)
def jD{o:CmpOp}{r:R2}(f:fX X (compareOp o) r)(g:PE X a ta)(i:PE X b tb)(j:behindInMarks o b=ν):PT X (.Compare a [o] [b] pos) (l7$ eV r ta tb):=by
 intro p s d H Q I h;refine Ve (aV (g p s d H _ I h) λv S #[x,l,m,R,q]=>aV (i p S d l _ m q) λu n #[y,t,w,A,B]=>
  aV (f p n d t x y v u _ w R A B) λc G #[z,C,D,E,k,e,F]=>?_) j
 subst e;cases E;exact RS #[C,D,F]
def Hs(K:β)(x:V)(H:Hp)(k:Bool):Prop:=
 match x with
 | .non=>k=ν
 | .bl b=>k=b
 | .int i=>k=(i != 0)
 | .str y=>y.length<=τ/\k=((y.length:Int) != 0)
 | .byt y=>y.size<=τ/\k=((y.size:Int) != 0)
 | .ref p=>(∃d,aH K H p d/\k=!d.isEmpty)∨(∃d,aC K H p d/\k=!d.isEmpty)∨∃e,H p=δ (.dK e)/\k=!e.isEmpty
 |_=>False
def Y1{d:Type}{k:tz (d×V)}{v:tz (d×ζ)}(r:KV k v):(!v.isEmpty)=!k.isEmpty:=by cases r<;>rfl
def K7(r:aD x i):(!i.toArray.isEmpty)=!x.isEmpty:=by cases r<;>simp
def fh:(τ:Nat) < 2 ^ 63:=by rw[Rb];decide
def Gz:Mf X (λx H Q=>∃k,Hs X.K x H k/\Q k H):=by
 intro o s B H x v Q I R h;let⟨k,e,q⟩:=h;let C:=fh;let D:τ=16777216:=Rb;cases x with
 |non=>cases R;let E:k=ν:=e;subst E;exact truthy_none #[H,I,q]
 |bl b=>cases R;let E:k=b:=e;subst E;exact RS #[H,I,q]
 |int i=>let⟨t,rfl⟩:=R;let E:k=(i != 0):=e;subst E;exact PySem.P.truthy_int #[H,I,q]
 |str y=>let⟨t,rfl⟩:=R;obtain⟨z,E⟩:y.length<=τ/\k=((y.length:Int) != 0):=e;subst E;exact PySem.P.truthy_str WM #[H,I.tok _,q]
 |byt y=>let⟨t,rfl⟩:=R;obtain⟨z,E⟩:y.size<=τ/\k=((y.size:Int) != 0):=e;subst E;exact PySem.W.truthy_bytes WM #[H,I.tok _,q]
 |ref p=>
  cases R;let E:(∃g,aH X.K H p g/\k=!g.isEmpty)∨(∃g,aC X.K H p g/\k=!g.isEmpty)∨∃d,H p=δ (.dK d)/\k=!d.isEmpty:=e;rcases E with ⟨g,j,E⟩ | ⟨g,j,E⟩ | ⟨d,j,E⟩
  .subst E;let⟨l,r,n,u⟩:=I.list j;let f:=r.length;exact wpAny_truthy_list n.isList (by simp only[NR];omega) #[H,I.tok _,by rwa[K7 r]]
  .subst E;let⟨l,r,n,u⟩:=I.tuple j;let f:=r.length;exact truthy_tuple n (by simp only[NR];omega) #[H,I.tok _,by rwa[K7 r]]
  .subst E;obtain⟨u,A,V,r,m⟩:d.length<=τ/\(p==sysModules)=ν/\∃V,KV d V/\s.heap.DictOf (aX X.prog X.w) p V:=I.hok p _ j;let f:d.length=V.length:=Paired.length r;exact wpAny_truthy_dict A m WM #[H,I.tok _,by rwa[Y1 r]]
 |_=>exact(show False from e).elim
def xp(f:PE X a ta)(g:∀w,isTrue a X.env w=(do let v <- w;standAt a.pos;lu [v] (truthy v))):
  PT X a (λd H Q=>ta d H λx e=>∃k,Hs X.K x e k/\Q k e):=by
 intro p s d H Q I h;exact isTrue_plain (aV (f p s d H _ I h) λv S #[x,i,j,r,q]=>Gz p S d i x v Q j r q)$ g _
def zX:fX X (binaryOp .Add) (λx y H Q=>∃i j,x= .str i/\y= .str j/\i.length+j.length<=τ/\Q (.str$ i++j) H):=by intro p s e H x y v u Q I r R h;let⟨i,j,rfl,rfl,d,q⟩:=h;let⟨t,rfl⟩:=r;let⟨T,rfl⟩:=R;exact add_str (λT f=>#[.str$ i++j,H,I.tok _,#[_,Z],q]) d
def eW(r:aD [x] U):∃u,U=[u]/\aJ x u:=by
 cases r with
 |cons R d=>cases d;exact#[_,Z,R]
def Lw(r:aD [x,y] U):∃u w,U=[u,w]/\aJ x u/\aJ y w:=by
 cases r with
 |cons R d=>
  cases d with
  |cons e f=>cases f;exact#[_,_,Z,R,e]
def qQ:dM X (.type "int") (λx H Q=>(∃i,x=[.int i]/\Q (.int i) H)∨∃k,x=[.bl k]/\Q (.int (if k then 1 else 0)) H):=by
 intro p s d H x U Q I r h;rcases h with ⟨i,rfl,q⟩ | ⟨k,rfl,q⟩
 .let⟨u,rfl,t,rfl⟩:=eW r;exact call_int_int #[.int i,H,I,#[_,Z],q]
 .let⟨u,rfl,R⟩:=eW r;cases R;exact call_int_bool #[.int (if k then 1 else 0),H,I.tok _,#[_,Z],q]
end
structure oI(h:cJ)(x dx C:η)(mA:ρ->tT ζ):Prop where
 obj:h.get? x=δ (instObj C dx)
 ns:h.Ns1 dx mA
 ne:dx≠x
def tF{h:cJ}(n:h.Ns1 d m):∃O,h.get? d=δ O/\∀name,lookIn name O=δ (m name):=by
 let⟨o,E,j,b,c,f,_,g⟩:=n;refine#[o,b,λname=>?_];let e:=g name;unfold nsFind findBy at e;rw[<- Array.find?_toList]at e;unfold lookIn;rw[c];dsimp only;split
 .rename_i y q
  rw[q]at e;exact O1 δ e
 .rename_i q
  rw[q]at e;let a:E.toList.any (·.refKey)=ν:=by rw[U9];intro y i;let⟨z,t,H⟩:=f y (Array.mem_toList_iff.mp i);simp [DictEntry.refKey,H]
  let A:¬E.toList.any (·.refKey)=μ:=by rw[a];exact N5
  rw[N7 A];exact O1 δ e
def oI.look(I:oI h x d C m):∃o,PySem.W.InstAt h x (instObj C d) C (δ o)/\∀name,lookIn name o=δ (m name):=
 let #[o,H,a]:=tF I.ns
 #[o,#[I.obj,Z,Z,H],a]
section
variable {prog:ψ}{w:bF}{A:bU}{E:ζ->ι->Prop}{s:ι}{K:β}{x dx C f:η}{mA:ρ->tT ζ}{name:ρ}{v:ζ}
def AE{Q:ζ->ι->Prop}(X:K.In s.heap)(I:oI s.heap x dx C mA)(a:plainGet K C name=μ)(b:hasDictIn K C=μ)
  (c:findIn K (.ref C) name=δ θ) (d:mA name=δ v) (H:PySem.W.handedIn v=μ) (h:Q v { s with toks:=s.toks+1 }):
  π (χ prog w) A (getAttr (.ref x) name e) Q E s:=by
 let⟨o,J,g⟩:=I.look;exact PySem.W.get_value X J (Tc a).1 (PySem.W.findObj_own b c Z (by rw[g,d])) H h
def vM{Q:ζ×tz ζ->ι->Prop}(X:K.In s.heap)(I:oI s.heap x dx C mA)(H:plainGet K C name=μ)
  (a:findIn K (.ref C) name=δ (↑f)) (b:isFn K (.ref f)=μ) (c:mA name=θ) (h:Q (.ref f,[.ref x]) s):
  π (χ prog w) A (getMethod (.ref x) name p) Q E s:=by
 let⟨o,J,d⟩:=I.look;exact PySem.W.method_fn X J (Tc H).1 (Tc H).2 a (beq_iff_eq.mp b) (by show(lookIn name o).map (·.isSome)=δ ν;rw[d,c];rfl) h
def Cb{Q:Unit->ι->Prop}(X:K.In s.heap)(I:oI s.heap x dx C mA)
  (k:findIn K (.ref C) "__setattr__"=δ (δ$ .builtin "object.__setattr__")) (l:PySem.W.plainOver K C=μ) (m:ri K C name=δ θ) (n:hasDictIn K C=μ)
  (o:PySem.Within mA N) (p:N.length<=τ)
  (h:∀d,oI d x dx C (λy=>if y=name then δ v else mA y)->fx dx s.heap d->Q () { s with heap:=d,toks:=s.toks+2 }):
  π (χ prog w) A (setAttr (.ref x) name v) Q E s:=by
 let⟨O,J,B⟩:=I.look;refine PySem.W.set_plain X J k$ PySem.W.osa_open (s:={ s with toks:=s.toks+1 }) (r:=θ) X J l m λb=>?_;let⟨D,q,e⟩:=PySem.W.any_some n;let t:s.heap.get? x=δ #[.ref C,δ dx,.plain,(ε [])]:=I.obj;refine NJ$ NN$ NJ$ NJ$ Ux t$ NJ$ V0 (s:={ s with toks:=s.toks+1 }) (PySem.W.looks_clsIn X q) ?_;rw[e];erw[NN (a:=δ dx)$ NJ$ NN$ NJ ?_];refine wpAny_nsSet1 (s:={ s with toks:=s.toks+1 }) I.ns λd H c=>?_;let⟨F,u,z,g,i,j⟩:=H.count (Wa name v o);refine NJ$ wpAny_lookBehind g (by rw[i];exact pastItsLine_dict$ N6 j (by rw[Oq];omega)) ?_;exact NN$ h _ #[(c.2 _$ Ou I.ne).trans I.obj,H,I.ne] c
def wg{R:Result->ι->Prop}(X:K.In s.heap)(H:PySem.W.makesIn K C=μ)
  (b:findIn K (.ref C) "__init__"=δ (↑f)) (c:typeIn K (.ref f)=δ (.type "function"))
  (h:kw (χ prog w) (A.under$ .builtin "type.__call__" #[.ref C::a,k]) (.call (.ref f) #[.ref (s.heap.objs.size+1)::a,k]) (PySem.W.InitBack (s.heap.objs.size+1) R)
   { s with heap:=(s.heap.push emptyDict).push (instObj C s.heap.objs.size) }):
  kw (χ prog w) A (.call (.ref C) #[a,k]) R s:=by
 let⟨e,g,d,t,os⟩:=s;exact PySem.W.make_core (PySem.W.makes_of X H) (PySem.W.looks_findIn X b) (λS=>PySem.W.bind_fn X S c) (.inl Z) h
end
noncomputable def fi(f:ρ)(v:V):tz (ρ×V)->tz (ρ×V)
 | []=>[(f,v)]
 | (g,x)::r=>if g=f then (g,v)::r else (g,x)::fi f v r
theorem J3(f g:ρ)(v:V):∀F:tz (ρ×V),(fi f v F).lookup g=if g=f then δ v else F.lookup g
 | []=>by
  show hJ g [(f,v)]=_;by_cases h:g=f
  .let H:(g==f)=μ:=beq_iff_eq.mpr h;simp only[hJ,H,N0 h]
  .let H:(g==f)=ν:=beq_eq_false_iff_ne.mpr h;simp only[hJ,H,N7 h]
 | (k,x)::r=>by
  let i:=J3 f g v r;rw[show fi f v ((k,x)::r)=(if k=f then (k,v)::r else (k,x)::fi f v r) from Z];by_cases a:k=f
  .rw[N0 a];by_cases h:g=k
   .let H:(g==k)=μ:=beq_iff_eq.mpr h;simp only[hJ,H,N0$ h.trans a]
   .let H:(g==k)=ν:=beq_eq_false_iff_ne.mpr h;simp only[hJ,H,N7 (λe:g=f=>h (e.trans a.symm))]
  .rw[N7 a];by_cases h:g=k
   .let H:(g==k)=μ:=beq_iff_eq.mpr h;simp only[hJ,H,N7 (λe:g=f=>a (h.symm.trans e))]
   .let H:(g==k)=ν:=beq_eq_false_iff_ne.mpr h;simp only[hJ,H];exact i
theorem JR(f:ρ)(v:V):∀F:tz (ρ×V),f∈(fi f v F).map (·.1)/\∀g,g∈F.map (·.1)->g∈(fi f v F).map (·.1)
 | []=>#[by simp [fi],λg h=>by simp at h]
 | (k,x)::r=>by
  let⟨i,I⟩:=JR f v r;rw[show fi f v ((k,x)::r)=(if k=f then (k,v)::r else (k,x)::fi f v r) from Z];by_cases H:k=f
  .rw[N0 H];subst H;exact#[WN,λg h=>by simpa using h]
  .rw[N7 H];refine#[?_,λg h=>?_]
   .rw[O8];exact On _ i
   .rw[O8]at h ⊢;rcases Θ.mp h with e |e
    .exact Θ.mpr$ .inl e
    .exact On _$ I g e
theorem J4(f:ρ)(v:V):∀F:tz (ρ×V),(fi f v F).length<=F.length+1
 | []=>by simp [fi]
 | (k,x)::r=>by
  let i:=J4 f v r;rw[show fi f v ((k,x)::r)=(if k=f then (k,v)::r else (k,x)::fi f v r) from Z];by_cases h:k=f
  .rw[N0 h,Oq,Oq];omega
  .rw[N7 h,Oq,Oq];omega
def eL.some_of{v:V}{o:tT ζ}(r:eL (δ v) o):∃u,o=δ u/\aJ v u:=by
 cases o with
 |none=>exact(show False from r).elim
 |some u=>exact#[u,Z,r]
def eL.none_of(r:eL θ o):o=θ:=by
 cases o with
 |none=>rfl
 |some u=>exact(show False from r).elim
def sW(r:aJ v u):PySem.W.handedIn u=μ:=by
 cases v with
 |non=>cases (show u=γ from r);rfl
 |bl b=>cases (show u=oS b from r);rfl
 |int i=>let⟨t,e⟩:=(show ∃t,u=ic i t from r);cases e;rfl
 |str x=>let⟨t,e⟩:=(show ∃t,u=lq x t from r);cases e;rfl
 |byt b=>let⟨t,e⟩:=(show ∃t,u=Value.bytes b t from r);cases e;rfl
 |flt b=>let⟨t,e⟩:=(show ∃t,u=Value.float b t from r);cases e;rfl
 |ref a=>cases (show u=Ξ a from r);rfl
 |ty n=>cases (show u=fr n from r);rfl
section
variable {P:ψ}{w:bF}{H H':Hp}{h h':cJ}{a C dx:η}{fs fs':tz (ρ×V)}
def Kg(b:fV P w H h)(e:H a=δ (.ins C dx fs)):∃m,oI h a dx C m/\(∀f,eL (fs.lookup f)$ m f)/\PySem.Within m (fs.map (·.1))/\fs.length<=1000/\H dx=δ (.own a):=by let⟨d,z,N,o,m,n,r,q⟩:=(show aP P w H h a (.ins C dx fs) from b a _ e);exact#[m,#[o,n,N],r,q,z,d]
end
structure pw(K:β)(C:η):Prop where
 pg:plainGet K C Str.empty=μ
 hd:hasDictIn K C=μ
 po:PySem.W.plainOver K C=μ
 sa:findIn K (.ref C) "__setattr__"=δ (δ$ .builtin "object.__setattr__")
def pw.get{K:β}(c:pw K C)(f:ρ):plainGet K C f=μ:=c.pg
def be(K:β)(C:η)(f:ρ):Prop:=findIn K (.ref C) f=δ θ
def be.taker{K:β}(n:be K C f):ri K C f=δ θ:=by unfold ri;rw[show findIn K (.ref C) f=δ θ from n];rfl
structure bu(K:β)(C:η)(m:ρ)(f:η):Prop where
 at_:findIn K (.ref C) m=δ (↑f)
 fn:isFn K (.ref f)=μ
 kp:iu K (.ref f)=μ
section
variable {X:Cx}{pins:tz (η×ge)}{σ:St}{H:Hp}{s:ι}{a C dx:η}{fs:tz (ρ×V)}{f:ρ}{v:V}{A:bU}{E:ζ->ι->Prop}
def K8{Q:ζ->ι->Prop}(I:au X pins σ H s)(e:H a=δ (.ins C dx fs))(c:pw X.K C)(n:be X.K C f)(l:fs.lookup f=δ v)
  (h:∀u S,au X pins σ H S->aJ v u->Q u S):π (χ X.prog X.w) A (getAttr (.ref a) f b) Q E s:=by
 let⟨m,O,r,_,_,_⟩:=Kg I.hok e;let⟨u,d,R⟩:=eL.some_of (v:=v) (o:=m f) (by rw[<- l];exact r f);exact AE I.kIn O (c.get f) c.hd n d (sW R)$ h u _ (I.tok _) R
def K9{Q:ζ×tz ζ->ι->Prop}(I:au X pins σ H s)(e:H a=δ (.ins C dx fs))(c:pw X.K C)(k:bu X.K C m g)(l:fs.lookup m=θ)
  (h:Q (.ref g,[.ref a]) s):π (χ X.prog X.w) A (getMethod (.ref a) m p) Q E s:=by
 let⟨M,O,r,_,_,_⟩:=Kg I.hok e;let b:M m=θ:=eL.none_of (by rw[<- l];exact r m);exact vM I.kIn O (c.get m) k.at_ k.fn b h
def Qa{Q:Unit->ι->Prop}(I:au X pins σ H s)(e:H a=δ (.ins C dx fs))(c:pw X.K C)(n:be X.K C f)(F:fs.length < 1000)(R:aJ y u)
  (h:∀S,au X pins σ (af H a$ .ins C dx$ fi f y fs) S->Q () S):π (χ X.prog X.w) A (setAttr (.ref a) f u) Q E s:=by
 let⟨m,O,r,W,_,i⟩:=Kg I.hok e;let j:(fs.map (·.1)).length<=τ:=by rw[NO,Rb];omega
 erw[Cb I.kIn O c.sa c.po n.taker c.hd W j λk d l=>h _ ?_];let p:∃o,k.get? dx=δ o:=let #[o,_,_,t,_]:=d.ns;#[o,t]
 refine I.write (x:=a) (e:=dx) (by rw[e];exact True.intro) (.inr i) (λb q B z=>(l.2 b B).trans z) p ?_;refine#[by rwa[jh O.ne],?_,O.ne,d.obj,_,d.ns,λg=>?_,λg D=>?_]
 .let:=J4 f y fs;omega
 .show eL ((fi f y fs).lookup g) (if g=f then δ u else m g);rw[J3];by_cases q:g=f
  .rw[N0 q,N0 q];exact R
  .rw[N7 q,N7 q];exact r g
 .by_cases q:g=f
  .rw[q];exact(JR f y fs).1
  .refine(JR f y fs).2 g (W g λz=>D ?_);show(if g=f then δ u else m g)=θ;rwa[N7 q]
def au.made(I:au X pins σ H s):au X pins σ (af (af H s.heap.objs.size$ .own$ s.heap.objs.size+1) (s.heap.objs.size+1)$ .ins C s.heap.objs.size [])
  { s with heap:=(s.heap.push emptyDict).push (instObj C s.heap.objs.size) }:=by
 let c:(s.heap.push emptyDict).get? s.heap.objs.size=δ emptyDict:=NV s.heap Z;let d:((s.heap.push emptyDict).push$ instObj C s.heap.objs.size).get? (s.heap.objs.size+1)=δ (instObj C s.heap.objs.size):=by let:=NV (s.heap.push emptyDict) (o:=instObj C s.heap.objs.size) Z;rwa [OL]at this
 let g:(s.heap.push emptyDict).Ns s.heap.objs.size (λ_=>θ):=#[emptyDict,(ε []),_,c,Z,(λe h=>absurd h WN),λ_=>Z];let i:=I.laid (a:=s.heap.objs.size) (o:=.own (s.heap.objs.size+1)) (h':=s.heap.push emptyDict) (t':=s.toks) (λb u q=>NM _ q) (NQ _) #[_,c];erw[i.laid (a:=s.heap.objs.size+1) (o:=.ins C s.heap.objs.size []) (t':=s.toks) (λb u q=>NM _ q) (Tu$ OL _ _) ?_];let n:s.heap.objs.size≠s.heap.objs.size+1:=N8 (Pb _);refine#[by rw[jh n,jc],NY _,n,d,λ_=>θ,(Heap.Ns1.of_empty g).at λo q=>NM _ q,λ_=>True.intro,λy j=>absurd Z j]
def Ar{f:ρ}{s:ι}(c:attributeBase e f b (eval e b)=eval e b)
  (h:π (χ p w) A (eval e b) (λo S=>π (χ p w) A (getAttr o f μ) Q E S) E s):π (χ p w) A (eval (.Attribute e f d) b) Q E s:=
 Attribute_any_ h (by rw[arm_eval_Attribute,c])
end
inductive DB(K:β)(f:ρ)(Q:VK)(x:V)(b:Hp):Prop
 |mk(a C c d v:_)(_:x= .ref a)(_:b a=δ (.ins C c d))(_:pw K C)(_:be K C f)(_:d.lookup f=δ v)(_:Q v b)
def MO(K:β)(t:TE)(f:ρ):TE:=λa H Q=>t a H (DB K f Q)
inductive Dr(K:β)(f:ρ)(D:bh)(e:St)(y x:V)(b:Hp):Prop
 |mk(a C c d:_)(_:x= .ref a)(_:b a=δ (.ins C c d))(_:pw K C)(_:be K C f)(_:d.length < 1000)(_:D.nx e (af b a (.ins C c (fi f y d))))
def Mz(K:β)(t T:TE)(f:ρ):TS:=λD a H=>T a H λy h=>t a h (Dr K f D a y)
def Hi(X:Cx)(o:Operator)(r:V->V->Hp->VK->Prop):Prop:=
 ∀(p:tz (η×ge)) (s:ι) (a:St) (H:Hp) (x y:V) (u v:ζ) (Q:VK),au X p a H s->aJ x u->aJ y v->r x y H Q->π (χ X.prog X.w) X.A (inplaceOp o u v) (EP X p a Q) X.xe s
inductive nO(K:β)(g:TE)(e:V->V->Hp->VK->Prop)(f:ρ)(D:bh)(h:St)(x:V)(b:Hp):Prop
 |mk(a C c d v:_)(_:x= .ref a)(_:b a=δ (.ins C c d))(_:pw K C)(_:be K C f)(_:d.lookup f=δ v)(_:g h b λy H2=>e v y H2 λz H3=>∃dx' fs',H3 a=δ (.ins C dx' fs')/\fs'.length < 1000/\D.nx h (af H3 a (.ins C dx' (fi f z fs'))))
def BL(K:β)(t T:TE)(r:V->V->Hp->VK->Prop)(f:ρ):TS:=λD a H=>t a H (nO K T r f D a)
section
variable {X:Cx}{o e value:dg}{f:ρ}{pos pos' tpos:Pos}{ta tv:TE}
def ke(b:PE X e ta)(d:attributeBase e f X.env (eval e X.env)=eval e X.env):PE X (.Attribute e f pos) (MO X.K ta f):=by intro p s g H Q I h;erw[Ar d$ aV (b p s g H _ I h) λu S z=>?_];let⟨x,i,j,r,a,C,D,F,v,E,k,c,n,l,q⟩:=z;subst E;obtain rfl:u=Ξ a:=r;exact K8 j k c n l λU t m R=>#[v,i,m,R,q]
def zL(d:PE X o ta)(g:PE X value tv)(i:swapsWith value (δ$ .Attribute o f pos') pos.line X.env=pure ν):PS X (.Assign [.Attribute o f pos'] value pos) (Mz X.K ta tv f):=by intro p s b H D I h;erw[plainObj_wpAny_Assign_Attribute (aV (g p s b H _ I h) λu S #[y,j,k,r,q]=>aV (d p S b j _ k q) λO w z=>?_) i];let⟨x,A,m,R,a,C,B,F,E,t,c,n,l,Q⟩:=z;subst E;obtain rfl:O=Ξ a:=R;exact Qa m t c n l r λG v=>#[b,_,v,Q]
def ui{O:Operator}{r:V->V->Hp->VK->Prop}(i:PE X o ta)(j:PE X value tv)(g:Hi X O r):PS X (.AugAssign (.Attribute o f tpos) O value pos) (BL X.K ta tv r f):=by intro p s d H D I h;erw[wpAny_AugAssign_AttributeAny$ aV (i p s d H _ I h) λk s1 b=>?_];let⟨x,m,t,R,a,C,dx,fs,v,w,A,c,n,l,q⟩:=b;subst w;obtain rfl:k=Ξ a:=R;erw[K8 t A c n l λu S B F=>aV (j p S d m _ B q) λW G #[y,J,L,M,Q]=>aV (g p G d J v y u W _ L F M Q) λw4 s4 b=>?_];let⟨z,H3,N,P,T,U,E,Y,q4⟩:=b;exact Qa N E c n Y P λs5 I5=>#[d,_,I5,q4]
inductive IL(x y:V)(H:Hp)(Q:VK):Prop
 |mk(i j:_)(_:x= .int i)(_:y= .int j)(_:Q (.int (i+j)) H)
def Eh:Hi X .Add IL:=by rintro p s a H x y u v Q I r R ⟨i,j,rfl,rfl,q⟩;let⟨t,rfl⟩:=(show ∃t,u=ic i t from r);let⟨T,rfl⟩:=(show ∃T,v=ic j T from R);exact Wt #[.int$ i+j,H,I.tok _,#[_,Z],q]
end
section
variable {X:Cx}{pins:tz (η×ge)}{σ:St}{H:Hp}{s:ι}{A:bU}{E:ζ->ι->Prop}{Q:ζ->ι->Prop}{c:ζ}{b:Bool}
inductive h9(K:β)(H:Hp):V->ζ->Prop where
 |non:h9 K H .non (.type "NoneType")
 |bl (x:Bool):h9 K H (.bl x) (.type "bool")
 |int (i:Int):h9 K H (.int i) (.type "int")
 |str (x:ρ):h9 K H (.str x) (.type "str")
 |flt (x:UInt64):h9 K H (.flt x) (.type "float")
 |lst {a:η} {xs:List V} (e:H a=δ (.lst xs)):h9 K H (.ref a) (.type "list")
 |frz {a:η} {o:ge} {xs:List V} (e:H a=δ (.frz o (.lst xs))):h9 K H (.ref a) (.type "list")
 |tup {a:η} {xs:List V} (e:H a=δ (.tup xs)):h9 K H (.ref a) (.type "tuple")
 |dK {a:η} {kvs:List (bV×V)} (e:H a=δ (.dK kvs)):h9 K H (.ref a) (.type "dict")
 |dT {a:η} {kvs:List (List bV×V)} (e:H a=δ (.dT kvs)):h9 K H (.ref a) (.type "dict")
 |ins {a C dx:η} {fs:List (ρ×V)} (e:H a=δ (.ins C dx fs)) (cl:pw K C) (ha:findIn K (.ref C) "__class__"=δ (δ (.builtin "object.__class__")))
   (hn:specialIn K (.builtin "object.__class__") "__get__"=δ (δ$ .builtin "getset_descriptor.__get__")) (htk:PySem.W.takesIn K (.builtin "object.__class__")=δ μ)
   (hm:mroIn K C (.type "object")=δ μ):h9 K H (.ref a) (.ref C)
def tj(I:au X pins σ H s)(r:aJ x u)(T:h9 X.K H x t)(e:kitOne X.K t c=δ b)(h:∀v,Q (.bool b) { s with toks:=v }):
  π (χ X.prog X.w) A (call (.builtin "isinstance") [u,c]) Q E s:=by
 cases T with
 |non=>cases (show u=γ from r);exact Sd PySem.W.kitx_none I.kIn True.intro e (λz=>nomatch z) h
 |bl y=>cases (show u=oS y from r);exact Sd PySem.W.kitx_bool I.kIn True.intro e (λz=>nomatch z) h
 |int i=>let⟨t,q⟩:=(show ∃t,u=ic i t from r);cases q;exact Sd PySem.W.kitx_int I.kIn True.intro e (λz=>nomatch z) h
 |str y=>let⟨t,q⟩:=(show ∃t,u=lq y t from r);cases q;exact Sd PySem.W.kitx_str I.kIn True.intro e (λz=>nomatch z) h
 |flt y=>let⟨t,q⟩:=(show ∃t,u=Value.float y t from r);cases q;exact Sd PySem.W.kitx_float I.kIn True.intro e (λz=>nomatch z) h
 | @lst a g d=>cases (show u=Ξ a from r);let⟨_,_,n,_,f⟩:=(show aP X.prog X.w H s.heap a (.lst g) from I.hok a _ d);exact Sd UF I.kIn #[_,f,Z] e (λz=>nomatch z) h
 | @frz a B g d=>cases (show u=Ξ a from r);let⟨_,_,_,n,_,f⟩:=(show aP X.prog X.w H s.heap a (.frz B$ .lst g) from I.hok a _ d);exact Sd UF I.kIn #[_,f,Z] e (λz=>nomatch z) h
 | @tup a g d=>cases (show u=Ξ a from r);let⟨_,_,_,p⟩:=(show aP X.prog X.w H s.heap a (.tup g) from I.hok a _ d);let⟨o,f,j,_⟩:=p;exact Sd PySem.W.kitx_tuple I.kIn #[o,f,j] e (λz=>nomatch z) h
 | @dK a k d=>cases (show u=Ξ a from r);let⟨_,_,V,_,p⟩:=(show aP X.prog X.w H s.heap a (.dK k) from I.hok a _ d);let⟨o,D,F,f,j,_⟩:=p;exact Sd UG I.kIn #[o,f,j.1] e (λz=>nomatch z) h
 | @dT a k d=>cases (show u=Ξ a from r);let⟨_,_,g,_,o,D,F,f,j,_⟩:=(show aP X.prog X.w H s.heap a (.dT k) from I.hok a _ d);exact Sd UG I.kIn #[o,f,j.1] e (λz=>nomatch z) h
 | @ins a C N P d m G L l M=>cases (show u=Ξ a from r);let⟨R,O,_⟩:=Kg I.hok d;let⟨S,J,_⟩:=O.look;exact Sd (PySem.W.kitx_own (m.get _) m.hd G L l M) I.kIn J e (λz=>nomatch z) h
end
structure bY(k:Nat)(A:bU):Prop where
 hd:A.handled=θ
 dp:A.depth+3*k+5 < recursionLimit
 un:A.units+16*k+200 < cLine
def bY.mono(r:bY k A)(h:j<=k):bY j A:=#[r.hd,by let:=r.dp;omega,by let:=r.un;omega]
theorem bY.deeper(r:bY (k+1) A)(e:Env):bY k (A.deeper e):=
 #[r.hd,by let:=r.dp;show A.depth+1+3*k+5 < _;omega,by let:=r.un;show A.units+3+16*k+200 < _;omega]
def Y2{A:bU}:(A.under$ .builtin "type.__call__" #[.ref C::u,k]).depth=A.depth+1:=by
 first |rfl |simp [Around.under,Code.weight,Code.isCreation,Code.isGuard,Code.isCaller,Code.frames,Code.isFrame,guardIds]
def Y3{A:bU}:(A.under$ .builtin "type.__call__" #[.ref C::u,k]).units=A.units+1:=by
 first |rfl |simp [Around.under,Code.cUnits,Code.frames,Code.isFrame]
def bY.make(r:bY (k+1) A)(C:η)(u:tz ζ)(K:tz (ρ×ζ)):bY k (A.under$ .builtin "type.__call__" #[.ref C::u,K]):=
 #[r.hd,by let:=r.dp;rw[Y2];omega,by let:=r.un;rw[Y3];omega]
theorem bY.depth(r:bY k A):A.depth < recursionLimit:=by let:=r.dp;omega
theorem bY.units(r:bY k A):A.units+64 < cLine:=by let:=r.un;omega
def aS:TA:=λ_ H Q=>Q [] H
def ap(t:TE)(T:TA):TA:=λa H Q=>t a H λx h=>T a h λX b=>Q (x::X) b
section
variable {X:Cx}{e:dg}{es:tz dg}{te:TE}{t:TA}{pos:Pos}
def jb:PA X [] aS:=λ_ _ _ _ H Q I h=>Rh #[[],H,I,.nil,h]
def ja(b:PE X e te)(c:PA X es t)(d:↥(Δ (e::es) X.env=(ν,eval e X.env)::Δ es X.env)):PA X (e::es) (ap te t):=by intro pos p s a H Q I h;rw[d];show π _ _ (spliced ((ν,eval e X.env)::fy pos (Δ es X.env))) _ _ s;erw[PH$ aV (b p s a H _ I h) λu S z=>?_];let⟨x,f,i,r,q⟩:=z;exact aV (c pos p S a f _ i q) λU m #[g,j,k,R,l]=>#[x::g,j,k,.cons r R,l]
def cp(t:TA):TE:=λa H Q=>t a H λx h=>x.length<=τ/\∀p,h p=θ->Q (.ref p) (af h p$ .tup x)
def oj(t:TA):TE:=λa H Q=>t a H λx h=>x.length<=τ/\∀p,h p=θ->Q (.ref p) (af h p$ .lst x)
def ji{x}(h:PA X es t):PE X (.Tuple es x pos) (cp t):=by intro p s c H Q I d;refine wpAny_Tuple_spliced$ aV (h pos p s c H _ I d) λU S #[f,a,i,r,z,q]=>#[by rwa[<- r.length],?_];let g:a S.heap.objs.size=θ:=i.hok.fresh (NQ _);refine#[.ref S.heap.objs.size,af a S.heap.objs.size$ .tup f,i.laid (t':=S.toks) (λb u e=>NM _ e) (NQ _) ?_,Z,q _ g];exact#[z,U,r,#[_,NV _ Z,Z,_,Z]]
def jE(h:PA X es t):PE X (.List es pos) (oj t):=by intro p s c H Q I d;refine wpAny_List_spliced$ aV (h pos p s c H _ I d) λU S #[x,a,i,r,z,q]=>#[by rwa[<- r.length],?_];let f:a S.heap.objs.size=θ:=i.hok.fresh (NQ _);refine#[.ref S.heap.objs.size,af a S.heap.objs.size$ .lst x,i.laid (t':=S.toks) (λb u e=>NM _ e) (NQ _) ?_,Z,q _ f];exact#[z,U,0,r,NV _ Z]
end
abbrev Sp:=tz V->Hp->VK->XK->Prop
abbrev si:=tz Env->Hp->ι->XK->ζ->ι->Prop
structure oF(P:ψ)(w:bF)(K:β)(mg:ρ->tT ζ)(base:cJ)(A:bU)(outer:tz Env)(s:ι)(H:Hp):Prop where
 frames:A.frames=δ outer
 mod:Mod K mg base
 bs:∀b o,base.get? b=δ o->s.heap.get? b=δ o/\H b=θ
 bsz:base.objs.size<=s.heap.objs.size
 funs:s.heap.FunFrames base outer
 frf:∀b∈lO outer,H b=θ
 hok:fV P w H s.heap
 bare:AllBare s.gens
def CE(o:tz Env)(P:ψ)(w:bF)(H:Hp)(s:ι)(Q:VK)(u:ζ)(S:ι):Prop:=
 ∃v h,S.os=s.os/\AllBare S.gens/\Un (lO o) [] H h s.heap S.heap/\fV P w h S.heap/\aJ v u/\Q v h
def CR(C:si)(o:tz Env)(P:ψ)(w:bF)(H:Hp)(s:ι)(Q:VK)(E:XK)(r:Result)(S:ι):Prop:=
 match r with
 | .ok (.ret u)=>CE o P w H s Q u S
 | .ok _=>False
 | .error e=>C o H s E e S
structure ah(P:ψ)(w:bF)(K:β)(mg:ρ->tT ζ)(base:cJ)(CX:si)(k:Nat)(f:η)(fd:fJ)(ps:tz ρ)(sp:Sp):Prop where
 len:∀vs H Q E,sp vs H Q E->vs.length=ps.length
 run:∀(A:bU) (outer:tz Env) (s:ι) (H:Hp) (args:Args) (us:tz ζ) (vs:tz V) (Q:VK) (E:XK),bY k A->oF P w K mg base A outer s H->BindsTo s fd args (ps.zip us)->aD vs us->sp vs H Q E->
  kw (χ P w) A (.call (.ref f) args) (CR CX outer P w H s Q E) s
def oF.make{P:ψ}{K:β}(e:oF P w K m b A o s H)(C:η)(u:tz ζ)(k:tz (ρ×ζ)):
  oF P w K m b (A.under$ .builtin "type.__call__" #[.ref C::u,k]) o s H:=#[by first |exact e.frames | (simpa [Around.under,Code.envs,Code.isFrame,pushEnvs] using e.frames),e.mod,e.bs,e.bsz,e.funs,e.frf,e.hok,e.bare]
section
variable {X:Cx}{pins:tz (η×ge)}{σ:St}{H:Hp}{s s':ι}
def au.env0(I:au X pins σ H s):oF X.prog X.w X.K X.mg X.base X.A X.stack s H:=
 #[I.ok.frames,I.ok.mod,I.bs,N6 I.ok.bsz I.sz,I.stack,I.stkFree,I.hok,I.bare]
def au.after(I:au X pins σ H s)(h:CE X.stack X.prog X.w H s Q u s'):EP X pins σ Q u s':=by let⟨v,c,os,B,U,a,r,q⟩:=h;let⟨e,g,d,t,o⟩:=s';obtain rfl:o=s.os:=os;exact#[v,c,I.call (h':=e) (g':=g) (d':=d) (t':=t) (ch:=[]) U a B (λb z=>absurd z WN),r,q]
end
def eU(s:Sp)(d:tz V)(E:XK)(t:TA):TE:=λa H Q=>t a H λv h=>s (v++d) h Q E
inductive yH(C:η)(m:ρ)(f:Sp)(b:tz V)(E:XK)(t:TA)(g:St)(Q:VK)(x:V)(c:Hp):Prop
 |mk(a d e:_)(_:x= .ref a)(_:c a=δ (.ins C d e))(_:e.lookup m=θ)(_:t g c λvs H2=>f (x::(vs++b)) H2 Q E)
def yG(C:η)(m:ρ)(s:Sp)(d:tz V)(E:XK)(T:TE)(t:TA):TE:=λa H Q=>T a H (yH C m s d E t a Q)
def DC(C:η)(s:Sp)(D:tz V)(E:XK)(t:TA):TE:=λa H Q=>t a H λb h=>∀x d,h x=θ->h d=θ->d≠x->
 s (.ref x::(b++D)) (af (af h d$ .own x) x$ .ins C d []) (λv c=>v= .non/\Q (.ref x) c) E
def aE(K:β)(f:fJ)(p:tz ρ)(d:tz ζ):Prop:=
 ∀(s:ι) (u:tz ζ),K.In s.heap->(u++d).length=p.length->BindsTo s f #[u,[]] (p.zip$ u++d)
def aE.all{K:β}{p:tz ρ}(h:∀u:tz ζ,u.length=p.length->bindArgs f #[u,[]]=pure (p.zip u)):aE K f p []:=λs u _ H=>by rw[Op]at H ⊢;exact .of_eq$ h u H
def dC(C:si)(X:Cx)(E:XK):Prop:=∀(p:tz (η×ge)) (a:St) (H:Hp) (s:ι) (e:ζ) (S:ι),au X p a H s->C X.stack H s E e S->X.xe e S
section
variable {X:Cx}{CX:si}{k:Nat}{f C:η}{fd:fJ}{ps:tz ρ}{sp:Sp}{dvs:tz V}{ds:tz ζ}{E:XK}{x m:ρ}{p pos apos:Pos}{e o:dg}{es:tz dg}{ta:TE}{t:TA}
def Xe{us:tz ζ}{vs:tz V}(F:ah X.prog X.w X.K X.mg X.base CX k f fd ps sp)(d:bY k X.A)(g:aE X.K fd ps ds)(i:aD dvs ds)(j:dC CX X E)
  (I:au X a c H s) (r:aD vs us) (h:sp (vs++dvs) H Q E):π (χ X.prog X.w) X.A (call (.ref f) us) (EP X a c Q) X.xe s:=by
 let R:aD (vs++dvs) (us++ds):=r.append i;let l:(us++ds).length=ps.length:=by rw[<- R.length];exact F.len _ _ _ _ h
 erw[Uz$ Rx (F.run X.A X.stack s H #[us,[]] (us++ds) (vs++dvs) Q E d I.env0 (g s us I.kIn l) R h) λr S b=>?_];cases r with
 |error e=>exact j a c H s e S I b
 |ok n=>
  cases n with
  |ret u=>exact I.after b
  |next |brk |cont=>exact False.elim b
def kW(F:ah X.prog X.w X.K X.mg X.base CX k f fd ps sp)(c:bY k X.A)(d:Gl X x)(g:X.mg x=↑f)(j:iu X.K (.ref f)=μ)(l:aE X.K fd ps ds)(n:aD dvs ds)(u:dC CX X E)
  (v:PA X (e::es) t) (a:↥((x==("__debug__":ρ))=ν)) (y:↥(Δ (e::es) X.env=(ν,eval e X.env)::Δ es X.env)) (b:↥((fy pos$ Δ es X.env).any (·.1)=ν)):
  PE X (.Call (.Name x p) (e::es) [] pos) (eU sp dvs E t):=by
 intro P s z H Q I h;erw[OP$ zZ I d g ?_ a];erw[TH (h₀:=X.base) I.ok.mod.kin j (aV (v pos P s z H _ I h) λU S #[B,D,i,r,q]=>#[i.kIn,?_]) y b];exact Xe F c l n u i r q
def kf(v:PE X o ta)(c:pw X.K C)(g:bu X.K C m f)(F:ah X.prog X.w X.K X.mg X.base CX k f fd ps sp)(y:bY k X.A)(B:aE X.K fd ps ds)(D:aD dvs ds)(G:dC CX X E)(J:PA X (e::es) t)
  (b:↥(Δ (e::es) X.env=(ν,eval e X.env)::Δ es X.env)) (d:↥((fy pos$ Δ es X.env).any (·.1)=ν))
  (L:↥(eval (.Call (.Attribute o m apos) (e::es) [] pos) X.env=(do
   let O <- eval o X.env
   standAt apos.atName
   let (f,first) <- lu [O] (getMethod O m pl)
   callWith pos f first (fy pos$ Δ (e::es) X.env) (backToKw pos$ keywordEach [] X.env)))):
  PE X (.Call (.Attribute o m apos) (e::es) [] pos) (yG C m sp dvs E ta t):=by
 intro P s i H Q I h;erw[Sw (pl:=pl) (aV (v P s i H _ I h) λu S z=>?_) L];let⟨x,M,j,R,a,W,Y,N,T,l,q⟩:=z;subst N;obtain rfl:u=Ξ a:=R;erw[K9 j T c g l ?_];erw[TH (first:=[.ref a]) (h₀:=X.base) I.ok.mod.kin g.kp (aV (J pos P S i M _ j q) λus s2 #[vs,H2,n,r,U]=>#[n.kIn,?_]) b d];exact Xe (us:=.ref a::us) (vs:=.ref a::vs) F y B D G n (.cons Z r) U
def wV(d:PE X o ta)(c:pw X.K C)(b:bu X.K C m f)(F:ah X.prog X.w X.K X.mg X.base CX k f fd ps sp)(g:bY k X.A)(j:aE X.K fd ps ds)(n:aD dvs ds)(r:dC CX X E)
  (v:↥(eval (.Call (.Attribute o m apos) [] [] pos) X.env=(do
   let O <- eval o X.env
   standAt apos.atName
   let (f,first) <- lu [O] (getMethod O m pl)
   callWith pos f first (fy pos$ Δ [] X.env) (backToKw pos$ keywordEach [] X.env)))):
  PE X (.Call (.Attribute o m apos) [] [] pos) (yG C m sp dvs E ta aS):=by
 intro P s y H Q I h;erw[Sw (pl:=pl) (aV (d P s y H _ I h) λu S z=>?_) v];let⟨x,G,i,R,a,J,L,B,D,l,q⟩:=z;subst B;obtain rfl:u=Ξ a:=R;erw[K9 i D c b l ?_];exact Td (first:=[.ref a]) i.kIn b.kp$ Xe (us:=[.ref a]) (vs:=[.ref a]) F g j n r i (.cons Z .nil) q
structure Mk(K:β)(C f:η):Prop where
 makes:PySem.W.makesIn K C=μ
 init:findIn K (.ref C) "__init__"=δ (↑f)
 fn:isFn K (.ref f)=μ
 kp:iu K (.ref C)=μ
def X1{us:tz ζ}(M:Mk X.K C f)(F:ah X.prog X.w X.K X.mg X.base CX k f fd ps sp)(l:bY (k+1) X.A)(n:aE X.K fd ps ds)(q:aD dvs ds)
  (y:dC CX X E) (I:au X b c H s) (r:aD g us)
  (h:∀x d,H x=θ->H d=θ->d≠x->sp (.ref x::(g++dvs)) (af (af H d$ .own x) x$ .ins C d []) (λv z=>v= .non/\Q (.ref x) z) E):
  π (χ X.prog X.w) X.A (call (.ref C) us) (EP X b c Q) X.xe s:=by
 let j:=h (s.heap.objs.size+1) s.heap.objs.size (I.hok.fresh$ OR _) (I.hok.fresh$ NQ _) (N8$ Pb _);let i:=au.made (C:=C) I;let R:aD (tf (s.heap.objs.size+1)::(g++dvs)) (Ξ (s.heap.objs.size+1)::(us++ds)):=.cons Z (r.append q);let B:(Ξ (s.heap.objs.size+1)::us++ds).length=ps.length:=by let e:=R.length;rw[F.len _ _ _ _ j]at e;exact e.symm
 refine Uz (wg (f:=f) I.kIn M.makes M.init (beq_iff_eq.mp M.fn) (Rx (F.run _ X.stack _ _ #[Ξ (s.heap.objs.size+1)::us,[]] (Ξ (s.heap.objs.size+1)::(us++ds)) _ _ E (l.make C us [])
  (i.env0.make C us []) (n _ (Ξ (s.heap.objs.size+1)::us) i.kIn B) R j) λr S a=>?_))
 cases r with
 |error e=>exact y b c _ _ e S i a
 |ok D=>
  cases D with
  |ret u=>let⟨v,G,J,L,N,O⟩:=i.after a;subst N;exact#[L,#[tf$ s.heap.objs.size+1,G,J,Z,O]]
  |next |brk |cont=>exact False.elim a
def ZQ(M:Mk X.K C f)(F:ah X.prog X.w X.K X.mg X.base CX k f fd ps sp)(c:bY (k+1) X.A)(d:Gl X x)(g:X.mg x=↑C)(j:aE X.K fd ps ds)(l:aD dvs ds)(n:dC CX X E)
  (u:PA X (e::es) t) (a:↥((x==("__debug__":ρ))=ν)) (v:↥(Δ (e::es) X.env=(ν,eval e X.env)::Δ es X.env)) (b:↥((fy pos$ Δ es X.env).any (·.1)=ν)):
  PE X (.Call (.Name x p) (e::es) [] pos) (DC C sp dvs E t):=by
 intro P s y H Q I h;erw[OP$ zZ I d g ?_ a];erw[TH (h₀:=X.base) I.ok.mod.kin M.kp (aV (u pos P s y H _ I h) λU S #[z,B,i,r,q]=>#[i.kIn,?_]) v b];exact X1 M F c j l n i r q
def wU(M:Mk X.K C f)(F:ah X.prog X.w X.K X.mg X.base CX k f fd ps sp)(b:bY (k+1) X.A)(c:Gl X x)(d:X.mg x=↑C)(g:aE X.K fd ps ds)(i:aD dvs ds)(j:dC CX X E)
  (a:↥((x==("__debug__":ρ))=ν)):PE X (.Call (.Name x p) [] [] pos) (DC C sp dvs E aS):=by
 intro P s l H Q I h;erw[OP$ zZ I c d ?_ a];exact Td I.kIn M.kp$ X1 (us:=[]) M F b g i j I .nil h
end
structure aj(N P:tz ρ)(sc:hY):Prop where
 kind:sc.kind= .function
 co:sc.isCoroutine=ν
 gen:sc.isGenerator=ν
 nd:N.Nodup
 pre:N.take P.length=P
 par:∀x∈P,sc.names.lookup x=δ .local∨sc.names.lookup x=δ .cell
 nofree:∀y∈sc.names,y.2≠ .free
theorem QP{kindOf:ρ->tT NameKind}:∀{b:tz (ρ×ζ)} {m:ρ->tT ζ},(∀v,(x,v)∉b)->bindL kindOf b m x=m x
 | [],_,_=>rfl
 | (n,v)::r,m,h=>by
  unfold bindL;rw[QP λw H=>h w (On _ H)];split
  .let:x≠n:=by rintro rfl;exact h v Oe
   simp [this]
  .rfl
theorem QQ{kindOf:ρ->tT NameKind}:∀{b:tz (ρ×ζ)} {m:ρ->tT ζ},(∀v,(x,v)∉b)->bindC kindOf b m x=m x
 | [],_,_=>rfl
 | (n,v)::r,m,h=>by
  unfold bindC;rw[QQ λw H=>h w (On _ H)];split
  .rfl
  .let:x≠n:=by rintro rfl;exact h v Oe
   simp [this]
theorem QR{kindOf:ρ->tT NameKind}:∀{P:tz ρ} {V:tz ζ} {i:Nat} {m:ρ->tT ζ},P.Nodup->P[i]?=δ x->V[i]?=δ v->kindOf x=δ .local->
  bindL kindOf (P.zip V) m x=δ v
 | [],_,_,_,_,h,_,_ |_::_,[],_,_,_,_,h,_=>by simp at h
 |p::P,w::V,0,m,n,H,a,b=>by simp at H a;subst H;subst a;show bindL kindOf ((p,w)::P.zip V) m p=_;unfold bindL;rw[QP λv c=>(mU.mp n).1 (SU c).1,N0 b];simp
 |p::P,w::V,i+1,m,n,H,a,b=>by show bindL kindOf ((p,w)::P.zip V) m x=_;unfold bindL;exact QR (i:=i) (mU.mp n).2 (by simpa using H) (by simpa using a) b
theorem QS{kindOf:ρ->tT NameKind}:∀{P:tz ρ} {V:tz ζ} {i:Nat} {m:ρ->tT ζ},P.Nodup->P[i]?=δ x->V[i]?=δ v->kindOf x≠δ .local->
  bindC kindOf (P.zip V) m x=δ v
 | [],_,_,_,_,h,_,_ |_::_,[],_,_,_,_,h,_=>by simp at h
 |p::P,w::V,0,m,n,H,a,b=>by simp at H a;subst H;subst a;show bindC kindOf ((p,w)::P.zip V) m p=_;unfold bindC;rw[QQ λv c=>(mU.mp n).1 (SU c).1,N7 b];simp
 |p::P,w::V,i+1,m,n,H,a,b=>by show bindC kindOf ((p,w)::P.zip V) m x=_;unfold bindC;exact QS (i:=i) (mU.mp n).2 (by simpa using H) (by simpa using a) b
noncomputable def gW(N:tz ρ)(v:tz V):St:=v.map δ++kz (N.length - v.length) θ
noncomputable def gA(C:si)(P:ψ)(w:bF)(K:β)(mg:ρ->tT ζ)(base:cJ)(N:tz ρ)(q:ρ)(S:hY)(f:η)(c:ζ)(A:bU)(outer:tz Env)(s:ι)(H:Hp)(E:XK):Cx where
 prog:=P
 w:=w
 K:=K
 mg:=mg
 base:=base
 A:=A.deeper (envOfC q S s.heap.objs.size f c)
 N:=N
 s₀:=s
 H₀:=H
 env:=envOfC q S s.heap.objs.size f c
 outer:=outer
 stack:=envOfC q S s.heap.objs.size f c::outer
 ex:=[]
 calm:=μ
 fn:=λ_=>μ
 pn:=[]
 xe:=λe b=>π (χ P w) (A.deeper$ envOfC q S s.heap.objs.size f c) (leaving (envOfC q S s.heap.objs.size f c) e) (λ_ a=>C outer H s E e a) (λd a=>C outer H s E d a) b
def X2{s:hY}{n:Nat}(h:s.names.lookup x=δ .cell):∃c,(cellsFrom n s.names []).lookup x=δ c:=by let q:=Ub s.names n [] (.inl h);exact mI.mp q
def sZ{P:ψ}{K:β}{A:bU}{l:tz V}
  (S:aj N t d) (O:A.handled=θ) (j:oF P w K M B A o s H) (hl:l.length=t.length) (r:aD l U)
  (x:InCallC s s.heap.objs.size (bindL (envOfC Q d s.heap.objs.size f I).kindOf (t.zip U) λ_=>θ) (cellsFrom (s.heap.objs.size+1) d.names []) (bindC (envOfC Q d s.heap.objs.size f I).kindOf (t.zip U) λ_=>θ) T):
  au (gA Y P w K M B N Q d f I A o s H E) [] (gW N l) H T:=by
 let R:t.length<=N.length:=by let:=O1 ot S.pre;rw[Oh]at this;omega
 let⟨F,tk,rfl,J⟩:=x.done;let m:∀b:η,b∉(gA Y P w K M B N Q d f I A o s H E).ex:=λb z=>absurd (show b∈([]:tz η) from z) WN;refine#[#[j.mod,S.kind,Z,Z,NQ _,λy z c F g=>?_,λy hy=>?_,λy c _ h=>?_,λ_=>O,Around.frames_deeper j.frames,.inr #[Z,Z],λb z=>absurd z (m b),j.bs,j.bsz,λb _ _=>m b,λb z=>absurd z (m b),j.funs,j.frf],
  rfl,j.bare,Un.kept J,#[_,x.toInCall.ns,λi y v F g h3=>?_],λy c h=>#[_,x.cell y c h],j.hok.fresh$ NQ _,λy c h=>?_,λp C=>absurd (show p∈([]:tz (η×ge)) from C) WN,j.hok.kept J,?_]
 .exact name_of_addr x.apart (Pn F)$ Pn g
 .let hy:d.names.lookup y=δ .cell∨d.names.lookup y=δ .free:=hy;rcases hy with hy |hy
  .exact X2 hy
  .exact absurd Z$ S.nofree _$ Pn hy
 .exact P5$ x.above y c$ Pn h
 .let G:i < l.length:=by
   unfold gW at g;by_cases G:i < l.length
   .exact G
   .rw[PJ (by simpa using G)]at g;rw[Ur]at g;split at g<;>cases g
  let W:l[i]?=δ v:=by
   unfold gW at g;rw[PR (by simpa using G),Od]at g;cases e:l[i]? with
   |none=>rw[e]at g;cases g
   |some a=>rw[e]at g;cases g;rfl
  let⟨u,L,X⟩:=r.get W;let C:t[i]?=δ y:=by rw[<- S.pre,List.getElem?_take_of_lt WM];exact F
  let D:t.Nodup:=by rw[<- S.pre];exact S.nd.sublist$ PY _ _
  refine#[u,X,?_];rcases S.par y (Og C) with k |k
  .exact .inl #[k,QR D C L k]
  .let⟨c,e⟩:=X2 (n:=s.heap.objs.size+1) k;erw[.inr #[.inl k,c,e,?_]];let q:=x.cell y c e;rw[QS D C L (by show d.names.lookup y≠_;rw[k];decide)]at q;exact q
 .exact j.hok.fresh$ P5$ x.above y c$ Pn h
 .unfold gW;show _=N.length;rw[NP,NO,Ta];omega
def C8{P:ψ}{K:β}{kV:ζ}
    {G:Sp} (lk:K.lookup f=δ #[oc,od,.func$ rx name c p h a dV kV L pm an C ct,o1]) (M:codeIn K C c=μ) (S:aj N T a)
  (len:∀d H Q E,G d H Q E->d.length=T.length)
  (j:∀(A:bU) (O:tz Env) (s:ι) (H:Hp) (d:tz V) (Q:VK) (E:XK),bY k (A.deeper$ envOfC c a s.heap.objs.size f C)->G d H Q E->
   ∃t,nF (gA U P w K Y B N c a f C A O s H E) h t/\t { nx:=λ_ i=>Q .non i,rt:=Q } (gW N d) H):
  ah P w K Y B U (k+1) f (rx name c p h a dV kV L pm an C ct) T G:=by
 refine#[len,λA O s H a0 us d Q E R z hb r D=>?_];let hl:=len _ _ _ _ D;let KX:K.In s.heap:=z.mod.kin.keeps λb o e=>(z.bs b o e).1;let X:s.heap.NoLimit:=z.mod.nolimit.keeps λb o e=>(z.bs b o e).1;let l:∀y∈T.zip us,a.names.lookup y.1=δ .local∨(a.names.lookup y.1=δ .cell/\((cellsFrom (s.heap.objs.size+1) a.names []).lookup y.1).isSome=μ):=λ#[n,v] hy=>by
  rcases S.par n (SU hy).1 with q |q
  .exact .inl q
  .exact .inr #[q,Ub _ _ _$ .inl q]
 erw[codeAny_call_function R.depth (KX _ _ lk) Z S.co S.gen Z (PySem.W.codeRec_of KX M)$ hb _ _ _ _ ?_];erw[wpAny_newFunctionEnv_cells S.kind l λe1 he s1 x=>?_];subst he;refine#[X.keeps x.toInCall.keep,codeAny_func ?_];let⟨t,ht,hq⟩:=j A O s H d Q E (R.deeper _) D;let I:au (gA U P w K Y B N c a f C A O s H E) [] (gW N d) H s1:=sZ S R.hd z hl r x;erw[O2 (ht [] s1 (gW N d) H _ I hq) (λfl s' m=>?_) λe s' m=>m];let F:∀{g:St} {i:Hp} {v:V} {u:ζ},au (gA U P w K Y B N c a f C A O s H E) [] g i s'->aJ v u->Q v i->CE O P w H s Q u s':=
  λ{g i v u} J rv q=>#[v,i,J.os,J.bare,J.base,J.hok,rv,q]
 cases fl with
 |ret u=>let⟨v,g,i,J,rv,q⟩:=m;exact F J rv q
 |next=>let⟨g,i,J,q⟩:=m;exact F (v:=V.non) (u:=γ) J Z q
 |brk |cont=>let⟨_,_,_,q⟩:=m;exact False.elim q
section
variable {X:Cx}{x:ρ}{p pos:Pos}{e:dg}{es:tz dg}{t:TA}{id T:String}{r:tz V->Hp->VK->Prop}
def LQ(r:tz V->Hp->VK->Prop)(t:TA):TE:=λa H Q=>t a H λv h=>r v h Q
def jM(d:dM X (.builtin id) r)(f:Gl X x)(g:X.mg x=θ)(i:bootBuiltins x=δ (.builtin id))(j:PA X (e::es) t)(k:↥(x≠"__name__"))(a:↥((x==("__debug__":ρ))=ν))
  (l:↥(Δ (e::es) X.env=(ν,eval e X.env)::Δ es X.env)) (b:↥((fy pos$ Δ es X.env).any (·.1)=ν)):PE X (.Call (.Name x p) (e::es) [] pos) (LQ r t):=by
 intro P s c H Q I h;erw[OP$ zJ I f g i ?_ k a];exact Wv (aV (j pos P s c H _ I h) λu S #[v,m,n,R,q]=>d P S c m v u Q n R q) l b
def jN(d:dM X (.type T) r)(f:Gl X x)(g:X.mg x=θ)(i:bootBuiltins x=δ (.type T))(j:PA X (e::es) t)(k:↥(x≠"__name__"))(a:↥((x==("__debug__":ρ))=ν))
  (l:↥(Δ (e::es) X.env=(ν,eval e X.env)::Δ es X.env)) (b:↥((fy pos$ Δ es X.env).any (·.1)=ν)):PE X (.Call (.Name x p) (e::es) [] pos) (LQ r t):=by
 intro P s c H Q I h;erw[OP$ zJ I f g i ?_ k a];exact OF (aV (j pos P s c H _ I h) λu S #[v,m,n,R,q]=>d P S c m v u Q n R q) l b
end
end _L
namespace HT
open PySem PyProof.Rows
section
variable {prog:ψ}{w:bF}{A:bU}{E:ζ->ι->Prop}{s:ι}
def cat_tup{v W:tz ζ}{Q:ζ->ι->Prop}(m:IsTup s.heap t v.toArray)(o:IsTup s.heap b W.toArray)(i:v≠[])
  (p:W=[]->Q (.ref t) s) (q:W≠[]->Q (.ref s.heap.objs.size) { s with heap:=s.heap.push { cls:=.type "tuple",data:=.seq (v++W).toArray } })
  (g:v.length+W.length<=τ):π (χ prog w) A (binaryOp .Add (.ref t)$ .ref b) Q E s:=by
 obtain⟨⟨cls,D,data,j⟩,c,k,n,l⟩:=id m;obtain⟨⟨C,d,data2,S⟩,h,H,N,a⟩:=id o;simp only at k l H a;subst k l H a;let e:v.toArray++W.toArray=(v++W).toArray:=by simp
 by_cases f:W=[]
 .exact U3 #[_,c,Z] #[_,h,Z] Ua UN Sn Se (Sb _ _)
   (tuple_addW1 t b v.toArray W.toArray n N D d j S (by simpa using i) (by simp [f])) #[c,h,p f]
 .refine U3 #[_,c,Z] #[_,h,Z] Ua UN Sn Se (Sb _ _)
   (tuple_addW2 t b v.toArray W.toArray n N D d j S (by simpa using i) (by simpa using f) (by rwa[NR,NR])) #[c,h,?_]
  rw[e];exact q f
noncomputable def sIx(n d:Nat):tT Int->Nat
 |none=>d
 |some v=>if v < 0 then (v+(n:Int)).toNat else min v.toNat n
def sIx_none(n d:Nat):sIx n d θ=d:=rfl
def sIx_nat(n d k:Nat):sIx n d (δ (k:Int))=min k n:=by show(if (k:Int) < 0 then ((k:Int)+(n:Int)).toNat else min (k:Int).toNat n)=min k n;rw[N7 WM,OM]
def F'(n d:Nat)(H:d<=n)(o:tT Int):sIx n d o<=n:=by
 cases o with
 |none=>exact H
 |some v=>
  show(if v < 0 then (v+(n:Int)).toNat else min v.toNat n)<=n;by_cases h:v < 0
  .rw[N0 h];omega
  .rw[N7 h];exact Nat.min_le_right _ _
def ZR(v:Int)(n d:Nat):(if v < 0 then max (v+(n:Int)) 0 else min v (n:Int))=((sIx n d (δ v):Nat):Int):=by
 show(if v < 0 then max (v+(n:Int)) 0 else min v (n:Int))=(((if v < 0 then (v+(n:Int)).toNat else min v.toNat n):Nat):Int);by_cases h:v < 0
 .simp only[N0 h];omega
 .simp only[N7 h];omega
def Y4(lo h:tT Int)(n:Nat):ly lo h 1 (n:Int)=(((sIx n 0 lo:Nat):Int),((sIx n n h:Nat):Int)):=by
 let H:¬((1:Int) < 0):=by omega
 unfold ly;simp only[H,Pg];erw[Prod.ext ?_ ?_]
 .cases lo with
  |none=>rfl
  |some v=>exact ZR v n 0
 .cases h with
  |none=>rfl
  |some v=>exact ZR v n n
def Y5(i j:Nat):im (i:Int) (j:Int) 1=j - i:=by
 unfold im;let h:(1:Int) > 0:=by omega
 simp only[h,R4,Int.ediv_one];split<;>omega
def Qb{Q:tT Int->ι->Prop}(p:IsPart v o)(h:Q o s):π (χ prog w) A (Builtin.Slice.slicePartIndex v) Q E s:=by
 cases p with
 |none=>exact WC h
 |int i t=>exact slicePart_int h
def sliceApplied_gen{lo:tT Int}{Q:Int×Int×Nat->ι->Prop}(d:s.heap.IsSliceOf e v c .none)(p:IsPart v lo)(P:IsPart c b)
  (h:Q (((sIx n 0 lo:Nat):Int),1,sIx n n b - sIx n 0 lo) s):π (χ prog w) A (qs (.ref e)$ pure (n:Int)) Q E s:=by
 let⟨os,H,f,a⟩:=id d;unfold qs Builtin.Slice.sliceFields;erw[NJ$ NJ$ Oo H a (x:=v) Z$ NJ$ Oo H a (x:=c) Z$ NJ$ Oo H a (x:=.none) Z$ NN ?_];erw[NJ$ WC ?_];show π _ _ (if ((1:Int)==0)=μ then _ else _) _ _ s;rw[N7 WL];erw[NJ$ Qb p$ NJ$ Qb P$ NJ$ NN ?_];show π _ _ (match ly lo b 1 (n:Int) with | (lo,b)=>pure (lo,(1:Int),im lo b 1)) _ _ s;rw[Y4 lo b n];show π _ _ (pure (((sIx n 0 lo:Nat):Int),(1:Int),im ((sIx n 0 lo:Nat):Int) ((sIx n n b:Nat):Int) 1)) _ _ s;rw[Y5];exact NN h
def xg(X:Array ζ)(i k:Nat):((dN k).filterMap λ(m:Nat)=>X[((i:Int)+(m:Int)*1).toNat]?).toArray=((X.toList.drop i).take k).toArray:=by
 let e:(λ(m:Nat)=>X[((i:Int)+(m:Int)*1).toNat]?)=λm=>X[i+m]?:=by
  funext m;let:((i:Int)+(m:Int)*1).toNat=i+m:=by omega
  rw[this]
 rw[e];let:=pick_run X i k;rw[List.filterMap_map]at this;let a:((λx=>X[x]?) ∘ λx=>i+x)=λm=>X[i+m]?:=rfl;rw[a]at this;rw[this]
def getItem_tuple_cut{lo:tT Int}{Q:ζ->ι->Prop}(ht:IsTup s.heap t items)(hs:s.heap.IsSliceOf sl vl vu .none)(pl:IsPart vl lo)(pu:IsPart vu hi)
  (hw:¬(sIx items.size 0 lo=0/\sIx items.size items.size hi=items.size))
  (h:Q (.ref s.heap.objs.size) { s with heap:=s.heap.push { cls:=.type "tuple",data:=.seq ((items.toList.drop$ sIx items.size 0 lo).take$ sIx items.size items.size hi - sIx items.size 0 lo).toArray } })
  (hsz:items.size<=τ):π (χ prog w) A (getItem (.ref t)$ .ref sl) Q E s:=by
 let htake:sizeOk (.seq ((items.toList.drop$ sIx items.size 0 lo).take$ sIx items.size items.size hi - sIx items.size 0 lo).toArray):=by show((items.toList.drop$ sIx items.size 0 lo).take$ sIx items.size items.size hi - sIx items.size 0 lo).toArray.size<=τ;rw[NR,Oh,OE,Om];omega
 let hj:sIx items.size items.size hi<=items.size:=F' _ _ (NQ _) hi;let⟨os,hos,hcs,hds⟩:=id hs;let hTs:s.TypeIs (.ref sl) "slice":=#[os,hos,hcs];unfold getItem;try with_reducible erw[Oi ?_]
 first |refine NJ (NN ?_) |skip
 erw[NJ$ TQ ht.typeIs WL ?_];refine NJ (OA (name:=Str.ofString "__getitem__") ht.typeIs PM
  (Oy PM ht.typeIs entry_tuple_getitem ?_$ args_tuple_getitem _ _))
 show π _ _ (ra (.ref t) >>= _) _ _ s;erw[NJ$ tupleItemsOf_ ht ?_];erw[NJ$ PL hTs ?_];rw[N0 WL];erw[NJ$ sliceApplied_gen hs pl pu ?_];let hno:¬((((sIx items.size 0 lo:Nat):Int)==0&&(1:Int)==1&&(sIx items.size items.size hi - sIx items.size 0 lo)==items.size)=μ):=by intro q;rw[Pa,Pa]at q;let q1:((sIx items.size 0 lo:Nat):Int)=0:=eq_of_beq q.1.1;let q2:sIx items.size items.size hi - sIx items.size 0 lo=items.size:=eq_of_beq q.2;exact hw #[WM,WM]
 show π _ _ (if (((sIx items.size 0 lo:Nat):Int)==0&&(1:Int)==1&&(sIx items.size items.size hi - sIx items.size 0 lo)==items.size)=μ then _ else _) _ _ s;rw[N7 hno,xg];first
  |exact NJ (m:=ef _) (OB (NN #[_,Z,NN h]) htake)
  |exact NJ (m:=ef _) (OB (NJ (NN (NN #[_,Z,NN h]))) htake)
  |exact NJ (NJ (m:=ef _) (OB (NN (NN #[_,Z,NN h])) htake))
  |exact NJ (NJ (m:=ef _) (OB (NN #[_,Z,NN h]) htake))
end
end HT
namespace _L
open PySem PySem.Spec PyProof.Rows
abbrev TO:=St->Hp->(tT Int->Hp->Prop)->Prop
def PO(X:Cx)(e:tT dg)(t:TO):Prop:=
 ∀(p:tz (η×ge)) (s:ι) (a:St) (H:Hp) (Q:tT Int->Hp->Prop),au X p a H s->t a H Q->
  π (χ X.prog X.w) X.A (evalPart e X.env) (λu S=>∃o h,au X p a h S/\IsPart u o/\Q o h) X.xe s
def nC:TO:=λ_ H Q=>Q θ H
inductive yJ(Q:tT Int->Hp->Prop)(x:V)(a:Hp):Prop
 |mk(i:_)(_:x= .int i)(_:Q (δ i) a)
def om(t:TE):TO:=λa H Q=>t a H (yJ Q)
def Y6{N:tz Int}:∀{u:tz ζ},aD (N.map sn) u->IntsAre u N:=by
 induction N with
 |nil=>intro u r;rw[Us]at r;cases r;exact .nil
 |cons n N i=>
  intro u r;rw[O8]at r;cases r with
  |cons R a=>let⟨t,e⟩:=R;subst e;exact .cons n t$ i a
section
variable {X:Cx}{e:dg}{te:TE}{lo hi:tT dg}{tl th:TO}{pos p2:Pos}
def jT:PO X θ nC:=by intro p s a H Q I h;rw[evalPart_none];exact NN #[θ,H,I,.none,h]
def jI(h:PE X e te):PO X (δ e) (om te):=by intro p s a H Q I b;rw[evalPart_some];erw[aV (h p s a H _ I b) λu S z=>?_];let⟨x,c,d,r,f⟩:=z;let⟨i,rfl,q⟩:=f;let⟨t,rfl⟩:=r;exact#[δ i,c,d,.int i t,q]
def LL(X:Cx)(r:V->tT Int->tT Int->Hp->VK->Prop):Prop:=
 ∀(p:tz (η×ge)) (s:ι) (a:St) (H:Hp) (x:V) (v b c:ζ) (lo hi:tT Int) (S:η) (Q:VK),au X p a H s->aJ x v->s.heap.IsSliceOf S b c .none->IsPart b lo->IsPart c hi->r x lo hi H Q->
  ∃T id,typeLookup (.type T) "__getitem__"=pure (δ$ .builtin id)/\s.TypeIs v T/\π (χ X.prog X.w) X.A (getItem v$ .ref S) (EP X p a Q) X.xe s
def LS(r:V->tT Int->tT Int->Hp->VK->Prop)(te:TE)(tl th:TO):TE:=λa H Q=>te a H λx h=>tl a h λl b=>th a b λu c=>r x l u c Q
def jJ{r:V->tT Int->tT Int->Hp->VK->Prop}(g:LL X r)(i:PE X e te)(j:PO X lo tl)(k:PO X hi th):PE X (.Subscript e (.Slice lo hi θ p2) pos) (LS r te tl th):=by intro p s a H Q I h;erw[VL$ aV (i p s a H _ I h) λv m z=>?_];let⟨x,n,o,R,t⟩:=z;erw[wpAny_Slice$ aV (j p m a n _ o t) λc y #[l,B,C,P,D]=>aV (k p y a B _ C D) λd S z=>?_];let⟨u,f,E,F,G⟩:=z;rw[evalPart_none];erw[NN ?_];let J:au X p a f { S with heap:=S.heap.push { cls:=.type "slice",data:=.fields (ε [c,d,.none]) } }:=E.kept (t':=S.toks) λb O q=>NM _ q;let⟨T,id,K,L,M⟩:=g p { S with heap:=S.heap.push { cls:=.type "slice",data:=.fields (ε [c,d,.none]) } } a f x v c d l u S.heap.objs.size Q J R (TN ..) P F G;show π (χ X.prog X.w) X.A (subscriptTail e (.Slice lo hi θ p2) v$ .ref S.heap.objs.size) (EP X p a Q) X.xe { S with heap:=S.heap.push { cls:=.type "slice",data:=.fields (ε [c,d,.none]) } };exact tail_any (ops:=[.ref S.heap.objs.size,v]) L K M (by with_unfolding_all rfl)
noncomputable def aW(x:tz V)(lo hi:tT Int):tz V:=(x.drop$ HT.sIx x.length 0 lo).take (HT.sIx x.length x.length hi - HT.sIx x.length 0 lo)
def zw(x:tz V)(lo hi:tT Int):(aW x lo hi).length<=x.length:=by unfold aW;rw[Oh,OE];omega
inductive IU(K:β)(x:V)(c b:tT Int)(H:Hp)(Q:VK):Prop
 |mk(a d:_)(_:x= .ref a)(_:aC K H a d)(_:¬(HT.sIx d.length 0 c=0/\HT.sIx d.length d.length b=d.length))(_:∀p,H p=θ->Q (.ref p) (af H p (.tup (aW d c b))))
def Gp:LL X (IU X.K):=by
 intro p s n H x v V t lo hi S Q I R j P k h;let⟨a,d,rfl,l,m,q⟩:=h;cases R;let⟨i,r,f,g⟩:=I.tuple l;let c:i.toArray.size=d.length:=by rw[NR];exact r.length.symm
 refine#["tuple",_,PyProof.Rows.slot_tuple_getitem.lookup,f.typeIs,?_];refine HT.getItem_tuple_cut f j P k (by rwa[c]) ?_ (by rwa[c]);rw[c];refine#[.ref s.heap.objs.size,_,I.laid (t':=s.toks) (o:=.tup (aW d lo hi)) (λb O q=>NM _ q) (NQ _) ?_,Z,q _$ I.hok.fresh$ NQ _];exact#[N6 (zw d lo hi) g,_,(r.drop$ HT.sIx d.length 0 lo).take$ HT.sIx d.length d.length hi - HT.sIx d.length 0 lo,U' _ _]
inductive Do(K:β)(x y:V)(H:Hp)(Q:VK):Prop
 |mk(a b c d:_)(_:x= .ref a)(_:y= .ref b)(_:aC K H a c)(_:aC K H b d)(_:c≠[])(_:c.length+d.length<=τ)(_:d=[]->Q (.ref a) H)(_:d≠[]->∀p,H p=θ->Q (.ref p) (af H p (.tup (c++d))))
def aD.nil_iff(r:aD x u):u=[]↔x=[]:=by
 cases r with
 |nil |cons _ _=>simp
def Bm:fX X (binaryOp .Add) (Do X.K):=by intro p s A H x y v u Q I d f h;let⟨a,b,g,Y,rfl,rfl,j,k,l,c,m,n⟩:=h;cases d;cases f;let⟨t,R,P,_⟩:=I.tuple j;let⟨i,r,p2,_⟩:=I.tuple k;refine HT.cat_tup P p2 (λz=>l (R.nil_iff.mp z)) (λz=>#[.ref a,H,I,Z,m$ r.nil_iff.mp z]) (λz=>?_) (by rwa[<- R.length,<- r.length]);refine#[.ref s.heap.objs.size,_,I.laid (t':=s.toks) (o:=.tup (g++Y)) (λb O q=>NM _ q) (NQ _) ?_,Z,n (λw=>z (r.nil_iff.mpr w)) _$ I.hok.fresh$ NQ _];exact#[by rwa[NP],_,R.append r,U' _ _]
end
noncomputable def oO(n:Nat)(i:Int):tT Nat:=if 0<=i then (if i < n then δ i.toNat else θ) else if -(n:Int)<=i then δ (i+n).toNat else θ
noncomputable def eM{a:Type}(x:tz a)(i:Int):tT a:=(oO x.length i).bind λj=>x[j]?
def ZS(h:oO n i=δ j):seqIndex? i n=δ j/\j < n/\ -(n:Int)<=i/\i < n:=by
 unfold oO at h;by_cases a:0<=i
 .rw[N0 a]at h;by_cases H:i < n
  .rw[N0 H]at h;let e:i.toNat=j:=OG h;exact#[by rw[Vo a H,e],WM,WM,H]
  .rw[N7 H]at h;cases h
 .rw[N7 a]at h;by_cases H: -(n:Int)<=i
  .rw[N0 H]at h;let e:(i+n).toNat=j:=OG h;exact#[by rw[U1 WM H,e],WM,H,WM]
  .rw[N7 H]at h;cases h
def Xp{a:Type}{x:tz a}{v:a}(h:eM x i=δ v):∃j,seqIndex? i x.length=δ j/\x[j]?=δ v/\j < x.length/\ -(x.length:Int)<=i/\i < x.length:=by
 unfold eM at h;cases e:oO x.length i with
 |none=>rw[e]at h;cases h
 |some j=>rw[e]at h;let⟨H,b,c,d⟩:=ZS e;exact#[j,H,h,b,c,d]
def jK{a:Type}{x:tz a}{j:Nat}{v:a}(h:x[j]?=δ v):eM x (j:Int)=δ v:=by
 let H:j < x.length:=(ξ.mp h).1;let e:oO x.length (j:Int)=δ j:=by unfold oO;rw[N0 WM,N0 WM];simp
 unfold eM;rwa[e]
def Am(b:dg):Prop:=∀o i,subscripted b ν o i=operate [o,i] (getItem o i)
def Hj(X:Cx)(r:R2):Prop:=
 ∀(a S:dg) (p:tz (η×ge)) (s:ι) (b:St) (H:Hp) (x y:V) (v u:ζ) (Q:VK),au X p b H s->aJ x v->aJ y u->r x y H Q->
  subscripted S ν v u=operate [v,u] (getItem v u)->π (χ X.prog X.w) X.A (subscriptTail a S v u) (EP X p b Q) X.xe s
def Mb(X:Cx)(id:String)(r:V->tz V->Hp->VK->Prop):Prop:=
 ∀(p:tz (η×ge)) (s:ι) (a:St) (H:Hp) (x:V) (b:tz V) (v:ζ) (u:tz ζ) (Q:VK),au X p a H s->aJ x v->aD b u->r x b H Q->
  π (χ X.prog X.w) X.A (call (.builtin id) (v::u)) (EP X p a Q) X.xe s
section
variable {X:Cx}{a b:dg}{ta tb:TE}{pos:Pos}
def jr{r:R2}(c:Hj X r)(d:PE X a ta)(e:PE X b tb)(f:Am b):PE X (.Subscript a b pos) (eV r ta tb):=by intro p s g H Q I h;exact VL$ DR d e I h λv u S x y i j R k q=>c a b p S g i x y v u Q j R k q (f _ _)
inductive lJ(K:β)(x y:V)(H:Hp)(Q:VK):Prop
 |mk(p a i v:_)(_:x= .ref p)(_:y= .int i)(_:aH K H p a)(_:eM a i=δ v)(_:Q v H)
inductive cR(K:β)(x y:V)(H:Hp)(Q:VK):Prop
 |mk(p a i v:_)(_:x= .ref p)(_:y= .int i)(_:aC K H p a)(_:eM a i=δ v)(_:Q v H)
inductive Bz(x y:V)(H:Hp)(Q:VK):Prop
 |mk(z i c:_)(_:x= .str z)(_:y= .int i)(_:z.length<=τ)(_:eM z.cps.toList i=δ c)(_:Q (.str #[(ε [c])]) H)
def jv:Hj X (lJ X.K):=by
 intro V S P s k H x y v u Q I n o h l;let⟨p,L,i,z,rfl,rfl,A,B,q⟩:=h;cases n;let⟨t,rfl⟩:=o;let⟨d,r,e,M⟩:=I.list A;let⟨j,c,C,N,D,F⟩:=Xp B;let⟨w,E,R⟩:=r.get C;let G:=r.length;let O:=fh;let f:EP X P k Q w s:=#[z,H,I,R,q];by_cases m:0<=i
 .let g:i.toNat=j:=by rw[Vo m F]at c;exact OG c
  exact item_listR e.isList m WM (by rw[g];simpa using E) f l
 .let g:(i+(d.toArray.size:Int)).toNat=j:=by rw[U1 WM D]at c;rw[NR,<- G];exact OG c
  exact U0 (x:=w) e.isList.typeIs slot_list_getitem.lookup
   (wpAny_getItem_list_neg (Q:=λr J=>r=w/\EP X P k Q r J) e.isList WM (by rw[NR]<;>omega) WM (by rw[g];simpa using E) #[Z,f]) l
def jL:Hj X (cR X.K):=by
 intro V S P s c H x y v u Q I e g h k;let⟨p,D,i,z,rfl,rfl,l,m,q⟩:=h;cases e;let⟨t,rfl⟩:=g;let⟨n,r,d,F⟩:=I.tuple l;let⟨j,o,A,G,J,L⟩:=Xp m;let⟨w,E,R⟩:=r.get A;let B:=r.length;let M:=fh;let f:EP X P c Q w s:=#[z,H,I,R,q];exact U0 (x:=w) d.typeIs slot_tuple_getitem.lookup
  (getItem_tuple (j:=j) (Q:=λr C=>r=w/\EP X P c Q r C) d WM WM (by rwa[NR,<- B]) (by simpa using E) #[Z,f]) k
def KJ:Hj X Bz:=by
 intro V S p s o H x y v u Q I r R h e;let⟨z,i,c,rfl,rfl,w,f,q⟩:=h;let⟨t,rfl⟩:=r;let⟨T,rfl⟩:=R;let⟨j,d,g,A,k,l⟩:=Xp f;let m:z.cps.toList.length=z.length:=by simp [Str.length]
 rw[m]at d k l;let B:=fh;exact tail_any (typeIs_str s z t) slot_str_getitem.lookup (getItem_str (c:=c) (by
  let E:decide (i < -(2 ^ 63:Int))=ν:=NW WM;let n:decide (i≥2 ^ 63)=ν:=NW WM;rw[E,n,Um]) (by rw[d];simpa using g) #[.str #[(ε [c])],H,I.tok _,#[_,Z],q]) e
def Y7(i:tz ζ)(n j:Nat)(u:ζ):ab (·.setIfInBounds j u) { cls:=.type "list",data:=.seq i.toArray n }={ cls:=.type "list",data:=.seq (i.set j u).toArray n }:=by simp [ab]
theorem au.lst(I:au X c d H s)(h:H p=δ (.lst x)):
  ∃(i:tz ζ) (n:Nat),aD x i/\s.heap.get? p=δ { cls:=.type "list",data:=.seq i.toArray n }/\x.length<=τ:=by
 let⟨z,i,n,r,e⟩:=I.hok p _ h;exact#[i,n,r,e,z]
def au.lstUpd{c i:tz ζ}{f:ge->ge}(I:au X d j H s)(h:H p=δ (.lst o))
  (k:s.heap.get? p=δ { cls:=.type "list",data:=.seq c.toArray n }) (g:f { cls:=.type "list",data:=.seq c.toArray n }={ cls:=.type "list",data:=.seq i.toArray N }) (r:aD y i) (l:y.length<=τ) (t:Nat):
  au X d j (af H p$ .lst y) { s with heap:=s.heap.update p f,toks:=t }:=by
 let e:(s.heap.update p f).get? p=δ { cls:=.type "list",data:=.seq i.toArray N }:=by rw[Heap.get?_update_self f k (by rw[g]<;>rfl),g]
 refine I.write (x:=p) (e:=p) (by rw[h];trivial) (.inl Z) (λb u m q=>(Heap.get?_update_other _ _$ Ne.symm m).trans q) #[_,e] ?_;exact#[l,i,N,r,e]
inductive re(o i v:V)(H:Hp)(Q:Hp->Prop):Prop
 |mk(p a k j:_)(_:o= .ref p)(_:i= .int k)(_:H p=δ (.lst a))(_:oO a.length k=δ j)(_:Q (af H p (.lst (a.set j v))))
def zQ:Ho X re:=by
 intro P s z H o i v O F u Q I R A B h;let⟨p,C,k,j,rfl,rfl,l,D,q⟩:=h;cases R;let⟨t,rfl⟩:=A;let⟨c,n,r,e,E⟩:=I.lst l;let⟨d,G,m,w⟩:=ZS D;let f:=r.length;let J:=fh;let x:au X P z (af H p$ .lst$ C.set j v) { s with heap:=s.heap.update p (ab (·.setIfInBounds j u)) }:=
  I.lstUpd l e (Y7 c n j u) (r.set B j) (by rw[SV];exact E) s.toks
 by_cases y:0<=k
 .let g:k.toNat=j:=by rw[Vo y w]at d;exact OG d
  exact PySem.W.ki_setAt e y WM (by rwa[NR,<- f]) (by rw[g];exact#[_,x,q])
 .let g:(k+(c.toArray.size:Int)).toNat=j:=by rw[U1 WM m]at d;rw[NR,<- f];exact OG d
  exact PySem.W.ki_setBack e WM (by rwa[NR,<- f]) WM (by rw[g];exact#[_,x,q])
def XD(lo H:tT Int)(n:Nat):(sliceBounds lo H θ n).1=((HT.sIx n 0 lo:Nat):Int)/\(sliceBounds lo H θ n).2.1=((HT.sIx n n H:Nat):Int)/\(sliceBounds lo H θ n).2.2=1:=by
 refine#[?_,?_,Z]
 .cases lo with
  |none=>simp [sliceBounds,HT.sIx]
  |some i=>
   simp only[sliceBounds,HT.sIx,Tt,show(1:Int) > 0 by decide,R4];by_cases h:i < 0
   .simp only[h,R4]<;>omega
   .simp only[h,Pg]<;>omega
 .cases H with
  |none=>simp [sliceBounds,HT.sIx]
  |some i=>
   simp only[sliceBounds,HT.sIx,Tt,show(1:Int) > 0 by decide,R4];by_cases h:i < 0
   .simp only[h,R4]<;>omega
   .simp only[h,Pg]<;>omega
def Qu(i:tz ζ)(lo h:tT Int):slicePick i.toArray lo h θ=((i.drop$ HT.sIx i.length 0 lo).take$ HT.sIx i.length i.length h - HT.sIx i.length 0 lo).toArray:=by let⟨H,c,d⟩:=XD lo h i.toArray.size;unfold slicePick;rw[H,c,d];simp only[sliceRange_one,pick_run,NR]<;>rfl
inductive BC(K:β)(x:V)(c b:tT Int)(H:Hp)(Q:VK):Prop
 |mk(a d:_)(_:x= .ref a)(_:aH K H a d)(_:∀p,H p=θ->Q (.ref p) (af H p (.lst (aW d c b))))
def kJ:LL X (BC X.K):=by intro p s m H x v V n lo e S Q I R g P i h;let⟨a,c,rfl,j,q⟩:=h;cases R;let⟨k,r,f,l⟩:=I.list j;let d:=r.length;refine#["list",_,slot_list_getitem.lookup,f.isList.typeIs,?_];refine wpAny_getItem_list_slice f.isList g P i .none WN ?_ (by rw[NR]<;>omega);rw[Qu,<- d];refine#[.ref s.heap.objs.size,_,I.laid (t':=s.toks) (o:=.lst (aW c lo e)) (λb O q=>NM _ q) (NQ _) ?_,Z,q _$ I.hok.fresh$ NQ _];exact#[N6 (zw c lo e) l,_,0,(r.drop$ HT.sIx c.length 0 lo).take$ HT.sIx c.length c.length e - HT.sIx c.length 0 lo,NV _ Z]
noncomputable def du:V->Bool
 | .non | .bl _ | .int _ | .str _=>μ
 |_=>ν
noncomputable def oB:V->V->Bool
 | .non,.non=>μ
 | .bl a,.bl b=>a==b
 | .bl a,.int b=>(if a then 1 else 0)==b
 | .int a,.bl b=>a==(if b then 1 else 0)
 | .int a,.int b | .str a,.str b=>a==b
 |_,_=>ν
def vq(R:aJ y u)(r:aJ x v)(F:du y=μ)(f:du x=μ):SeqAt.EqAt A s u v (oB y x):=by
 cases y with
 |non=>
  cases R;cases x with
  |non=>cases r;exact SeqAt.EqAt.same _
  |bl b=>cases r;exact SeqAt.EqAt.none_bool b
  |int b=>let⟨t,rfl⟩:=r;exact SeqAt.EqAt.none_int b t
  |str b=>let⟨t,rfl⟩:=r;exact SeqAt.EqAt.none_str b t
  |_=>exact absurd (show ν=μ from f) N5
 |bl a=>
  cases R;cases x with
  |non=>cases r;exact SeqAt.EqAt.bool_none a
  |bl b=>cases r;exact SeqAt.EqAt.bool_bool a b
  |int b=>let⟨t,rfl⟩:=r;exact SeqAt.EqAt.bool_int a b t
  |str b=>let⟨t,rfl⟩:=r;exact SeqAt.EqAt.bool_str a b t
  |_=>exact absurd (show ν=μ from f) N5
 |int a=>
  let⟨T,rfl⟩:=R;cases x with
  |non=>cases r;exact SeqAt.EqAt.int_none a T
  |bl b=>cases r;exact SeqAt.EqAt.int_bool a T b
  |int b=>let⟨t,rfl⟩:=r;exact SeqAt.EqAt.int_int a T b t
  |str b=>let⟨t,rfl⟩:=r;exact Uh a T b t
  |_=>exact absurd (show ν=μ from f) N5
 |str a=>
  let⟨T,rfl⟩:=R;cases x with
  |non=>cases r;exact SeqAt.EqAt.str_none a T
  |bl b=>cases r;exact SeqAt.EqAt.str_bool a T b
  |int b=>let⟨t,rfl⟩:=r;exact Ug a T b t
  |str b=>let⟨t,rfl⟩:=r;exact SeqAt.EqAt.str_str a T b t
  |_=>exact absurd (show ν=μ from f) N5
 |_=>exact absurd (show ν=μ from F) N5
noncomputable def oN(x:V)(u:ζ):Bool:=match u with
 | .none=>oB .non x
 | .bool b=>oB (.bl b) x
 | .int i _=>oB (.int i) x
 | .str z _=>oB (.str z) x
 |_=>ν
def vw(r:aJ y u)(f:du y=μ):oN x u=oB y x:=by
 cases y with
 |non |bl b=>cases r;rfl
 |int i |str z=>let⟨t,rfl⟩:=r;rfl
 |_=>exact absurd (show ν=μ from f) N5
theorem Jg:∀{c:tz V} {U:tz ζ},aD c U->c.all du=μ->U.any (oN x)=c.any λy=>oB y x
 |_,_,.nil,_=>rfl
 |y::c,u::U,.cons r t,f=>by rw[Ul,Pa]at f;rw[RW,RW,vw r f.1,Jg t f.2]
theorem qG(R:aJ x v)(F:du x=μ):∀{c:tz V} {U:tz ζ},aD c U->c.all du=μ->∀u∈U,SeqAt.EqAt A s u v (oN x u)
 |_,_,.nil,_=>λu hu=>by cases hu
 |y::c,u::U,.cons r t,f=>λd hu=>by
  rw[Ul,Pa]at f;rcases Θ.mp hu with rfl |hu
  .rw[vw r f.1];exact vq r R f.1 F
  .exact qG R F t f.2 d hu
def pQ(x:V)(c:tz V):Bool:=c.any λy=>oB y x
inductive IQ(K:β)(a:Bool)(x y:V)(H:Hp)(Q:VK):Prop
 |mk(p b:_)(_:y= .ref p)(_:aH K H p b∨aC K H p b)(_:du x=μ)(_:b.all du=μ)(_:Q (.bl (if a then !pQ x b else pQ x b)) H)
def zF:fX X (compareOp .In) (IQ X.K ν):=by
 intro d s j H x y v u Q I R e h;let⟨p,k,rfl,hq,F,f,q⟩:=h;cases e;rcases hq with hq |hq
 .let⟨i,r,P,g⟩:=I.list hq;refine SeqAt.in_listAt (oN x) P.isList (λw c=>qG R F r f w (by simpa using c)) #[.bl _,H,I,Z,?_];rwa[show i.toArray.any (oN x)=i.any (oN x) by simp,Jg r f]
 .let⟨i,r,P,g⟩:=I.tuple hq;refine SeqAt.in_tupleAt (oN x) P (λw c=>qG R F r f w (by simpa using c)) #[.bl _,H,I,Z,?_];rwa[show i.toArray.any (oN x)=i.any (oN x) by simp,Jg r f]
def Jy:fX X (compareOp .NotIn) (IQ X.K μ):=by
 intro d s j H x y v u Q I R e h;let⟨p,k,rfl,hq,F,f,q⟩:=h;cases e;rcases hq with hq |hq
 .let⟨i,r,P,g⟩:=I.list hq;refine SeqAt.notIn_listAt (oN x) P.isList (λw c=>qG R F r f w (by simpa using c)) #[.bl _,H,I,Z,?_];rwa[show i.toArray.any (oN x)=i.any (oN x) by simp,Jg r f]
 .let⟨i,r,P,g⟩:=I.tuple hq;refine SeqAt.notIn_tupleAt (oN x) P (λw c=>qG R F r f w (by simpa using c)) #[.bl _,H,I,Z,?_];rwa[show i.toArray.any (oN x)=i.any (oN x) by simp,Jg r f]
def jG:dM X (.builtin "len") (λx H Q=>∃p y,x=[.ref p]/\(aH X.K H p y∨aC X.K H p y)/\Q (.int y.length) H):=by
 intro d s g H x U Q I r h;let⟨p,y,rfl,hq,q⟩:=h;let⟨u,rfl,e⟩:=eW r;cases e;let j:=fh;rcases hq with hq |hq
 .let⟨i,R,P,f⟩:=I.list hq;let c:=R.length;exact Calls.call_len_list P.isList (by simp only[NR]<;>omega) #[.int y.length,H,I.tok _,#[s.toks+1,by rw[NR,c]],q]
 .let⟨i,R,P,f⟩:=I.tuple hq;let c:=R.length;exact len_tuple P (by simp only[NR]<;>omega) #[.int y.length,H,I.tok _,#[s.toks+1,by rw[NR,c]],q]
def Jz:dM X (.type "list") (λx H Q=>∃p y,x=[.ref p]/\(aH X.K H p y∨aC X.K H p y)/\∀l,H l=θ->Q (.ref l) (af H l$ .lst y)):=by
 intro P s z H x U Q I r h;let⟨p,y,rfl,hq,q⟩:=h;let⟨u,rfl,A⟩:=eW r;cases A;let f:∀(i:tz ζ),aD y i->y.length<=τ->∀(c:cJ) (C:Nat),(∀b O,s.heap.get? b=δ O->c.get? b=δ O)->
   c.get? s.heap.objs.size=δ { cls:=.type "list",dict:=θ,data:=.seq i.toArray C,slots:=(ε []) }->EP X P z Q (.ref s.heap.objs.size) { s with heap:=c }:=λi R d c C k e=>
  #[.ref s.heap.objs.size,_,I.laid (t':=s.toks) k (NQ _) (show aP X.prog X.w _ c _ (.lst y) from #[d,i,C,R,e]),Z,q _$ I.hok.fresh$ NQ _]
 rcases hq with hq |hq
 .let⟨i,R,j,d⟩:=I.list hq;let g:=R.length;let⟨o,m,t,n,v⟩:=j.isList;exact call_list_seq p (.inl Z) m t v (λc C k e=>f i R d c C k e) (by simp only[NR]<;>omega)
 .let⟨i,R,j,d⟩:=I.tuple hq;let g:=R.length;let⟨o,m,t,n,v⟩:=j;exact call_list_seq p (.inr Z) m t v (λc C k e=>f i R d c C k e) (by simp only[NR]<;>omega)
def jP:dM X (.type "tuple") (λx H Q=>∃p y,x=[.ref p]/\((aH X.K H p y/\∀l,H l=θ->Q (.ref l) (af H l$ .tup y))∨(aC X.K H p y/\Q (.ref p) H))):=by
 intro P s g H x U Q I r h;let⟨p,y,rfl,h⟩:=h;let⟨u,rfl,n⟩:=eW r;cases n;rcases h with ⟨d,q⟩ | ⟨d,q⟩
 .let⟨i,R,f,j⟩:=I.list d;let k:=R.length;refine call_tuple_list f.isList (λc t=>?_) (by simp only[NR]<;>omega);let m:au X P g H { s with heap:=c }:=I.kept (t':=s.toks) t;let v:au X P g (af H c.objs.size$ .tup y) { s with heap:=c.push { cls:=.type "tuple",data:=.seq i.toArray } }:=
   m.laid (t':=s.toks) (λb o e=>NM _ e) (NQ _) (show aP X.prog X.w _ _ _ (.tup y) from #[j,i,R,U' _ _])
  exact#[.ref c.objs.size,_,v,Z,q _$ m.hok.fresh$ NQ _]
 .let⟨i,R,f,j⟩:=I.tuple d;exact call_tuple_same f #[.ref p,H,I,Z,q]
def MT(K:β)(T:String)(x:V)(H:Hp):Prop:=match x with
 | .str _=>T="str"
 | .int _=>T="int"
 | .ref p=>(T="list"/\∃c,aH K H p c)∨(T="tuple"/\∃o,K.lookup p=δ o/\o.cls= .type "tuple"/\o.dict=θ)∨
   (T="dict"/\((∃k,H p=δ (.dK k))∨∃k,H p=δ (.dT k)))∨(T="set"/\∃S n,H p=δ (.set S n))
 |_=>False
def yQ(I:au X j u H s)(r:aJ x v)(d:MT X.K T x H):
  s.TypeIs v T/\∀a,v= .ref a->∃O,s.heap.get? a=δ O/\O.dict=θ:=by
 cases x with
 |str z=>let⟨t,rfl⟩:=r;cases (show T="str" from d);exact#[typeIs_str s z t,λ_ e=>nomatch e]
 |int i=>let⟨t,rfl⟩:=r;cases (show T="int" from d);exact#[typeIs_int s i t,λ_ e=>nomatch e]
 |ref p=>
  cases r;rcases d with ⟨rfl,w,l⟩ | ⟨rfl,o,h,m,f⟩ | ⟨rfl,h⟩ | ⟨rfl,S,n,h⟩
  .let⟨q,_,P,_⟩:=I.list l;refine#[P.isList.typeIs,λa e=>?_];cases e;let⟨o,n,e,c,f,_⟩:=P;exact#[o,e,f]
  .refine#[#[o,I.kIn p o h,m],λa e=>?_];cases e;exact#[o,I.kIn _ o h,f]
  .let z:∃o,s.heap.get? p=δ o/\o.ExactDict:=by
    rcases h with ⟨k,h⟩ | ⟨k,h⟩
    .let⟨_,_,_,_,o,_,_,e,E,_⟩:=I.hok p _ h;exact#[o,e,E]
    .let⟨_,_,_,_,o,_,_,e,E,_⟩:=I.hok p _ h;exact#[o,e,E]
   let⟨o,e,E⟩:=z;refine#[#[o,e,E.1],λa g=>?_];cases g;exact#[o,e,E.2.1]
  .let⟨o,_,_,_,e,E,_⟩:=I.hok p _ h;refine#[#[o,e,E.1],λa g=>?_];cases g;exact#[o,e,E.2.1]
 |_=>exact False.elim d
def MM(K:β)(T:String)(r:V->tz V->Hp->VK->Prop)(t:TE):TE:=λc H Q=>t c H λx h=>MT K T x h/\r x [] h Q
def ML(K:β)(T:String)(r:V->tz V->Hp->VK->Prop)(d:TE)(t:TA):TE:=λc H Q=>d c H λx h=>MT K T x h/\t c h λe f=>r x e f Q
variable {o e:dg}{es:tz dg}{to:TE}{t:TA}{name:ρ}{apos cpos:Pos}{T id:String}{r:V->tz V->Hp->VK->Prop}
def FE(P:PlainAttrs T)(S:Slot T name id)(f:typeOf (.builtin id)=pure (.type "method_descriptor"))(j:Mb X id r)(k:PE X o to)
  (c:↥(attributeBase o name X.env (eval o X.env)=eval o X.env)) (d:↥((apos.endLine==cpos.line)=μ)):PE X (.Call (.Attribute o name apos) [] [] cpos) (MM X.K T r to):=by
 intro p s g H Q I h;erw[wpAny_Call_method0_late c d$ aV (k p s g H _ I h) λv l z=>?_];let⟨x,m,i,R,n,q⟩:=z;let⟨u,w⟩:=yQ i R n;exact#[T,id,P,S,f,u,w,SH Z$ PySem.evalArgs_none$ j p l g m x [] v [] Q i R .nil q]
def jZ(P:PlainAttrs T)(S:Slot T name id)(i:typeOf (.builtin id)=pure (.type "method_descriptor"))(m:Mb X id r)(n:PE X o to)(q:PA X (e::es) t)
  (d:↥(attributeBase o name X.env (eval o X.env)=eval o X.env))
  (g:↥(((fy cpos$ Δ (e::es) X.env).all (λx=>!x.1)&&(backToKw cpos$ keywordEach [] X.env).all (λx=>x.1.isSome)
   &&decide ((e::es).length+([]:tz Keyword).length+(if ([]:tz Keyword).isEmpty then 0 else 1) < 30))=μ))
  (f:↥((apos.endLine==cpos.line)=μ)) (u:↥(Δ (e::es) X.env=(ν,eval e X.env)::Δ es X.env)) (c:↥((fy cpos$ Δ es X.env).any (·.1)=ν)):
  PE X (.Call (.Attribute o name apos) (e::es) [] cpos) (ML X.K T r to t):=by
 intro p s j H Q I h;erw[wpAny_Call_method_late d g f Z$ aV (n p s j H _ I h) λv w z=>?_];let⟨x,y,k,R,A,B⟩:=z;let⟨C,D⟩:=yQ k R A;refine#[T,id,P,S,i,C,D,?_];let l:=q cpos p w j y _ k B;rw[u]at l ⊢;refine SH (by show(ν||(fy cpos$ Δ es X.env).any (·.1))=ν;rw[c]<;>rfl)$ UE ?_;exact aV l λU E #[F,G,J,L,M]=>m p E j G x F v U Q J R L M
end
def Hk(X:Cx)(id:String)(r:V->tz V->Hp->VK->Prop):Prop:=
 ∀(p:tz (η×ge)) (s:ι) (a:St) (H:Hp) (x:V) (b:tz V) (v:ζ) (u:tz ζ) (Q:VK),au X p a H s->aJ x v->aD b u->r x b H Q->
  π (χ X.prog X.w) X.A (call (.builtin id) (v::u)) (EP X p a Q) X.xe s
theorem aD.one:∀{x:V} {U:tz ζ},aD [x] U->∃u,U=[u]/\aJ x u
 |_,_,.cons r .nil=>#[_,Z,r]
theorem aD.zero:∀{u:tz ζ},aD [] u->u=[]
 |_,.nil=>rfl
theorem aD.dropLast(h:aD x u):aD x.dropLast u.dropLast:=by
 induction h with
 |nil=>exact .nil
 |cons r t i=>
  cases t with
  |nil=>exact .nil
  |cons q T=>exact .cons r i
theorem aD.reverse(h:aD x u):aD x.reverse u.reverse:=by
 induction h with
 |nil=>exact .nil
 |cons r t i=>rw[Sf,Sf];exact aD.append i (.cons r .nil)
def Y8{c:Type}(l:tz c):l.eraseIdx (l.length - 1)=l.dropLast:=by
 induction l with
 |nil=>rfl
 |cons a r i=>
  cases r with
  |nil=>rfl
  |cons b r=>
   let e:(a::b::r).length - 1=((b::r).length - 1)+1:=by let h:(a::b::r).length=r.length+2:=rfl;let H:(b::r).length=r.length+1:=rfl;omega
   rw[e,List.eraseIdx_cons_succ,i];all_goals rfl
section
variable {X:Cx}{pins:tz (η×ge)}{σ:St}{H:Hp}{s:ι}{l b:η}{xs ys zs:tz V}
def au.lset{i its':tz ζ}{f:Array ζ->Array ζ}{t':Nat}(I:au X pins σ H s)(h:H l=δ (.lst xs))
  (e:s.heap.get? l=δ { cls:=.type "list",data:=.seq i.toArray n }) (a:f i.toArray=its'.toArray) (c:aD ys its') (d:ys.length<=τ):
  au X pins σ (af H l$ .lst ys) { s with heap:=s.heap.update l (ab f),toks:=t' }:=by
 let q:=PySem.IsL.update e f;rw[a]at q;refine I.write (x:=l) (e:=l) (by rw[h];exact trivial) (.inl Z) (λB u g j=>(Of s.heap (ab f)$ Ou g).trans j) #[_,q] ?_;exact#[d,its',_,c,q]
def au.lnew{t':Nat}(I:au X pins σ H s)(h:aD ys i)(a:ys.length<=τ):
  au X pins σ (af H s.heap.objs.size$ .lst ys) { s with heap:=s.heap.push { cls:=.type "list",data:=.seq i.toArray },toks:=t' }:=
 I.laid (λ_ _ q=>NM _ q) (NQ _) #[a,i,0,h,NV _ Z]
theorem au.fresh(I:au X pins σ H s):H s.heap.objs.size=θ:=I.hok.fresh (NQ _)
def au.lstM(I:au X pins σ H s)(h:H l=δ (.lst xs)):xs.length<=τ/\∃(i:tz ζ) (n:Nat),aD xs i/\xs.length=i.length/\s.heap.get? l=δ { cls:=.type "list",data:=.seq i.toArray n }:=by let⟨z,i,n,r,e⟩:=I.hok l _ h;exact#[z,i,n,r,r.length,e]
def gE(h:n<=τ):fz n=ν:=by unfold fz;exact NW WM
end
section
variable {X:Cx}
inductive mq(x:V)(a:tz V)(H:Hp)(Q:VK):Prop
 |mk(l b y:_)(_:x= .ref l)(_:a=[y])(_:H l=δ (.lst b))(_:b.length < τ)(_:Q .non (af H l (.lst (b++[y]))))
def jO:Hk X "list.append" mq:=by intro p s d H x V v U Q I R b h;let⟨l,f,y,rfl,rfl,a,g,q⟩:=h;cases R;let⟨u,rfl,c⟩:=b.one;let⟨z,i,n,r,j,e⟩:=I.lstM a;refine TF F.slot_list_append #[_,e,Z] F.entry_list_append (F.args_list_append_2 _ _) (PySem.list_append l i.toArray n u (by rw[NR];omega)) #[e,?_];refine#[.non,_,I.lset (its':=i++[u]) a e WN (r.append$ .cons c .nil) ?_,Z,q];rw[NP,Rg];omega
inductive p8(x:V)(a:tz V)(H:Hp)(Q:VK):Prop
 |mk(l b c d:_)(_:x= .ref l)(_:a=[.ref b])(_:H l=δ (.lst c))(_:H b=δ (.lst d))(_:c.length+d.length<=τ)(_:Q .non (af H l (.lst (c++d))))
def zG:Hk X "list.extend" p8:=by
 intro p s t H x V v U Q I R g h;let⟨l,b,w,y,rfl,rfl,f,j,A,q⟩:=h;cases R;let⟨u,rfl,k⟩:=g.one;cases k;let⟨z,a,n,r,B,e⟩:=I.lstM f;let⟨C,i,N,m,o,E⟩:=I.lstM j;let d:a.toArray.size+i.toArray.size<=τ:=by rw[NR,NR];omega
 let c:¬(!a.toArray.isEmpty&&fz (a.toArray.size+i.toArray.size))=μ:=by rw[gE d,Tg];exact N5
 refine TF Vv #[_,e,Z] Vk (Va _ _)
  (AutoSeq1.list_extend_list_list_0 l a.toArray n b i.toArray N c (by rw[NR];omega) WM) #[e,E,?_]
 refine#[.non,_,I.lset (its':=a++i) f e WN (r.append m) ?_,Z,q];rw[NP];omega
inductive IS(x:V)(a:tz V)(H:Hp)(Q:VK):Prop
 |mk(l b y:_)(_:x= .ref l)(_:a=[])(_:H l=δ (.lst b))(_:b[b.length - 1]?=δ y)(_:Q y (af H l (.lst b.dropLast)))
def Ew:Hk X "list.pop" IS:=by
 intro p s m H x V v U Q I R d h;let⟨l,o,y,rfl,rfl,c,f,q⟩:=h;cases R;let a:=d.zero;subst a;let⟨z,i,n,r,g,e⟩:=I.lstM c;let⟨u,j,k⟩:=r.get f;let b:i.toArray[i.toArray.size - 1]?=δ u:=by show i.toArray[i.length - 1]?=δ u;rwa[<- Po,<- g]
 refine TF F.slot_list_pop #[_,e,Z] F.entry_list_pop (F.args_list_pop_1 _) (MeetsSeq.list_pop_last l i.toArray n u b (by rw[NR];omega)) #[e,?_];refine#[y,_,I.lset (its':=i.dropLast) c e ?_ r.dropLast ?_,k,q]
 .show i.toArray.eraseIdxIfInBounds (i.toArray.size - 1)=i.dropLast.toArray;rw[NR,List.eraseIdxIfInBounds_toArray,Y8]
 .rw[List.length_dropLast];omega
inductive By(x y:V)(H:Hp)(Q:VK):Prop
 |mk(l b a c:_)(_:x= .ref l)(_:y= .ref b)(_:H l=δ (.lst a))(_:H b=δ (.lst c))(_:a.length+c.length<=τ)(_:∀p,H p=θ->Q (.ref p) (af H p (.lst (a++c))))
def qp:fX X (binaryOp .Add) By:=by
 intro p s m H x y v u Q I R c h;let⟨l,b,o,t,rfl,rfl,d,f,w,q⟩:=h;cases R;cases c;let⟨z,a,n,r,A,e⟩:=I.lstM d;let⟨B,i,N,g,j,E⟩:=I.lstM f;refine PySem.P.add_list e E ?_ (by rw[NR,NR];omega);let k:a.toArray++i.toArray=(a++i).toArray:=by simp
 rw[k];exact#[.ref _,_,I.lnew (t':=s.toks) (r.append g) (by rw[NP];omega),Z,q _ I.fresh]
end
section
variable {prog:ψ}{w:bF}{A:bU}{E:ζ->ι->Prop}{s:ι}
def uE(i I : tz ζ)(a c : Nat) : i.toArray.extract 0 a ++ I.toArray ++ i.toArray.extract c i.toArray.size = (i.take a ++ I ++ i.drop c).toArray := by
  apply Array.toList_inj.mp;first
    | (simp
       exact O0 WN)
    | simp [O0]
    | simp
def Y9{a c n:Nat}(hac:a<=c)(hc:c<=n):sliceBounds (δ (a:Int)) (δ (c:Int)) θ n=((a:Int),(c:Int),1):=by
 simp only[sliceBounds,Tt];let h1:¬((a:Int) < 0):=by omega
 let h2:¬((c:Int) < 0):=by omega
 simp only[h1,h2,Pg,show(1:Int) > 0 by decide,R4];congr 1
 .omega
 .congr 1;omega
set_option maxRecDepth 100000 in
def Qv{a c : Nat}{Q : Unit -> ι -> Prop}
    (e : s.heap.get? l = δ { cls := .type "list", data := .seq i n }) (y : s.heap.get? b = δ { cls := .type "list", data := .seq N I }) (q : l ≠ b)
    (C : s.heap.IsSliceOf p z B .none) (P : IsPart z (δ (a : Int))) (D : IsPart B (δ (c : Int))) (r : a <= c) (F : c <= i.size)
    (f : i.size + N.size <= τ) (h : Q () { s with heap := s.heap.update l (ab λX => X.extract 0 a ++ N ++ X.extract c X.size) }) :
    π (χ prog w) A (setItem (.ref l) (.ref p)$ .ref b) Q E s := by
  let t : s.heap.IsList l i := UD e;let G : s.heap.IsList b N := UD y;obtain ⟨os, d, u, g⟩ := id C;let k : s.TypeIs (.ref p) "slice" := #[os, d, u];let j : ¬ ((rawPart θ == rawInt 0) = μ) := N5;let H : eT (.ref l) (.ref b) = ν := by unfold eT;exact beq_eq_false_iff_ne.mpr q
  let o : (max (a : Int) (c : Int)).toNat = c := by omega
  let v : ((λX : Array ζ => X.extract 0 a ++ N ++ X.extract c X.size) i).size <= τ + 1 := by simp only [Ts, Array.size_extract];omega
  unfold setItem;try with_reducible erw[Oi ?_]
  first | refine NJ (NN ?_) | skip
  erw[NJ$ TQ t.typeIs WL ?_];refine NJ (OA (name := Str.ofString "__setitem__") t.typeIs VS
    (Oy VS t.typeIs entry_list_setitem ?_$ args_list_setitem _ _ _))
  show π _ _ (rb (.ref p) >>= _) _ _ s;erw[NJ ?_];unfold rb;erw[NJ$ Py k slice_no_index ?_];simp only [UJ, R4];erw[NN ?_];show π _ _ (typeOf (.ref p) >>= _) _ _ s;erw[NJ$ PL k ?_];first
    | rw [N7 WL]
    | erw[SO WL ?_]
  rw [listSliceParts_eq];erw[NJ$ NJ$ Oo d g (x := .none) Z$ NJ$ Uy .none ?_];rw [N7 j];erw[NJ$ Oo d g (x := z) Z$ NJ$ Uy P ?_];erw[NJ$ Oo d g (x := B) Z$ NJ$ Uy D$ NN ?_];first
    | simp only [H, N9, Pg]
    | erw[SO H ?_]
    | (dsimp only
       rw [N7 (by rw [H]; exact N5)])
  erw[NJ (m := rc (.ref b) "must assign iterable to extended slice") ?_];unfold rc;erw[NJ$ PL G.typeIs ?_];first
    | erw[WG WL ?_]
    | rw [N0 WL]
    | simp only [Sc, VY, R4]
  unfold Builtin.List.listItems;erw[NJ$ OY y Z$ NN ?_];erw[NJ$ NJ$ OY e Z$ NN ?_];erw[NJ$ SK ((sliceIndices_raw (δ (a : Int)) (δ (c : Int)) θ i.size WN).trans$ O1 (pure : Int × Int × Int -> Sem (Int × Int × Int))$ Y9 r F) ?_];show π _ _ (if ((1 : Int) == 1) = μ then _ else _) _ _ s;rw [N0 WL];erw[NJ$ PU ?_];first
    | simp only [gE f, N9, Pg]
    | erw[SO (gE f) ?_]
  first | refine NJ (NN ?_) | skip
  show π _ _ (updateSeq l (λX => X.extract 0 ((a : Int)).toNat ++ N ++ X.extract (max (a : Int) (c : Int)).toNat X.size) >>= _) _ _ s;rw [o, OM];erw[NJ$ Th (hz := N6 (Rr _ _) f) (_hz' := v) e Z ?_];erw[NJ$ Vn ?_];first
    | exact NJ (NN (NN #[.none, Z, NN h]))
    | exact NN #[.none, Z, NN h]
end
section
variable {X:Cx}
def uD{Q:Unit->ι->Prop}(I:au X p o H s)
  (k:H l=δ (.lst x)) (q:H b=δ (.lst y)) (f:l≠b) (t:s.heap.IsSliceOf u v B .none) (R:aJ (.int a) v) (D:aJ (.int c) B) (m:0<=a) (g:a<=c) (J:c<=x.length)
  (K:x.length+y.length<=τ) (h:∀S,au X p o (af H l$ .lst$ x.take a.toNat++y++x.drop c.toNat) S->Q () S):
  π (χ X.prog X.w) X.A (setItem (.ref l) (.ref u)$ .ref b) Q X.xe s:=by
 let⟨T,rfl⟩:=R;let⟨L,rfl⟩:=D;let⟨z,d,n,r,M,e⟩:=I.lstM k;let⟨N,i,O,E,F,G⟩:=I.lstM q;let⟨j,rfl⟩:=Uu m;let⟨C,rfl⟩:=Uu (Int.le_trans m g);simp only[OM]at h;refine Qv (a:=j) (c:=C) e G f t (.int _ _) (.int _ _) WM (by rw[NR];omega) (by rw[NR,NR];omega)$ h _ ?_;erw[I.lset (its':=d.take j++i++d.drop C) (t':=s.toks) k e ?_ (aD.append (aD.append (r.take _) E)$ r.drop _) ?_]
 .exact uE d i j C
 .rw[NP,NP,Oh,OE];omega
end
end _L
namespace Att
open PySem PySem.W PySem.Calls PyProof.Rows
def Kb{P:Params}:∀(N:tz Int) (v:tz ζ),WellAll P h v (N.map WData.int)->IntsAre v N:=by
 intro N;induction N with
 |nil=>intro v w;rw[Us]at w;cases w;exact .nil
 |cons n N i=>
  intro v w;rw[O8]at w;cases w with
  |cons a b=>cases a;exact .cons _ _$ i _ b
def uC{l:OpenLaw}(k:l.most=δ n){P:Params}
  (H:l.row.toRowW.claim.pre args=μ) (g:WellAll P h v args):
  ∃a V N,v=[Ξ a]/\args=[WData.list$ N.map WData.int]/\h.get? a=δ { cls:=.type "list",data:=.seq V.toArray }/\IntsAre V N/\N.length<=n:=by
 let i:WShape.hasAll [] args [.list .int]=μ:=(pre_splitW H).1;let j:l.pre.holds [] { args:=args }=μ:=(pre_splitW H).2;let⟨d,r,rfl,m,o⟩:=hasAllW_cons i;obtain rfl:=hasAllW_nil o;let⟨x,rfl,p⟩:=hasW_list m;let⟨N,rfl⟩:=items_int p;let b:N.length<=n:=by
  unfold OpenLaw.pre at j;let e:(WTm.not$ .lt (.lit$ .int (n:Int))$ .len$ .arg 0).holds [] { args:=[.list$ N.map .int] }=μ:=by let e:=(holds_andW j).1;rw[k]at e;exact e
  let f:=condW_of e (w_not$ w_lt w_lit$ w_len_list$ w_arg Z);rw[NO]at f;erw[SG λq=>?_];let Q:(n:Int) < ((N.length:Nat):Int):=by omega
  first
   | (rw[N4 Q]at f;exact absurd f WL)
   | (simp at f;omega)
 cases g with
 |cons w W=>
  cases W;cases w with
  |list s c=>exact#[_,_,N,Z,Z,s,Kb N _ c,b]
def uh(l:OpenLaw)(args:tz WData):l.row.toRowW.claim.post args (.bool μ) args=μ:=
 postW_of (r:=l.row.toRowW) (X:=(μ==μ))
  (show WShape.has [] (.bool μ) .bool=μ by first |rfl |decide |simp [WShape.has,WShape.arms,WShape.armsAll])
  (show(WTm.eq .res$ .lit$ .bool μ).value [] { args:=args,res:=δ (.bool μ),after:=args }=δ (.bool$ μ==μ) from w_eq_bool (w_res Z) w_lit) Z
def attach_call{l:OpenLaw}{y:bF->cJ->Prop}{d:DefRec}
  (x:l.most=δ n) (g:d.params.defaults=[])
  (call:∀(w:bF) (S s:ι) (m M:ρ->tT ζ) (F:η) (o:ge) (p C D:ζ) (a:η) (v:tz ζ) (N:tz Int),
   Ground q L [] z w S m M s.heap->y w s.heap->
   s.heap.get? F=δ o->o.data= .func (docDef d.name d.params d.body d.scope p C D)->s.heap.CodeRec C d.name->m d.name=↑F->
   s.heap.get? a=δ { cls:=.type "list",data:=.seq v.toArray }->IntsAre v N->N.length<=n->s.gens=(ε [])->
   kw (χ l.prog w) callerA (.call (.ref F) #[[.ref a],[]]) (λr e=>r= .ok (.ret$ .bool μ)/\OldK s.heap e.heap/\e.os=s.os/\AllBare e.gens) s):
  WalkO q L z y l.row.toRowW d [] (λf v=>PySem.call f v):=by
 intro w S s m M G Y F o p C D B kV E I i t j J A V W H u K k O;obtain rfl:B= .none:=Dflts.none t g;obtain rfl:kV= .none:=Dflts.noKw t;let⟨a,v,N,rfl,rfl,b,h,c⟩:=uC x H k;erw[enter_call$ Rx (call w S s m M F o p C D a v N G Y E (fd_plain I) i j b h c J) λr e P=>?_];let⟨rfl,Q,R,T⟩:=P;exact#[.inl #[.bool μ,.bool μ,[],Z,λ_=>Z,.bool μ,uh l _,λ_=>#[dr,λ_ U=>(nomatch U)]],Q,R,T]
end Att
namespace _L
open PySem PySem.Spec PyProof.Rows
theorem QT:∀{v:tz ζ} {N:tz Int},IntsAre v N->aD (N.map sn) v
 |_,_,.nil=>.nil
 |_,_,.cons n t h=>.cons #[t,Z] (QT h)
def DK(H:Hp):Prop:=∀b,H b=θ∨∃o x,H b=δ (.frz o$ .lst x)
def vZ{P:ψ}{K:β}{S:ι}{i:tz ζ}
  (Y:K.In S.heap) (l:S.heap.Ns Φ M) (c:S.heap.Ns builtinsNs mb) (Q:∀x:ρ,x≠"__name__"->mb x=bootBuiltins x) (p:S.heap.NoLimit) (hg:S.gens=(ε []))
  (J:S.heap.get? a=δ { cls:=.type "list",data:=.seq i.toArray }) (hi:IntsAre i O) (hl:O.length<=τ) (hr:bY k callerA)
  (F:∀f:cJ,K.In f->f.Ns Φ M->ah P w K M f CX k fa fd [x] sp) (j:∀(s:ι) (u:ζ),BindsTo s fd #[[u],[]] [(x,u)])
  (R:∀H:Hp,DK H->aH K H a (O.map sn)->sp [.ref a] H (λv _=>v= .bl μ) λ_ _ _=>False)
  (T:∀H e g,CX [] H S (λ_ _ _=>False) e g->False):
  kw (χ P w) callerA (.call (.ref fa) #[[.ref a],[]]) (λr g=>r= .ok (.ret$ .bool μ)/\OldK S.heap g.heap/\g.os=S.os/\AllBare g.gens) S:=by
 let rv:=QT hi;let L:=hi.length;let C:∀H:Hp,DK H->aH K H a (O.map sn)->fV P w H S.heap->(∀b,H b≠θ->b=a)->(H a≠θ->K.lookup a=θ)->
   kw (χ P w) callerA (.call (.ref fa) #[[.ref a],[]]) (λr g=>r= .ok (.ret$ .bool μ)/\OldK S.heap g.heap/\g.os=S.os/\AllBare g.gens) S:=by
  intro H hO hS t hA hK;let B:∀{b:η} {o:ge},S.heap.get? b=δ o->H b=θ->(md S.heap H).get? b=δ o:=λe n=>vO e n;let U:∀{b:η} {o:ge} {E:Array DictEntry} {y:Nat},S.heap.get? b=δ o->o.data= .dict E y->H b=θ:=λ{b o E y} e d=>by
   cases q:H b with
   |none=>rfl
   |some u=>have W:b=a:=hA b (by rw[q];simp);subst W;rw[J]at e;cases e;let d':Data.seq i.toArray _=Data.dict E y:=d;cases d'
  let N:∀{b:η} {m:ρ->tT ζ},S.heap.Ns b m->(md S.heap H).Ns b m:=λ{b m} #[o,E,y,e,d,r]=>#[o,E,y,B e$ U e d,d,r];let A:K.In (md S.heap H):=λb o e=>B (Y b o e) (by
   cases q:H b with
   |none=>rfl
   |some u=>
    let W:b=a:=hA b (by rw[q];simp);subst W;rw[hK (by rw[q];simp)]at e;cases e)
  let hM:Mod K M (md S.heap H):=#[A,N l,#[mb,N c,Q],let #[mc,h1,h2]:=p;#[mc,N h1,h2]];let e0:oF P w K M (md S.heap H) callerA [] S H:=#[Z,hM,λb o e=>AX e,Tu$ sX _ _,trivial,λb c=>absurd (show b∈([]:tz η) from c) WN,t,.of_eq hg];erw[Rx ((F _ A$ N l).run callerA [] S H #[[.ref a],[]] [.ref a] [.ref a] _ _ hr e0 (j S$ .ref a) (.cons Z .nil) (R H hO hS)) λr g h=>?_];cases r with
  |error e=>exact(T H e g h).elim
  |ok fl=>
   cases fl with
   |next |brk |cont=>exact False.elim h
   |ret u=>
    let⟨v,H',os,D,un,G,r',q⟩:=h;let q':v= .bl μ:=q;subst q';obtain rfl:u=oS μ:=r';refine#[Z,OldK.of_keep λb o e=>?_,os,D];cases q:H b with
    |none=>exact un.keep b o e q (by intro z;exact absurd (show b∈([]:tz η) from z) WN) WN
    |some u=>
     rcases hO b with z | ⟨ob,xs,z⟩
     .rw[q]at z;cases z
     .let z2:=un.frzs b ob _ z;let⟨e1,_⟩:=t b _ z;let⟨e2,_⟩:=G b _ z2;rw[e]at e1;cases e1;exact e2
 cases X:K.lookup a with
 |some o=>have e:=Y a o X;rw[J]at e;cases e;refine C (λ_=>θ) (λ_=>.inl Z) (.inr #[_,i.toArray,_,X,Z,Z,Z,by rw[NR,L];exact hl,by simpa using rv]) (λb u z=>by let I:(θ:tT HO)=δ u:=z;cases I) (λb z=>absurd Z z) λz=>absurd Z z
 |none=>
  refine C (λb=>if b=a then δ (.frz { cls:=.type "list",data:=.seq i.toArray }$ .lst$ O.map sn) else θ) (λb=>?_) (.inl$ .inr #[{ cls:=.type "list",data:=.seq i.toArray },N0 Z]) (λb u z=>?_) (λb z=>?_) λ_=>X
  .by_cases c:b=a
   .exact .inr #[_,_,N0 c]
   .exact .inl$ N7 c
  .by_cases c:b=a
   .let I:=(N0 c).symm.trans z;cases I;subst c;exact#[J,by rw[NO];exact hl,i,_,rv,J]
   .let I:=(N7 c).symm.trans z;cases I
  .by_cases c:b=a
   .exact c
   .exact absurd (N7 c) z
def Cz{l:rm}{n k:Nat}{E:bF->cJ->Prop}{d:DefRec}{K:Params->β}{CX:bF->si}{sp:bF->Sp}{x:ρ}
  (O:l.most=δ n) (r:n<=τ) (t:d.params.defaults=[]) (P:bY k callerA)
  (Q:∀(w:bF) (h:cJ),E w h->(K w.params).In h)
  (F:∀(w:bF) (m:ρ->tT ζ) (p:η) (h:cJ),(K w.params).In h->h.Ns Φ m->m d.name=↑p->
   ∃y:fJ,(∀(s:ι) (u:ζ),BindsTo s y #[[u],[]] [(x,u)])/\
    ∀B:cJ,(K w.params).In B->B.Ns Φ m->ah l.prog w (K w.params) m B (CX w) k p y [x] (sp w))
  (z:∀(w:bF) (H:Hp) (a:η) (N:tz Int),N.length<=n->DK H->aH (K w.params) H a (N.map sn)->sp w [.ref a] H (λv _=>v= .bl μ) λ_ _ _=>False)
  (A:∀(w:bF) (H:Hp) (s:ι) (e:ζ) (C:ι),CX w [] H s (λ_ _ _=>False) e C->False):
  PySem.W.WalkO q L XP E l.row.toRowW d [] (λf I=>PySem.call f I):=by
 erw[Att.attach_call O t λw J S m mb p o pm cd R a I N G Y ho hd U D j i c X=>?_];let M:=Q w _ Y;let⟨y,hb,hF⟩:=F w m p _ M G.T.g D;exact vZ M G.T.g G.T.b G.T.builtins G.T.nolimit X j i (N6 c r) P hF hb (λH hO hS=>z w H a N c hO hS) λH e C=>A w H S e C
noncomputable def bK(s:cc)(j:Nat):cc:=match s with
 | .ClassDef _ _ _ b _ _ _ _ _ _ _=>b.getD j (.Pass #[0,0,0,0])
 |_=>.Pass #[0,0,0,0]
noncomputable def bZ(s:cc):Arguments:=match s with
 | .FunctionDef _ a _ _ _ _ _ _ _ _=>a
 |_=>{ posonlyargs:=[],args:=[],vararg:=θ,kwonlyargs:=[],kw_defaults:=[],kwarg:=θ,defaults:=[] }
noncomputable def bJ(s:cc):tz cc:=match s with
 | .FunctionDef _ _ b _ _ _ _ _ _ _=>b
 |_=>[]
noncomputable def ae(s:cc):hY:=match s with
 | .FunctionDef _ _ _ _ _ _ S _ _ _=>S
 |_=>{ kind:=.function,names:=[],isGenerator:=ν,isCoroutine:=ν }
abbrev aF:si:=λ_ _ _ _ _ _=>False
abbrev E0:XK:=λ_ _ _=>False
def bg{X:Cx}:dC aF X E0:=λ_ _ _ _ _ _ _ h=>h.elim
structure aO(K:β)(x qual:ρ)(st:cc)(f:η)(fd:fJ):Prop where
 ex:∃(oc:ζ) (od:tT η) (kV doc pm:ζ) (an:tT η) (cdv ct:ζ) (osl:Array (tT ζ)),
  fd=rx x qual (bZ st) (bJ st) (ae st) .none kV doc pm an cdv ct/\K.lookup f=δ #[oc,od,.func fd,osl]/\codeIn K cdv qual=μ
 kp:iu K (.ref f)=μ
section
variable {P:ψ}{w:bF}{K:β}{mg:ρ->tT ζ}{base:cJ}
abbrev ti(K:β)(x:ρ):=aO K x x
def aO.ok{st:cc}{d:Sp}(F:aO K x a st f i)(S:aj N p (ae st))
  (b:∀(c:ζ) (A:bU) (o:tz Env) (s:ι) (H:Hp) (v:tz V) (Q:VK) (E:XK),bY k (A.deeper$ envOfC a (ae st) s.heap.objs.size f c)->d v H Q E->
   ∃t,nF (gA aF P w K mg base N a (ae st) f c A o s H E).nox (bJ st) t/\t { nx:=λ_ j=>Q .non j,rt:=Q } (gW N v) H)(len:∀v H Q E,d v H Q E->v.length=p.length:=by rintro _ _ _ _⟨⟩;subst_vars;rfl):ah P w K mg base aF (k+1) f i p d:=by
 let⟨m,n,kV,D,r,u,c,C,O,rfl,lk,e⟩:=F.ex;erw[C8 lk e S len λA o s H v Q E l g=>?_];let⟨t,h,q⟩:=b c A o s H v Q E l g;exact#[t,h.nox,q]
def aO.binds{st:cc}{p:tz ρ}(F:aO K x q st f b)
  (h:∀(kV d a:ζ) (A:tT η) (c C:ζ) (u:tz ζ),u.length=p.length->bindArgs (rx x q (bZ st) (bJ st) (ae st) .none kV d a A c C) #[u,[]]=pure (p.zip u)):aE K b p []:=by
 let⟨O,e,kV,d,a,A,c,C,o,rfl,lk,H⟩:=F.ex;exact .all$ h kV d a A c C
def vJ{st:cc}{kV:ζ}(l:K.lookup f=δ #[O,e,.func$ rx x q (bZ st) (bJ st) (ae st) .none kV d p a C b,o])
  (c:codeIn K C q=μ) (k:iu K (.ref f)=μ):aO K x q st f (rx x q (bZ st) (bJ st) (ae st) .none kV d p a C b):=#[#[O,e,kV,d,p,a,C,b,o,Z,l,c],k]
end
def zY(h:bY k A):A.units+1 < cLine:=Ph (UU (by decide:1<=64) _) h.units
section
variable {X:Cx}
noncomputable def pv(i:Nat){x:ρ}{p:Pos}(H:↥(X.N[i]?=δ x))(a:LN X.env.scope x:=by first |exact ω Z |exact fR (ω Z) |exact fR$ fR Z)(b:↥((x==("__debug__":ρ))=ν))
  (h:↥((x==("__classdict__":ρ))=ν)):PE X (.Name x p) (a9 i):=FH H a b h
end
def nL{A B:Prop}(h:B):if ν=μ then A else B:=by rwa[N7 N5]
def nM{A B:Prop}(h:A):if μ=μ then A else B:=by rwa[N0 Z]
def cg{c A B:Prop}[Decidable c](H:c->A)(a:¬c->B):if c then A else B:=by
 by_cases h:c
 .rw[N0 h];exact H h
 .rw[N7 h];exact a h
def aa(H h:Hp):Prop:=∀b o,H b=δ o->h b=δ o
def aa.refl(H:Hp):aa H H:=λ_ _ h=>h
def aa.trans(a:aa H d)(b:aa d e):aa H e:=λc o h=>b c o (a c o h)
def aa.free(e:aa H a)(h:a l=Option.none):H l=Option.none:=by
 cases q:H l with
 |none=>rfl
 |some o=>rw[e l o q]at h;cases h
def aa.seq{K:β}(e:aa H b)(h:aH K H a x):aH K b a x:=by
 rcases h with (h | ⟨o,h⟩) |h
 .exact .inl$ .inl$ e _ _ h
 .exact .inl$ .inr #[o,e _ _ h]
 .exact .inr h
section
variable {prog:ψ}{w:bF}{A:bU}{R:Result->ι->Prop}{s:ι}
abbrev CP:ζ->ι->Prop:=λ_ _=>False
theorem sM{iter:dg}(I:Nat->ι->Prop)
  (T:∀n s,I n s->π (χ prog w) A (pyNext B) (λr S=>match r with
   |none=>R (.ok .next) S
   |some v=>π (χ prog w) A (letOwnedTupleGo t B v) (λ_ b=>π (χ prog w) A (assign t e v) (λ_ d=>
     π (χ prog w) A (forIn l μ λc r=>if r=μ then do let o <- isTrue c e (eval c e);pure (ForInStep.yield o) else pure (ForInStep.yield r)) (λo a=>
      if o=μ then π (χ prog w) A (eval E e) (λx g=>
       π (χ prog w) A (call (.builtin "list.append") [p,x]) (λ_ i=>∃m,m < n/\I m i) CP g) CP a
      else ∃m,m < n/\I m a) CP d) CP b) CP S) CP s)
  (n:Nat) (h:I n s):
  kw (χ prog w) A (.compLoop (.ListComp E [#[t,iter,l,0]] k C) 0 B p e) R s:=by
 erw[codeAny_loop Z I (λn s D=>?_) n h];show π _ A ((compTurn (.ListComp E [#[t,iter,l,0]] k C) 0 B p e).onRaise (λx=>do noteFrame x e;theTreesLotGoes x)) _ _ s;erw[wpAny_noted ?_];rw[compTurn_list];erw[NJ$ Rk$ NJ$ O2 (T n s D) (λr S H=>?_) λ_ _ f=>f.elim];cases r with
 |none=>exact NN H
 |some v=>
  erw[NJ$ O2 H (λ_ b q=>?_) λ_ _ f=>f.elim];erw[NJ$ O2 q (λ_ d u=>NJ (O2 u (λo a j=>?_) λ_ _ f=>f.elim)) λ_ _ f=>f.elim];cases o with
  |false=>exact NN #[Z,j]
  |true=>exact NJ$ NJ$ O2 j (λx g y=>NJ (O2 y (λ_ i z=>NN (NN #[Z,z])) λ_ _ f=>f.elim)) λ_ _ f=>f.elim
end
noncomputable def bo(X:Cx)(s:hY)(M:tz ρ)(c:tz (ρ×η))(C:η)(f:tz η)(S:ι)(H:Hp):Cx where
 prog:=X.prog
 w:=X.w
 K:=X.K
 mg:=X.mg
 base:=X.base
 A:=X.A
 N:=M
 s₀:=S
 H₀:=H
 env:=compEnvC s c C X.env
 outer:=X.stack
 stack:=X.stack
 ex:=f
 fn:=λ_=>ν
 calm:=X.calm
 pn:=[]
 xe:=λ_ _=>False
noncomputable def GY(n:Nat)(I:tz Nat)(a:St):St:=kz n θ++I.map λi=>(a[i]?).getD θ
structure ba(N:tz ρ)(sc scope:hY)(M:tz ρ)(nT:Nat)(ix:tz Nat):Prop where
 cell:∀y∈scope.names,y.2≠ .cell
 kind:scope.kind= .function
 loc:∀y∈scope.names,y.2= .local->scope.names.lookup y.1=δ .local
 fre:∀y∈scope.names,y.2= .free->sc.names.lookup y.1=δ .cell
 nms:M.drop nT=ix.map λi=>N.getD i Str.empty
 len:M.length=nT+ix.length
 vis:∀i∈ix,scope.names.lookup (N.getD i Str.empty)=δ .free
theorem JA{E:Env}(c:E.scope.kind= .function):∀{N:tz (ρ×NameKind)} {y:ρ},N.lookup y=δ .free->E.kindOf y=δ .cell->
  (N.map λ(n,k)=>if (k==NameKind.free&&E.scope.kind== .function&&E.kindOf n==δ .cell) then (n,NameKind.cell) else (n,k)).lookup y=δ .cell
 | [],_,h,_=>by simp at h
 | (n,k)::r,y,h,b=>by
  let i:=@JA E c r y;show hJ y ((if (k==NameKind.free&&E.scope.kind== .function&&E.kindOf n==δ .cell)=μ then (n,NameKind.cell) else (n,k))::_)=_;cases H:y==n with
  |true=>
   simp only[O4,H]at h;cases h;let e:y=n:=by simpa using H
   subst e;rw[N0 (by rw[c,b];rfl)];simp [O4]
  |false=>
   simp only[O4,H]at h;by_cases a:(k==NameKind.free&&E.scope.kind== .function&&E.kindOf n==δ .cell)=μ
   .rw[N0 a];simp only[O4,H];exact i h b
   .rw[N7 a];simp only[O4,H];exact i h b
theorem Qc{E:Env}:∀{N:tz (ρ×NameKind)} {y:ρ} {K:NameKind},
  (N.map λ(n,k)=>if (k==NameKind.free&&E.scope.kind== .function&&E.kindOf n==δ .cell) then (n,NameKind.cell) else (n,k)).lookup y=δ K->
  ∃k,N.lookup y=δ k/\(K=k∨k= .free)
 | [],_,_,h=>by simp at h
 | (n,k)::r,y,K,h=>by
  let i:=@Qc E r y K;let h:hJ y ((if (k==NameKind.free&&E.scope.kind== .function&&E.kindOf n==δ .cell)=μ then (n,NameKind.cell) else (n,k))::_)=δ K:=h;cases a:y==n with
  |true=>
   refine#[k,by simp only[O4,a],?_];by_cases H:(k==NameKind.free&&E.scope.kind== .function&&E.kindOf n==δ .cell)=μ
   .right;simp only[Pa]at H;simpa using H.1.1
   .rw[N7 H]at h;simp only[O4,a]at h;left;exact(OG h).symm
  |false=>
   let b:hJ y (r.map λ(n,k)=>if (k==NameKind.free&&E.scope.kind== .function&&E.kindOf n==δ .cell) then (n,NameKind.cell) else (n,k))=δ K:=by
    by_cases H:(k==NameKind.free&&E.scope.kind== .function&&E.kindOf n==δ .cell)=μ
    .rw[N0 H]at h;simp only[O4,a]at h;exact h
    .rw[N7 H]at h;simp only[O4,a]at h;exact h
   let⟨c,e,q⟩:=i b;exact#[c,by simp only[O4,a];exact e,q]
noncomputable def a6(e:Env):tz (ρ×NameKind)->tz (ρ×η)->tz (ρ×η)
 | [],a=>a
 | (n,k)::r,a=>if k== .free then a6 e r ((n,(e.cells.lookup n).getD 0)::a) else a6 e r a
theorem qu{E:Env}:∀{N:tz (ρ×NameKind)} {acc:tz (ρ×η)},(∀y∈N,y.2= .free->∃c,E.cells.lookup y.1=δ c)->(∀x c,acc.lookup x=δ c->E.cells.lookup x=δ c)->
  ∀x c,(a6 E N acc).lookup x=δ c->E.cells.lookup x=δ c
 | [],_,_,b,x,c,h=>b x c h
 | (n,k)::r,acc,f,b,x,c,h=>by
  unfold a6 at h;by_cases g:(k==NameKind.free)=μ
  .rw[N0 g]at h;erw[qu (λy H=>f y (On _ H)) (λX j a=>?_) x c h];let⟨C,d⟩:=f (n,k) Oe (by simpa using g);let d:E.cells.lookup n=δ C:=d;simp only[O4]at a;cases i:X==n with
   |true=>
    rw[i]at a;let e:X=n:=by simpa using i
    subst e;rw[d]at a;rwa[d]
   |false=>rw[i]at a;exact b _ _ a
  .rw[N7 g]at h;exact qu (λy H=>f y (On _ H)) b x c h
theorem qL:∀{a:tz (ρ×η)},(∃c,(x,c)∈a)->∃c,a.lookup x=δ c
 | [],h=>by let⟨_,h⟩:=h;cases h
 | (n,c)::r,h=>by
  simp only[O4];cases H:x==n with
  |true=>exact#[c,Z]
  |false=>
   let⟨C,h⟩:=h;rcases Θ.mp h with e |h
   .injection e with E _;subst E;simp at H
   .exact qL #[C,h]
theorem Ja:∀{N:tz (ρ×NameKind)} {a:tz (ρ×η)},((∃c,(x,c)∈a)∨(x,NameKind.free)∈N)->∃c,(x,c)∈a6 E N a
 | [],_,h=>by
  rcases h with h |h
  .exact h
  .cases h
 | (n,k)::r,a,h=>by
  unfold a6;by_cases H:(k==NameKind.free)=μ
  .rw[N0 H];erw[Ja ?_];rcases h with ⟨c,h⟩ |h
   .exact .inl #[c,On _ h]
   .rcases Θ.mp h with e |h
    .injection e with b _;subst b;exact .inl #[_,Oe]
    .exact .inr h
  .rw[N7 H];erw[Ja ?_];rcases h with h |h
   .exact .inl h
   .rcases Θ.mp h with e |h
    .injection e with _ d;subst d;exact absurd Z H
    .exact .inr h
theorem qS{e:Env}:∀(N:tz (ρ×NameKind)) (A:tz (ρ×η)),(∀y∈N,y.2= .free->∃c,e.cells.lookup y.1=δ c)->
  (forIn N A (λx r=>match x with | (name,K)=>if (K==NameKind.free)=μ then (do let a <- cellOf e name;pure (ForInStep.yield ((name,a)::r))) else pure (ForInStep.yield r)):Sem (List$ ρ×η))=pure (a6 e N A)
 | [],A,_=>rfl
 | (n,k)::r,A,b=>by
  let i:=λA=>qS r A λy H=>b y (On _ H);rw[Ra];unfold a6;by_cases h:(k==NameKind.free)=μ
  .let⟨C,E⟩:=b (n,k) Oe (by simpa using h);let E:e.cells.lookup n=δ C:=E;let d:cellOf e n=pure C:=by unfold cellOf;rw[E]
   rw[N0 h];simp only[h,R4,d,E];exact i _
  .rw[N7 h];simp only[h];exact i _
def qT{e:Env}{S:hY}(H:∀y∈S.names,y.2= .free->∃c,e.cells.lookup y.1=δ c):closureFor S e=pure (a6 e S.names []):=by let h:=qS S.names [] H;exact O1 (λt:Sem (List$ ρ×η)=>t >>= λs=>pure s) h
section
variable {X:Cx}{pins:tz (η×ge)}{σ:St}{H:Hp}{s:ι}
def Jo(I:au X pins σ H s)(S:ba X.N X.env.scope a M n i):∀y∈a.names,y.2= .free->∃c,X.env.cells.lookup y.1=δ c:=
 λy h e=>I.ok.has y.1 (.inl$ S.fre y h e)
def u6{g:cJ}(I:au X pins σ H s)(F:∀b∈Y,gw X pins H b)(P:∀b∈Y,b < s.heap.objs.size)
  (S:ba X.N X.env.scope a M n G) (Q:s.heap.objs.size<=C) (O:∀b o,s.heap.get? b=δ o->g.get? b=δ o) (R:g.Ns C m):
  au (bo X a M (a6 X.env a.names []) C Y s H) [] (GY n G σ) H { s with heap:=g,toks:=tk }:=by
 let sub:∀x c,(a6 X.env a.names []).lookup x=δ c->X.env.cells.lookup x=δ c:=qu (Jo I S) (λx c h=>by simp at h);let j:∀x,a.names.lookup x=δ .free->∃c,(a6 X.env a.names []).lookup x=δ c:=λx e=>qL (Ja$ .inr$ Pn e);let hex:∀x K,(relabel a X.env).names.lookup x=δ K->(K= .cell∨K= .free)->a.names.lookup x=δ .free:=λx K e A=>by
  let⟨k,t,q⟩:=Qc e;rcases q with q |q
  .rcases A with z |z
   .exact absurd (q.symm.trans z)$ S.cell (x,k)$ Pn t
   .rw[t,<- q,z]
  .rw[t,q]
 refine#[#[I.ok.mod,S.kind,I.ok.glob,I.ok.blt,Q,λx y c h1 h2=>I.ok.inj x y c (sub x c h1) (sub y c h2),λx hx=>?_,λx c hx=>?_,I.ok.hd,I.ok.frames,.inl Z,λb w=>#[λz=>?_,λx c e=>?_],I.bs,N6 I.ok.bsz I.sz,λb o e w=>?_,λb w hz=>?_,I.stack,I.stkFree],
  rfl,I.bare,Un.kept O,#[m,R,λk y v t E _=>?_],λx c e=>?_,I.hok.fresh Q,λx c e=>I.freeC x c (sub x c e),λp hp=>absurd (show p∈([]:tz (η×ge)) from hp) WN,I.hok.kept O,?_]
 .rcases hx with hx |hx
  .exact j x$ hex x _ hx$ .inl Z
  .exact j x$ hex x _ hx$ .inr Z
 .exact absurd (show ν=μ from hx) WL
 .let z':b=C:=z;let:=P b w;rw[z']at this;exact absurd this$ Nat.not_lt.mpr Q
 .exact(F b w).2.2.2.2.1 x c (sub x c e)
 .rcases(F b w).2.2.2.1 with z |z
  .exact I.ok.noex b o e z
  .exact absurd (Oc (NT e)$ N6 I.ok.bsz z)$ OV _
 .rcases Θ.mp (I.stkSub b hz) with z |z
  .exact(F b w).2.1 z
  .exact(F b w).2.2.1 z
 .let E:(GY n G σ)[k]?=δ (δ v):=E;let t:M[k]?=δ y:=t;unfold GY at E;by_cases A:k < n
  .rw[PR (by simpa using A),Ur]at E;simp [A]at E
  .let B:n<=k:=SG A;rw[PJ (by simpa using B),Ta,Od]at E;cases J:G[k - n]? with
   |none=>rw[J]at E;cases E
   |some i=>
    rw[J]at E;let L:(σ[i]?).getD θ=δ v:=OG E;let V:σ[i]?=δ (δ v):=by
     cases W:σ[i]? with
     |none=>rw[W]at L;cases L
     |some o=>rw[W]at L;exact O1 δ L
    let hi:i < X.N.length:=by rw[<- I.len];exact(ξ.mp V).1
    let e7:y=X.N.getD i Str.empty:=by
     let q:(M.drop n)[k - n]?=δ y:=by rw[R9];rwa[UT B]
     rw[S.nms,Od,J]at q;exact(OG q).symm
    let e8:X.N[i]?=δ y:=by rw[e7,NK hi,OT,NK hi];rfl
    let d:a.names.lookup y=δ .free:=by rw[e7];exact S.vis i$ Og J
    let f:X.env.scope.names.lookup y=δ .cell:=S.fre (y,.free) (Pn d) Z;let⟨m',_,hl⟩:=I.loc;let⟨u,r,l⟩:=hl i y v e8 V (.inr$ .inl f);refine#[u,r,?_];rcases l with ⟨l,_⟩ | ⟨_,c,ec,o,T,U⟩
    .let l:X.env.scope.names.lookup y=δ .local:=l;rw[f]at l;cases l
    .let⟨c',D⟩:=j y d;let q:=sub y c' D;rw[ec]at q;cases q;exact .inr #[.inl$ JA I.ok.kind d f,c,D,o,O _ _ T,U]
 .let⟨v,o,T,U⟩:=I.cell x c (sub x c e);exact#[v,o,O _ _ T,U]
 .show(GY n G σ).length=M.length;rw[S.len];simp [GY]
def au.track(I:au X pins σ H s)(f:gw X pins H D)(G:X.s₀.heap.objs.size<=D)(a:aP X.prog X.w (af H D o) s.heap D o):au X pins σ (af H D o) s:=by
 let n:=f.1;let N:∀b u,H b=δ u->b≠D:=λb u e=>jk e n;refine#[I.ok,I.os,I.bare,#[I.base.keep,I.base.slot,λb O e q i=>?_,I.base.there,λb d e=>?_,λb O u e=>?_,λb P e=>?_],I.loc,I.cell,?_,λx c e=>?_,λp h=>?_,λb u e=>?_,I.len]
 .rw[jh$ N8$ Oc (NT e) G];exact I.base.free b O e q i
 .let q:=I.base.tups b d e;rwa[jh$ N _ _ q]
 .let q:=I.base.frzs b O u e;rwa[jh$ N _ _ q]
 .let⟨m,q⟩:=I.base.tbls b P e;exact#[m,by rwa[jh$ N _ _ q]]
 .rw[jh$ Ou f.2.1];exact I.free
 .rw[jh$ f.2.2.2.2.1 x c e];exact I.freeC x c e
 .let⟨e,q,r⟩:=I.pin p h;exact#[e,by rwa[jh$ f.2.2.2.2.2 p h],r]
 .by_cases g:b=D
  .subst g;rw[jc]at e;cases e;exact a
  .rw[jh g]at e;exact(I.hok b u e).stay (λ_ _ _ q=>q) (λc q=>by rwa[jh$ N _ _ q]) λc d q=>by rwa[jh$ N _ _ q]
noncomputable abbrev lI(u:tz ζ):ge:={ cls:=.type "list",data:=.seq u.toArray u.length }
def tI(u:tz ζ)(y:ζ):({ cls:=.type "list",data:=.seq (u.toArray.push y) (u.length+1) }:ge)=lI (u++[y]):=by show({ cls:=.type "list",data:=.seq (u.toArray.push y) (u.length+1) }:ge)={ cls:=.type "list",data:=.seq (u++[y]).toArray (u++[y]).length };rw[NP,Rg,List.push_toArray]
def PF(X:Cx)(i:tz dg)(t:TT):Prop:=
 ∀(pins:tz (η×ge)) (s:ι) (σ:St) (H:Hp) (Q:Bool->Hp->Prop),au X pins σ H s->t σ H Q->
  π (χ X.prog X.w) X.A (forIn i μ λc r=>if r=μ then do let o <- isTrue c X.env (eval c X.env);pure (ForInStep.yield o) else pure (ForInStep.yield r)) (TP X pins σ Q) X.xe s
def nB:TT:=λ_ H Q=>Q μ H
def zM:PF X [] nB:=λ_ _ _ H _ I h=>wpAny_tests_nil #[H,I,h]
def KK{c:dg}{t:TT}(h:PT X c t):PF X [c] t:=λpins s σ H Q I q=>wpAny_tests_one (h pins s σ H Q I q)
noncomputable def rq(I:tz Nat)(σ:St):St:=I.map λi=>(σ[i]?).getD θ
def dY(J:It)(n:Nat)(t:St)(g:TG)(j:TT)(k:TE)(Q:tz V->Hp->Prop)(H:Hp):Prop:=
 ∃W:Nat->Nat->tz V->Hp->Prop,(∃m,W 0 m [] H)/\∀i m Y H,W i m Y H->
  (J.stop i H/\Q Y H)∨(J.go i H/\Y.length < τ/\∃N:tz V->Hp->Prop,(∀c h,N c h->∃M,M < m/\W (i+1) M c h)/\
   ∀x d (e:St),e.length=n->J.yld i H x d->g x (e++t) d λa h=>(∃T:St,T.length=n/\a=T++t)/\j a h λb f=>if b=μ then k a f λy l=>N (Y++[y]) l else N Y f)
def Qd{iter:dg}
  {RR:ζ->η->Result->ι->Prop} 
  (I:au X pins σ H s) (hc:X.calm=μ) (T:oJ X.prog X.w X.K tg J k it tn) (st:tn 0 s.heap) (hf:∀b∈k,gw X pins H b) (S:ba X.N X.env.scope scope M nT ix)
  (hg:∀cl C k s H,PG (bo X scope M cl C k s H) tg g) (hi:∀cl C k s H,PF (bo X scope M cl C k s H) i0 tt) (he:∀cl C k s H,PE (bo X scope M cl C k s H) e0 te)
  (h:dY J nT (rq ix σ) g tt te Qf H)
  (h':∀D C Y m t G,(∀b o u,H b=δ (.frz o u)->t b=δ (.frz o u))->t D=θ->au X pins σ (af t D$ .lst Y) G->gw X pins (af t D$ .lst Y) C->G.heap.Ns C m->Qf Y t->RR (.ref D) C (.ok .next) G):
  π (χ X.prog X.w) X.A (newList []) (λacc B=>π (χ X.prog X.w) X.A (newFunctionEnv scope X.env.globals (a6 X.env scope.names []) [] X.env.qual θ .none$ δ X.env) (λc0 s0=>
   kw (χ X.prog X.w) X.A (.compStart (.ListComp e0 [#[tg,iter,i0,0]] scope p1) 0 (.ref it) acc { c0 with scope:=relabel scope X.env }) (RR acc c0.locals) s0) E B) E s:=by
 obtain⟨W,⟨m0,w0⟩,t1⟩:=h;let h3:∀b∈k,b < s.heap.objs.size:=λb a=>by let⟨o,e,_⟩:=T.obj 0 _ st b a;exact NT e
 refine OB$ wpAny_newFunctionEnv S.cell (by intro y hy;simp at hy) (λF l f=>?_) S.kind;dsimp only at l f ⊢;generalize h4:s.heap.push { cls:=.type "list",dict:=θ,data:=.seq ([]:tz ζ).toArray }=H2 at l f ⊢;let hC:H2.objs.size=s.heap.objs.size+1:=by rw[<- h4,OL]
 let P:s.heap.objs.size≠H2.objs.size:=by rw[hC];exact N8$ Pb _
 let h0:s.heap.objs.size<=H2.objs.size:=by rw[hC];exact OR _
 let b0:∀b,b < s.heap.objs.size->b≠H2.objs.size/\b≠s.heap.objs.size:=λb a=>#[by rw[hC];exact N8$ P0 a,N8 a];let o1:∀b o,s.heap.get? b=δ o->F.get? b=δ o:=λb o e=>f.extBut b o (b0 b$ NT e).1 (NM _$ h4▸NM _ e);let h5:F.get? s.heap.objs.size=δ (lI []):=f.extBut _ _ P (NM _$ h4▸NV _ Z);let a0:H s.heap.objs.size=θ:=I.hok.fresh (NQ _);let h6:s.heap.objs.size∉lO X.stack:=λa=>(Θ.mp$ I.stkSub _ a).elim (λe=>absurd I.lt (by rw[<- e];exact OV _)) (I.nofs$ NQ _);generalize hD:s.heap.objs.size=D at*;generalize b1:H2.objs.size=C at*;let J0:∀tk,au (bo X scope M (a6 X.env scope.names []) C k s H) [] (GY nT ix σ) H { s with heap:=F,toks:=tk }:=λtk=>u6 I hf (by rw[hD];exact h3) S (by rw[hD];exact h0) o1 l;let c1:∀x c,(a6 X.env scope.names []).lookup x=δ c->c≠D:=λx c e z=>by let sub:=qu (Jo I S) (acc:=[]) (λx c h=>by simp at h) x c e;let⟨v,o,ho,_⟩:=I.cell x c sub;let:=NT ho;rw[z,hD]at this;exact OV _ this
 let p0:∀{σ0:St} {t:Hp} {G:ι} {U:tz ζ},au (bo X scope M (a6 X.env scope.names []) C k s H) [] σ0 t G->G.heap.get? D=δ (lI U)->t D=θ->
   au (bo X scope M (a6 X.env scope.names []) C k s H) [(D,lI U)] σ0 t G:=λ{σ0 t G U} I' e n=>I'.pins_of λp hp=>by
  let ep:p=(D,lI U):=by simpa using hp
  subst ep;exact#[e,n,P,h6,λv z=>by cases z]
 let L:∀{t:Hp} {U:tz ζ},(∀b∈k,t b=θ)->∀b∈k,gw (bo X scope M (a6 X.env scope.names []) C k s H) [(D,lI U)] t b:=λ{t U} hn b a=>
  #[hn b a,((J0 0).ok.exf b a).1,(J0 0).ok.exfs b a,.inl a,((J0 0).ok.exf b a).2,λp hp z=>by
   let ep:p=(D,lI U):=by simpa [bo] using hp
   rw[ep]at z;let:=h3 b a;rw[<- z]at this;exact OV _ this]
 let l0:∀B:ι,(∃tk,B={ s with heap:=F,toks:=tk })->
   kw (χ X.prog X.w) X.A (.compLoop (.ListComp e0 [#[tg,iter,i0,0]] scope p1) 0 (.ref it) (.ref D)$ compEnvC scope (a6 X.env scope.names []) C X.env) (RR (.ref D) C) B:=by
  rintro B ⟨tk,rfl⟩;refine sM (λn G=>∃i Y U ts t,ts.length=nT/\au (bo X scope M (a6 X.env scope.names []) C k s H) [(D,lI U)] (ts++rq ix σ) t G/\aD Y U/\Y.length<=τ/\tn i G.heap/\(∀b∈k,t b=θ)/\W i n Y t) ?_ m0
   #[0,[],[],kz nT θ,H,Ta,p0 (J0 tk) h5 a0,.nil,NY _,T.keep _ _ _ st λb a o e=>o1 b o e,λb a=>(hf b a).1,w0]
  rintro n s1 ⟨i,Y,U,ts,Q,a1,I1,rv,hz,s7,f0,w1⟩;rcases t1 i n Y Q w1 with ⟨stop,q⟩ | ⟨go,a2,N,hN,step⟩
  .refine aV (T.done (bo X scope M (a6 X.env scope.names []) C k s H) Z Z Z hc i _ s1 _ Q CP I1 (L f0) s7 stop) λr s2 j=>?_;let⟨hr,I2⟩:=j;subst hr;let IO:au X pins σ Q s2:=I.call' (ch:=k) I2.os I2.base I2.hok I2.bare λb a=>#[(hf b a).2.2.2.1,(hf b a).2.1,(hf b a).2.2.2.2.1,(hf b a).2.2.2.2.2];let pD:=I2.pin (D,lI U) (by simp [bo]);let h8:Q D=θ:=pD.2.1;let fD:gw X pins Q D:=by rw[<- hD];exact I.fpOk (NQ _) (by rw[hD];exact h8)
   let IT:au X pins σ (af Q D$ .lst Y) s2:=IO.track fD (by rw[<- hD];exact I.sz) #[hz,U,U.length,rv,pD.1];let⟨mC,a3,_⟩:=I2.loc;let a4:Q C=θ:=I2.free;exact h' D C Y mC Q s2 I2.base.frzs h8 IT (I.fpOk (by rw[hD];exact h0) (by rw[jh$ Ou P];exact a4)) a3 q
  .refine aV (T.item (bo X scope M (a6 X.env scope.names []) C k s H) Z Z Z hc i _ s1 _ Q CP I1 (L f0) s7 go) λr s2 j=>?_;let⟨u,hr,h2⟩:=j;subst hr;erw[aV h2 λ_ s3 j=>?_];let⟨x,H3,I3,r3,y3,O,f1⟩:=j;let a5:=I3.pinned (L f1) (T.obj _ _ O);erw[aV (hg _ _ _ _ _ _ s3 _ H3 x u _ a5 r3$ step x H3 ts a1 y3) λ_ s4 j=>?_];obtain⟨σ1,H4,I4,⟨t0,h1,e4⟩,q4⟩:=j;subst e4;erw[aV (hi _ _ _ _ _ _ s4 _ H4 _ I4 q4) λb s5 j=>?_];let⟨H5,I5,q5⟩:=j;cases b with
   |false=>obtain⟨m',hm,w'⟩:∃m',m' < n/\W (i+1) m' Y H5:=hN _ _ q5;refine#[m',hm,i+1,Y,U,t0,H5,h1,I5.unpinned,rv,hz,T.keep _ _ _ O λb a o e=>(I5.pin (b,o)$ Oj _$ Oj _$ zo a e).1,λb a=>?_,w'];let⟨o,e,d⟩:=T.obj _ _ O b a;exact(I5.pin (b,o)$ Oj _$ Oj _$ zo a e).2.1
   |true=>
    erw[aV (he _ _ _ _ _ _ s5 _ H5 _ I5 q5) λv s6 j=>?_];let⟨y,H6,I6,r6,q6⟩:=j;let⟨m',hm,w'⟩:=hN _ _ q6;let pD:=I6.pin (D,lI U) (Oj _$ Pj _ Oe);let hl:=rv.length;let R:∀b∈k,∀o,s3.heap.get? b=δ o->s6.heap.get? b=δ o:=λb a o e=>(I6.pin (b,o)$ Oj _$ Oj _$ zo a e).1;let V:∀b∈k,H6 b=θ:=λb a=>by let⟨o,e,d⟩:=T.obj _ _ O b a;exact(I6.pin (b,o)$ Oj _$ Oj _$ zo a e).2.1
    refine append_at (hsz:=by rw[NR,<- hl];exact hz) pD.1 λh7 sb a'=>?_;let I7:au (bo X scope M (a6 X.env scope.names []) C k s H) [] (t0++rq ix σ) H6 { s6 with heap:=h7 }:=
     (I6.pins_of (pins':=[]) λp hp=>absurd hp WN).turned (t':=s6.toks) (it:=D) (λb o a e=>(sb.2 b a).trans e) pD.2.1 P (.inr (by show s.heap.objs.size<=D;rw[hD];exact NQ _)) c1 λp hp=>absurd (show p∈([]:tz (η×ge)) from hp) WN
    refine#[m',hm,i+1,Y++[y],U++[v],t0,H6,h1,p0 I7 (a'.trans$ O1 δ$ tI U v) pD.2.1,rv.append$ .cons r6 .nil,by rw[NP,Rg];exact a2,
     T.keep _ _ _ (T.keep _ _ _ O R) λb a o e=>(sb.2 b λz=>?_).trans e,V,w']
    let:=h3 b a;rw[z]at this;exact OV _ this
 exact codeAny_compStart_list (l0 _ #[_,Z])$ T.self _ 0 _ _ _ (T.keep _ _ _ st λb a o e=>o1 b o e)$ l0 _ #[_,Z]
def yD(w:TI)(n:Nat)(i:tz Nat)(g:TG)(t:TT)(T:TE):TE:=λσ H Q=>w σ H λJ a=>dY J n (rq i σ) g t T (λy h=>∀p,h p=θ->Q (.ref p) (af h p$ .lst y)) a
noncomputable def zp{t E iter:dg}{i:tz dg}{a:hY}{p:Pos}{M:tz ρ}{k:Nat}{l:tz Nat}{W:TI}{g:TG}{r:TT}{u:TE}(v:X.calm=μ)(y:PI X t iter W)(S:ba X.N X.env.scope a M k l)
  (z:∀c C f s H,PG (bo X a M c C f s H) t g) (B:∀c C f s H,PF (bo X a M c C f s H) i r) (G:∀c C f s H,PE (bo X a M c C f s H) E u)
  (K:∀x,foldedSetIterable iter X.env x=pure x:=by intro _;rfl):
  PE X (.ListComp E [#[t,iter,i,0]] a p) (yD W k l g r u):=by
 intro pins s σ H Q I h;rw[eval_ListComp];erw[UM (use:=θ) Z K (qT$ Jo I S) S.kind S.loc$ aV (y pins s σ H _ I h) λxv s1 L=>aV L λO s2 P=>?_];let⟨it,f,tn,J,H2,e,U,T,d,V,R⟩:=P;subst e;erw[Qd (RR:=λj C=>compPost (χ X.prog X.w) X.A X.xe θ (EP X pins σ Q) j C) U v T d V S z B G R ?_];intro D C ys m H' Y _ n I' F ns q;exact#[m,ns,λh' sb=>#[.ref D,_,I'.turned (t':=Y.toks) (λb o hb e=>(sb.2 b hb).trans e) F.1 F.2.1 F.2.2.2.1 F.2.2.2.2.1 F.2.2.2.2.2,Z,q D n]]
noncomputable def qN{t E iter:dg}{d:tz dg}{c:hY}{p P f:Pos}{y:ρ}{i:Nat}{M:tz ρ}{U:Nat}{V:tz Nat}{W:TI}{g:TG}{Y:TT}{te:TE}(hN:X.N.Nodup)(hy:X.N[i]?=δ y)(hx:uP X.env.scope y)
  (hc:X.calm=μ) (hI:PI X t iter W) (S:ba X.N X.env.scope c M U V)
  (hg:∀l C j s H,PG (bo X c M l C j s H) t g) (hi:∀l C j s H,PF (bo X c M l C j s H) d Y) (he:∀l C j s H,PE (bo X c M l C j s H) E te)
  (r:↥(swapsWith (.ListComp E [#[t,iter,d,0]] c p) (δ$ .Name y P) f.line X.env=pure μ))
  (hf:autoParam (X.fn y=μ∨X.env.scope.names.lookup y=δ .local) Wx._auto_1)
  (hs:∀x,foldedSetIterable iter X.env x=pure x:=by intro _;rfl):
  PS X (.Assign [.Name y P] (.ListComp E [#[t,iter,d,0]] c p) f) (λD σ H=>yD W U V g Y te σ H λv H1=>D.nx (σ.set i$ δ v) H1):=by
 intro pins s σ H D I h;rw[exec_Assign_Name_used _ _ _ _ r];erw[NJ$ Rk$ NJ ?_];show π _ X.A (do let _ <- comprehension (.ListComp E [#[t,iter,d,0]] c p) c X.env _ (newList []) ν (eval iter X.env) (δ$ assign (.Name y P) X.env)) _ _ s;refine NJ (aV (UM (use:=δ (assign (.Name y P) X.env)) (Q:=λ_ k=>SP X pins D .next k) Z hs (qT$ Jo I S) S.kind S.loc
  (aV (hI pins s σ H _ I h) λxv s1 h1=>aV h1 λi0 s2 h2=>?_)) λ_ k hq=>NN (NN hq))
 let⟨it,j,tn,J,H2,e,I2,T,u,f2,R⟩:=h2;subst e;erw[Qd (RR:=λB C=>compPost (χ X.prog X.w) X.A X.xe (δ$ assign (.Name y P) X.env) (λ_ k=>SP X pins D .next k) B C) I2 hc T u f2 S hg hi he R ?_];intro Dd C ys m H' k _ n I' F ns q;show π _ X.A (assign (.Name y P) X.env$ .ref Dd) _ _ k;erw[VQ$ QN I' hN hy hx (v:=.ref Dd) Z (λG K hh=>?_) hf];let⟨a,sb,ha⟩:=hh;let L:C≠a:=by
  rcases ha with z |z
  .rw[z];exact F.2.1
  .exact Ou$ F.2.2.2.2.1 _ _ z
 exact#[m,ns.sameBut sb L,λh' O=>#[_,_,K.turned (t':=G.toks) (λb o hb e=>(O.2 b hb).trans e) F.1 F.2.1 F.2.2.2.1 F.2.2.2.2.1 F.2.2.2.2.2,q Dd n]]
end
section
variable {X:Cx}
def G7(i j:Int):Prop:=0 < j/\j<=1000000000000000000
def KW:fX X (binaryOp .FloorDiv) (rI G7 λi j=>.int (i / j)):=LP λi j _ _ _ _ _ h q=>by
 let b:(0:Int) < j:=h.1;let c:j<=1000000000000000000:=h.2;refine floordiv_int WM (by rwa[Int.fdiv_eq_ediv_of_nonneg i WM])$ .inl$ PyProof.noPylong_of_log2 ?_;let H:j.natAbs≠0:=by omega
 let a:j.natAbs < 2 ^ 60:=by omega
 let d:j.natAbs.log2 < 60:=(Nat.log2_lt H).mpr a;omega
noncomputable def Mj:V->tT ζ
 | .ty n=>δ (.type n)
 | .ref a=>↑a
 |_=>θ
def J5:dM X (.builtin "isinstance") (λf H Q=>∃x y c t b,f=[x,y]/\Mj y=δ c/\h9 X.K H x t/\kitOne X.K t c=δ b/\Q (.bl b) H):=by
 intro p s i H f U Q I r h;let⟨x,y,c,t,b,rfl,d,ty,e,q⟩:=h;let⟨u,w,rfl,g,R⟩:=Lw r;let E:w=c:=by
  cases y with
  |ty n |ref a=>exact Eq.trans R (OG d)
  |_=>cases d
 subst E;exact tj I g ty e λT=>#[.bl b,H,I.tok T,Z,q]
theorem qv:∀{Y:tz ρ} {U:tz ζ},aD (Y.map rz) U->StrsAre U Y
 | [],_,.nil=>.nil
 |y::r,_,.cons (b:=u) h t=>by obtain⟨T,e⟩:∃T,u=lq y T:=h;subst e;exact .cons y T$ qv t
def Xq:Mb X "str.join" (λx a H Q=>∃(z:ρ) (p:η) (y:tz ρ),x= .str z/\a=[.ref p]/\aH X.K H p (y.map rz)/\z.length<=16/\(y.map (·.length)).sum+y.length<=1048576/\Q (.str$ Txt.join z y) H):=by intro P s l H x a v U Q I r R h;let⟨z,p,y,rfl,rfl,b,c,d,q⟩:=h;let⟨u,rfl,e⟩:=eW R;cases e;let⟨t,rfl⟩:=r;let⟨i,f,g,j⟩:=I.list b;exact join_listW g.isList (by simpa using qv f) c d λT k=>#[.str _,H,I.tok k,#[_,Z],q]
noncomputable def ve:dg->tT V
 | .Constant (.str x) _ _=>δ (.str x)
 | .Constant (.int i) _ _=>δ (.int i)
 |_=>θ
def FF(h:ve e=δ v):PE X e (tC v):=by
 cases e with
 |Constant c j p=>
  cases c with
  |str x=>cases h;exact jm
  |int i=>cases h;exact jf
  |_=>cases h
 |_=>cases h
def yy(h:ve e=δ v):Δ (e::a) E=(ν,eval e E)::Δ a E:=by
 cases e with
 |Constant c j p=>rfl
 |_=>cases h
def vX(e:dg):Bool:=(ve e).isSome
def vb(e:dg):V:=(ve e).getD .non
theorem Xr:∀{E:tz dg},E.all vX=μ->PA X E (λ_ H Q=>Q (E.map vb) H)
 | [],_=>jb
 |e::E,h=>by
  rw[Ul,Pa]at h;let⟨v,a⟩:=mI.mp (show(ve e).isSome=μ from h.1);let b:vb e=v:=by unfold vb;rw[a];rfl
  rw[O8,b];exact ja (FF a) (Xr h.2)$ yy a
def sS{E:tz dg}(h:E.all vX=μ):(E.map vb).all du=μ:=by
 rw[Sv]at h ⊢;intro v H;let⟨e,a,rfl⟩:=dn.mp H;let q:=h e a;unfold vX at q;unfold vb;cases e with
 |Constant c j p=>
  cases c with
  |str x |int i=>rfl
  |_=>exact absurd q N5
 |_=>exact absurd q N5
def Lr(t:TS):TS:=λD b H=>∃R:St->Hp->Prop,t { D with nx:=R } b H/\∀a h,R a h->D.nx a h
def ki{st:cc}{t:TS}(h:PS X st t):PS X st (Lr t):=by
 intro p s b H D I c;let⟨R,d,e⟩:=c;erw[aV (h p s b H _ I d) λf S q=>?_];cases f with
 |next=>let⟨a,g,i,q⟩:=q;exact#[a,g,i,e _ _ q]
 |brk |cont |ret v=>exact q
def oQ{t:St}(h:t.length=1):∃v,t=[v]:=by
 cases t with
 |nil=>cases h
 |cons v r=>
  cases r with
  |nil=>exact#[v,Z]
  |cons _ _=>cases h
def Yw{lo:Int}{t:TE}{Q:tz V->Hp->Prop}(Pv:Nat->tz V->Hp->Prop)(g:Pv 0 [] H)(j:n<=τ)(b:∀i Y h,Pv i Y h->Y.length<=i)
  (k:∀i Y h,i < n->Pv i Y h->t (δ (.int$ lo+i)::c) h λy d=>Pv (i+1) (Y++[y]) d) (l:∀Y h,Pv n Y h->Q Y h):
  dY (uO lo n) 1 c (bp 0) nB t Q H:=by
 refine#[λi m Y h=>m=n - i/\i<=n/\Pv i Y h,#[n,WN,NY _,g],?_];rintro i m Y h ⟨rfl,q,p⟩;by_cases a:i < n
 .refine .inr #[a,Ph (b i Y h p)$ Oc a j,Pv$ i+1,λo d P=>#[n - (i+1),WM,Z,a,P],λx d T f y=>?_];let⟨e,y⟩:=y;subst e y;let⟨v,rfl⟩:=oQ f;exact#[#[[δ _],Z,Z],k i Y _ a p]
 .let e:i=n:=by omega
  subst e;exact .inl #[NQ _,l Y h p]
end
section
variable {κ:Type}[DecidableEq κ]
noncomputable def cq(K:tz (κ×V))(k:κ):tT V:=(K.find? λa=>decide (a.1=k)).map (·.2)
noncomputable def bj(K:tz (κ×V))(k:κ)(v:V):tz (κ×V):=
 if (K.any λa=>decide (a.1=k))=μ then K.map (λa=>if a.1=k then (a.1,v) else a) else K++[(k,v)]
noncomputable def lN(K:tz (κ×V))(k:κ):tz (κ×V):=K.filter λa=>decide (a.1≠k)
def kB{p:κ×V}(e:p.1=k):cq (p::r) k=δ p.2:=by simp [cq,Rz,e]
def kC{p:κ×V}(e:¬p.1=k):cq (p::r) k=cq r k:=by simp [cq,Rz,e]
theorem Jp(k:κ):∀K:tz (κ×V),(K.any λa=>decide (a.1=k))=(cq K k).isSome
 | []=>rfl
 |p::r=>by
  rw[RW];by_cases e:p.1=k
  .simp only[kB e,N4 e,VY,Option.isSome_some]
  .rw[kC e,NW e,Bool.false_or];exact Jp k r
theorem X3(k j:κ)(y:V):∀K:tz (κ×V),cq (K.map λa=>if a.1=k then (a.1,y) else a) j=(cq K j).map λx=>if j=k then y else x
 | []=>rfl
 |p::r=>by
  let i:=X3 k j y r;rw[O8];by_cases h:p.1=k
  .rw[N0 h];by_cases e:p.1=j
   .rw[kB (p:=(p.1,y)) e,kB e,SE,N0$ e.symm.trans h]
   .rw[kC (p:=(p.1,y)) e,kC e,i]
  .rw[N7 h];by_cases e:p.1=j
   .rw[kB (p:=p) e,kB e,SE,N7 (λz=>h (e.trans z))]
   .rw[kC (p:=p) e,kC e,i]
theorem QU(k j:κ)(y:V):∀K:tz (κ×V),cq K k=θ->cq (K++[(k,y)]) j=if j=k then δ y else cq K j
 | [],_=>by
  by_cases e:k=j
  .rw[N0 e.symm];exact kB (p:=(k,y)) e
  .rw[N7 (λz=>e z.symm)];exact kC (p:=(k,y)) e
 |p::r,h=>by
  rw[List.cons_append];let H:¬p.1=k:=λz=>by rw[kB z]at h;cases h
  rw[kC H]at h;let i:=QU k j y r h;by_cases e:p.1=j
  .rw[kB e,kB e,N7 (λz=>H (e.trans z))]
  .rw[kC e,kC e,i]
def yS(K:tz (κ×V))(k j:κ)(y:V):cq (bj K k y) j=if j=k then δ y else cq K j:=by
 unfold bj;by_cases a:(K.any λb=>decide (b.1=k))=μ
 .rw[N0 a,X3];rw[Jp]at a;by_cases e:j=k
  .let⟨x,h⟩:=mI.mp a;rw[N0 e,e,h,SE,N0 Z]
  .rw[N7 e];cases cq K j with
   |none=>rfl
   |some x=>rw[SE,N7 e]
 .rw[N7 a];erw[QU k j y K ?_];rw[Jp]at a;cases q:cq K k with
  |none=>rfl
  |some x=>rw[q]at a;exact(a Z).elim
def qK(K:tz (κ×V))(k:κ)(v:V):(bj K k v).length<=K.length+1:=by
 unfold bj;split
 .rw[NO];omega
 .rw[NP,Oq,TM];omega
def eL.isSome_eq(r:eL o u):o.isSome=u.isSome:=by
 cases o with
 |none=>cases u with
  |none=>rfl
  |some _=>exact(show False from r).elim
 |some _=>cases u with
  |none=>exact(show False from r).elim
  |some _=>rfl
theorem eL.getD(r:eL o u)(R:aJ d D):aJ (o.getD d) (u.getD D):=by
 cases o with
 |none=>cases u with
  |none=>exact R
  |some _=>exact(show False from r).elim
 |some _=>cases u with
  |none=>exact(show False from r).elim
  |some _=>exact r
def KV.val(r:KV a v)(k:κ):eL (cq a k) (valueAt v k):=by
 unfold KV at r;induction r with
 |nil=>exact True.intro
 | @cons p q P Q h t i=>
  let⟨H,c⟩:=h;by_cases e:p.1=k
  .let E:q.1=k:=H.symm.trans e;let b:valueAt (q::Q) k=δ q.2:=by simp [valueAt,Rz,E]
   rwa[kB e,b]
  .let E:¬q.1=k:=λz=>e (H.trans z);let b:valueAt (q::Q) k=valueAt Q k:=by simp [valueAt,Rz,E]
   rwa[kC e,b]
theorem KV.any(r:KV a v)(k:κ):(a.any λK=>decide (K.1=k))=v.any λK=>decide (K.1=k):=by
 unfold KV at r;induction r with
 |nil=>rfl
 |cons h t i=>rw[RW,RW,i,h.1]
def KV.repl(r:KV a v)(k:κ)(R:aJ y u):
  KV (a.map λK=>if K.1=k then (K.1,y) else K) (v.map λK=>if K.1=k then (K.1,u) else K):=by
 unfold KV at r ⊢;induction r with
 |nil=>exact .nil
 | @cons p q P Q h t i=>
  rw[O8,O8];erw[.cons ?_ i];let⟨H,b⟩:=h;by_cases e:p.1=k
  .rw[N0 e,N0$ H.symm.trans e];exact#[H,R]
  .rw[N7 e,N7 (λz=>e (H.trans z))];exact#[H,b]
def KV.put(r:KV a v)(k:κ)(R:aJ y u):KV (bj a k y) (stored v k u):=by
 unfold bj stored;rw[r.any k];by_cases e:(v.any λK=>decide (K.1=k))=μ
 .rw[N0 e,N0 e];exact r.repl k R
 .rw[N7 e,N7 e];exact Paired.snoc r #[Z,R]
def KV.drop(r:KV c v)(k:κ):KV (lN c k) (without v k):=by
 unfold KV at r ⊢;unfold lN without;induction r with
 |nil=>exact .nil
 | @cons p q P Q h t i=>
  let⟨H,d⟩:=h;rw[Vg,Vg];by_cases e:p.1=k
  .let a:¬decide (p.1≠k)=μ:=by simp [e]
   let b:¬decide (q.1≠k)=μ:=by simp [H.symm.trans e]
   rwa[N7 a,N7 b]
  .let E:¬q.1=k:=λz=>e (H.trans z);let a:decide (p.1≠k)=μ:=by simp [e]
   let b:decide (q.1≠k)=μ:=by simp [E]
   rw[N0 a,N0 b];exact .cons #[H,d] i
theorem KV.length(r:KV k v):k.length=v.length:=Paired.length r
def X4(K:tz (κ×V))(k:κ):(lN K k).length<=K.length:=RO _ _
end
def Ky{P:ψ}(r:aJ (kV k) u):(aX P w).is k u=μ:=by
 cases k with
 |inl i=>let⟨t,e⟩:=(show ∃t,u=ic i t from r);subst e;exact Yu P w i t
 |inr x=>let⟨t,e⟩:=(show ∃t,u=lq x t from r);subst e;exact Yv P w x t
theorem QV{P:ψ}:∀{K:tz bV} {u:tz ζ},aD (K.map kV) u->ItemsAre (aX P w) K u
 | [],_,r=>by rw[Us]at r;cases r;exact .nil
 |k::K,_,r=>by
  rw[O8]at r;cases r with
  |cons h t=>exact .cons (Ky h) (QV t)
abbrev KT(H:Hp):tz (tz bV×V)->tz (tz bV×η×ζ)->Prop:=Paired λp q=>p.1=q.1/\H q.2.1=δ (.tup$ p.1.map kV)/\aJ p.2 q.2.2
def KT.val(r:KT H a x)(k:tz bV):eL (cq a k) ((atKey x k).map (·.2)):=by
 induction r with
 |nil=>exact True.intro
 | @cons p q P Q h t i=>
  let⟨c,_,d⟩:=h;by_cases e:p.1=k
  .let E:q.1=k:=c.symm.trans e;let b:atKey (q::Q) k=δ q.2:=by simp [atKey,Rz,E]
   rwa[kB e,b]
  .let E:¬q.1=k:=λz=>e (c.trans z);let b:atKey (q::Q) k=atKey Q k:=by simp [atKey,Rz,E]
   rwa[kC e,b]
def KT.repl(r:KT H b x)(k:tz bV)(R:aJ y u):
  KT H (b.map λK=>if K.1=k then (K.1,y) else K) (x.map$ putAt k u):=by
 induction r with
 |nil=>exact .nil
 | @cons p q P Q h t i=>
  rw[O8,O8];erw[.cons ?_ i];let⟨a,c,d⟩:=h;unfold putAt;by_cases e:p.1=k
  .rw[N0 e,N0$ a.symm.trans e];exact#[a,c,R]
  .rw[N7 e,N7 (λz=>e (a.trans z))];exact#[a,c,d]
def KT.put(r:KT H a x)(k:tz bV)(h:H b=δ (.tup$ k.map kV))(R:aJ y u):
  KT H (bj a k y) (storedH x k b u):=by
 let e:(a.any λK=>decide (K.1=k))=(atKey x k).isSome:=by rw[Jp,(r.val k).isSome_eq,UP]
 unfold bj storedH;rw[e];by_cases q:(atKey x k).isSome=μ
 .rw[N0 q,N0 q];exact r.repl k R
 .rw[N7 q,N7 q];exact Paired.snoc r #[Z,h,R]
def KT.keeps{h:Hp}(r:KT H k x)(a:∀b y,H b=δ (.tup y)->h b=δ (.tup y)):KT h k x:=
 Paired.mapP r λ_ _ z=>#[z.1,a _ _ z.2.1,z.2.2]
section
variable {P:ψ}{w:bF}{H:Hp}{h:cJ}{a:η}
def Dp(o:fV P w H h)(e:Rd H a u):aP P w H h a u:=e.ok o
def Kz(o:fV P w H h)(e:Rd H a (.dK k)):k.length<=τ/\(a==sysModules)=ν/\∃v,KV k v/\h.DictOf (aX P w) a v:=
 show aP P w H h a (.dK k) from Dp o e
def CW(o:fV P w H h)(e:H a=δ (.dK k)):k.length<=τ/\(a==sysModules)=ν/\∃v,KV k v/\h.DictOf (aX P w) a v:=Kz o (.inl e)
def KL{k:tz bV}(O:fV P w H h)(e:H a=δ (.tup$ k.map kV)):(tupleKind$ aX P w).is h k a:=by let⟨_,i,r,o,b,c,n,d⟩:=(show aP P w H h a (.tup$ k.map kV) from O a _ e);exact#[o,i.toArray,n,b,c,d,by simpa using QV r]
def QJ(O:fV P w H h)(e:Rd H a (.dT k)):k.length<=τ/\(a==sysModules)=ν/\
  ∃X,KT H k X/\h.DictOfH (tupleKind$ aX P w) a X:=by
 let⟨z,y,X,r,o,E,c,d,f,g,i,j⟩:=(show aP P w H h a (.dT k) from Dp O e);refine#[z,y,X,r,o,E,c,d,f,g,i,λx hx=>?_,j];let all:∀{l:tz (tz bV×V)} {m:tz (tz bV×η×ζ)},KT H l m->∀x∈m,(tupleKind$ aX P w).is h x.1 x.2.1:=by
  intro l m q;induction q with
  |nil=>intro x hx;exact nomatch hx
  | @cons p q n Q b t I=>
   intro x hx;rcases Θ.mp hx with e |hx
   .subst e;exact KL O (by rw[<- b.1];exact b.2.1)
   .exact I x hx
 exact all r x hx
def HX(o:fV P w H h)(e:H a=δ (.dT k)):k.length<=τ/\(a==sysModules)=ν/\
  ∃x,KT H k x/\h.DictOfH (tupleKind$ aX P w) a x:=QJ o (.inl e)
end
def gu(H:Hp)(a:η)(y:V)(r:tT V):Prop:=
 (∃K k,Rd H a (.dK K)/\y=kV k/\r=cq K k)∨∃K k b,Rd H a (.dT K)/\y= .ref b/\H b=δ (.tup$ k.map kV)/\r=cq K k
def oC(H:Hp)(a:η)(y v:V)(h:Hp):Prop:=
 (∃K k,H a=δ (.dK K)/\y=kV k/\K.length < τ/\h=af H a (.dK$ bj K k v))∨
 ∃K k b,H a=δ (.dT K)/\y= .ref b/\H b=δ (.tup$ k.map kV)/\K.length < τ/\h=af H a (.dT$ bj K k v)
def gu.k{H:Hp}{k:bV}(e:H a=δ (.dK b)):gu H a (kV k) (cq b k):=.inl #[b,k,.inl e,Z,Z]
def oC.k{H:Hp}{k:bV}(e:H a=δ (.dK b))(h:b.length < τ):oC H a (kV k) v (af H a$ .dK$ bj b k v):=.inl #[b,k,e,Z,h,Z]
section
variable {X:Cx}{pins:tz (η×ge)}{σ:St}{H:Hp}{s:ι}{a:η}{y v:V}{u r:ζ}{o:tT V}{A:bU}{E:ζ->ι->Prop}
def au.big(I:au X pins σ H s):sysModules < s.heap.objs.size:=by let h:Φ < s.heap.objs.size:=(I.mod.glob.keeps I.bk).lt;exact Nat.lt_trans WL h
def sN{Q:ζ->ι->Prop}(m:A.units+1 < cLine)(I:au X pins σ H s)(g:gu H a y (δ v))(j:aJ y u)(h:∀W S,au X pins σ H S->aJ v W->Q W S):
  π (χ X.prog X.w) A (getItem (.ref a) u) Q E s:=by
 rcases g with ⟨K,k,e,d,l⟩ | ⟨K,k,b,e,d,n,l⟩
 .subst d;let⟨z,q,t,R,D⟩:=Kz I.hok e;let⟨W,f,c⟩:=eL.some_of (v:=v) (o:=valueAt t k) (by rw[l];exact R.val k);exact wpAny_getItem_of (Ky j) D.mapOf f$ h W _ (I.tok _) c
 .subst d;cases (show u=Ξ b from j);let⟨z,q,x,R,D⟩:=QJ I.hok e;let⟨W,f,c⟩:=eL.some_of (v:=v) (o:=(atKey x k).map (·.2)) (by rw[l];exact R.val k);let⟨p,B,i⟩:=de.mp f;erw[wpAny_getItem_heap (Sm m) (KL I.hok n) D B ?_];rw[i];exact h W _ (I.tok _) c
def Mn{Q:ζ->ι->Prop}(i:A.units+1 < cLine)(I:au X pins σ H s)(g:gu H a y o)(f:aJ y u)(h:∀S,au X pins σ H S->Q (.bool o.isSome) S):
  π (χ X.prog X.w) A (compareOp .In u$ .ref a) Q E s:=by
 rcases g with ⟨K,k,e,c,l⟩ | ⟨K,k,b,e,c,j,l⟩
 .subst c;let⟨z,d,m,R,D⟩:=Kz I.hok e;erw[wpAny_in_of (Ky f) d D.mapOf ?_];rw[<- (R.val k).isSome_eq,<- l];exact h _$ I.tok _
 .subst c;cases (show u=Ξ b from f);let⟨z,d,x,R,D⟩:=QJ I.hok e;erw[wpAny_in_heap (Sm i) (KL I.hok j) d D ?_];let q:=(R.val k).isSome_eq;rw[UP]at q;rw[<- q,<- l];exact h _$ I.tok _
def Xs(I:au X pins σ H s)(m:Hl (H a))(c:fx a s.heap h)(d:∃q,h.get? a=δ q)(n:aP X.prog X.w (af H a O) h a O):
  au X pins σ (af H a O) { s with heap:=h,toks:=t }:=
 I.write (x:=a) (e:=a) m (.inl Z) (λb q f z=>(c.2 b f).trans z) d n
def Xf{P:ψ}{h:cJ}{k:tz (bV×V)}(z:k.length<=τ)(c:(a==sysModules)=ν)(R:KV k b)(d:h.DictOf (aX P w) a b):
  aP P w e h a (.dK k):=#[z,c,b,R,d]
def sO{Q:Unit->ι->Prop}(J:A.units+1 < cLine)(I:au X pins σ H s)(g:oC H a y v L)(x:aJ y u)(B:aJ v r)(h:∀S,au X pins σ L S->Q () S):
  π (χ X.prog X.w) A (setItem (.ref a) u r) Q E s:=by
 rcases g with ⟨K,k,e,i,l,j⟩ | ⟨K,k,b,e,i,C,l,j⟩
 .subst i j;let⟨z,m,M,R,D⟩:=CW I.hok e;let n:M.length<=τ:=by rwa[<- R.length]
  let p:(bj K k v).length<=τ:=by let:=qK K k v;omega
  erw[wpAny_setItem_pairs (hsz:=n) (Ky x) D λF d t=>h _ ?_];let N:∃q,F.get? a=δ q:=let #[q,_,_,f,_]:=d;#[q,f]
  exact Xs I (by rw[e];exact True.intro) t N$ Xf p m (R.put k B) d
 .subst i j;cases (show u=Ξ b from x);let⟨z,m,O,R,D⟩:=HX I.hok e;let n:O.length<=τ:=by rwa[<- Paired.length R]
  let p:(bj K k v).length<=τ:=by let:=qK K k v;omega
  erw[wpAny_setItem_heap (hsz:=n) (Sm J) (KL I.hok C) D λF d t=>h _ ?_];let⟨q,P,T,f,U,W,Y,_,h5⟩:=d;refine Xs I (by rw[e];exact True.intro) t #[q,f] #[p,m,_,(R.put k C B).keeps λc ys G=>?_,q,P,T,f,U,W,Y,h5];rw[jh$ jR G e (λz=>nomatch z)];exact G
end
section
variable {X:Cx}{pins:tz (η×ge)}{σ:St}{H:Hp}{s:ι}{a:η}{kvs:tz (bV×V)}{k:bV}{u:ζ}{A:bU}{E:ζ->ι->Prop}
def HR{Q:ζ->ι->Prop}(I:au X pins σ H s)(e:H a=δ (.dK kvs))(R:aJ (kV k) u)(l:cq kvs k=δ v)(c:m=[]∨∃x,m=[x])
  (h:∀W S,au X pins σ (af H a$ .dK$ lN kvs k) S->aJ v W->Q W S):π (χ X.prog X.w) A (call (.builtin "dict.pop") (.ref a::u::m)) Q E s:=by
 let⟨z,g,f,r,D⟩:=CW I.hok e;let⟨W,j,b⟩:=eL.some_of (v:=v) (o:=valueAt f k) (by rw[<- l];exact r.val k);let n:(keyPart u).isSome=μ:=by
  cases k with
  |inl i=>let⟨t,q⟩:=(show ∃t,u=ic i t from R);subst q;rfl
  |inr x=>let⟨t,q⟩:=(show ∃t,u=lq x t from R);subst q;rfl
 let p:argsOk "dict.pop" #[.ref a::u::m,[]]:=by
  rcases c with q | ⟨x,q⟩
  .subst q;exact PySem.F.args_dict_pop_2 _ _
  .subst q;exact PySem.F.args_dict_pop_3 _ _ _
 refine U5 Uj D.typeIs PySem.F.entry_dict_pop p (meets_dict_pop_there (aX X.prog X.w) a (Ky R) m c n)
  #[f,W,D,by rwa[<- r.length],j,λy d B=>h W _ ?_ b]
 let C:∃q,y.get? a=δ q:=let #[q,_,_,G,_]:=d;#[q,G]
 exact Xs I (by rw[e];exact True.intro) B C$ Xf (N6 (X4 kvs k) z) g (r.drop k) d
end
def Hm(i:dg):Prop:=∀o I,subscripted i ν o I=operate [o,I] (getItem o I)
def Cn{id:String}
  (k:typeLookup (.type T) "__getitem__"=pure (δ$ .builtin id)) (l:Hm a)
  (h:π (χ p w) A (eval v e) (λo b=>π (χ p w) A (eval a e) (λi S=>S.TypeIs o T/\π (χ p w) A (getItem o i) Q E S) E b) E s):
  π (χ p w) A (eval (.Subscript v a m) e) Q E s:=by
 erw[VL$ O2 h (λo b d=>O2 d (λi S H=>?_) λ_ _ x=>x) λ_ _ x=>x];let⟨j,H⟩:=H;unfold subscriptTail;erw[NJ ?_];rw[getitemInPython_of_ne j.not_modules];erw[NJ$ Py j k ?_];let f:π (χ p w) A (subscripted a ν o i) (λr c=>π (χ p w) A (letTemporaryGo v o r >>= λ_=>pure r) Q E c) E S:=by rw[l o i];exact wpAny_operating$ O2 H (λr c g=>NJ (wpAny_letTemporaryGo$ NN g)) λ_ _ x=>x
 first
  |exact NN (NJ f)
  |exact NJ (NN (NJ f))
  |exact NJ f
def Yx{X:Cx}(I:au X p c H s)(g:gu H a y o):s.TypeIs (.ref a) "dict":=by
 rcases g with ⟨K,k,e,_,_⟩ | ⟨K,k,b,e,_,_,_⟩
 .let⟨_,_,v,_,d⟩:=Kz I.hok e;exact d.typeIs
 .let⟨_,_,x,_,d⟩:=QJ I.hok e;exact d.typeIs
inductive yE(Q:VK)(x y:V)(b:Hp):Prop
 |mk(a v:_)(_:x= .ref a)(_:gu b a y (δ v))(_:Q v b)
def Lp(t T:TE):TE:=λa H Q=>t a H λx h=>T a h (yE Q x)
inductive DA(Q:VK)(y x:V)(b:Hp):Prop
 |mk(a o:_)(_:x= .ref a)(_:gu b a y o)(_:Q (.bl o.isSome) b)
def MN(t T:TE):TE:=λa H Q=>t a H λy h=>T a h (DA Q y)
inductive xE(D:bh)(d:St)(v x y:V)(b:Hp):Prop
 |mk(a c:_)(_:x= .ref a)(_:oC b a y v c)(_:D.nx d c)
def xC(t T b:TE):TS:=λD a H=>b a H λv h=>t a h λx c=>T a c (xE D a v x)
section
variable {X:Cx}{o i e value:dg}{pos pos' tpos:Pos}{td ty tv:TE}
def Bq(d:X.A.units+1 < cLine)(f:PE X o td)(j:PE X i ty)(k:Hm i):PE X (.Subscript o i pos) (Lp td ty):=by intro p s b H Q I h;erw[Cn PySem.F.slot_dict_getitem.lookup k$ aV (f p s b H _ I h) λu S #[x,l,m,R,q]=>aV (j p S b l _ m q) λC D z=>?_];let⟨y,n,c,t,a,v,E,g,w⟩:=z;subst E;obtain rfl:u=Ξ a:=R;exact#[Yx c g,sN d c g t λW G B r=>#[v,n,B,r,w]]
def Fy(c:X.A.units+1 < cLine)(d:PE X i ty)(f:PE X o td):PC X .In i o (MN ty td):=by intro p s b H Q I h;erw[aV (d p s b H _ I h) λv S #[y,j,k,r,q]=>aV (f p S b j _ k q) λu w z=>?_];let⟨x,l,m,R,a,O,E,g,n⟩:=z;subst E;obtain rfl:u=Ξ a:=R;exact Mn c m g r λB t=>#[.bl O.isSome,l,t,Z,n]
def Jh(c:X.A.units+1 < cLine)(d:PE X o td)(f:PE X i ty)(j:PE X value tv)(k:swapsWith value (δ$ .Subscript o i pos') pos.line X.env=pure ν):
  PS X (.Assign [.Subscript o i pos'] value pos) (xC td ty tv):=by
 intro p s b H D I h;erw[wpAny_Assign_Subscript (aV (j p s b H _ I h) λr S #[v,l,m,R,q]=>aV (d p S b l _ m q) λu n #[x,t,w,B,Q]=>aV (f p n b t _ w Q) λL M z=>?_) k];let⟨y,N,C,E,a,F,G,g,J⟩:=z;subst G;obtain rfl:u=Ξ a:=B;exact sO c C g E R λO K=>#[b,F,K,J]
end
def vj{P:ψ}(h:cJ)(a:sysModules < h.objs.size):aP P w H (h.push { cls:=.type "dict",data:=.dict (ε []) }) h.objs.size (.dK []):=
 #[NY _,beq_eq_false_iff_ne.mpr$ Ou$ N8 a,[],.nil,Uv h]
def Gx:TE:=λ_ H Q=>∀p,H p=θ->Q (.ref p) (af H p$ .dK [])
section
variable {X:Cx}{pos:Pos}
def X5:PE X (.Dict [] [] pos) Gx:=λp s b H Q I h=>
 wpAny_Dict_empty #[.ref s.heap.objs.size,_,I.laid (a:=s.heap.objs.size) (o:=.dK []) (t':=s.toks) (λ_ _ q=>NM _ q) (NQ _)$ vj s.heap I.big,Z,h _$ I.hok.fresh$ NQ _]
end
def dE(k m:tz (bV×V)):tz (bV×V):=m.foldl (λa K=>bj a K.1 K.2) k
def KV.merge:∀{m:tz (bV×V)} {R:tz (bV×ζ)} {k:tz (bV×V)} {v:tz (bV×ζ)},KV m R->KV k v->KV (dE k m) (merged v R):=by
 intro m R k v r;unfold KV at r;induction r generalizing k v with
 |nil=>intro q;exact q
 | @cons p q P Q h t i=>
  intro a;let e:KV (bj k p.1 p.2) (stored v q.1 q.2):=by let:=a.put p.1 h.2;rw[<- h.1];exact this
  exact i e
theorem qU:∀(m k:tz (bV×V)),(dE k m).length<=k.length+m.length
 | [],k=>by show k.length<=k.length+0;omega
 |p::r,k=>by let h:=qU r (bj k p.1 p.2);let H:=qK k p.1 p.2;show(dE (bj k p.1 p.2) r).length<=_;rw[Oq];omega
structure M2(X:Cx)(o:dg)(m:ρ)(apos:Pos)(e f:dg)(cpos:Pos):Prop where
 base:attributeBase o m X.env (eval o X.env)=eval o X.env
 few:((fy cpos$ Δ [e,f] X.env).all (λx=>!x.1)&&(backToKw cpos$ keywordEach [] X.env).all (λx=>x.1.isSome)
  &&decide (([e,f]:tz dg).length+([]:tz Keyword).length+(if ([]:tz Keyword).isEmpty then 0 else 1) < 30))=μ
 line:(apos.endLine==cpos.line)=μ
 trees:fy cpos (Δ [e,f] X.env)=[(ν,eval e X.env),(ν,eval f X.env)]
def M4(H:Hp)(a:η):Prop:=(∃k,Rd H a$ .dK k)∨∃k,Rd H a (.dT k)
def Ej{X:Cx}(I:au X p g H s)(d:M4 H a):
  s.TypeIs (.ref a) "dict"/\(∀b,Ξ a= .ref b->∃o,s.heap.get? b=δ o/\o.dict=θ)/\(a==sysModules)=ν:=by
 rcases d with ⟨k,e⟩ | ⟨k,e⟩
 .let⟨_,h,v,_,D⟩:=Kz I.hok e;refine#[D.typeIs,λb q=>?_,h];cases q;let⟨o,_,_,c,f,_⟩:=D;exact#[o,c,f.2.1]
 .let⟨_,h,x,_,D⟩:=QJ I.hok e;refine#[D.typeIs,λb q=>?_,h];cases q;let⟨o,_,_,c,f,_⟩:=D;exact#[o,c,f.2.1]
section
variable {X:Cx}{pins:tz (η×ge)}{σ:St}{H:Hp}{s:ι}{a:η}{y d:V}{u r:ζ}{o:tT V}{A:bU}{E:ζ->ι->Prop}
def D4{Q:ζ->ι->Prop}(m:A.units+1 < cLine)(I:au X pins σ H s)(g:gu H a y o)(i:aJ y u)(j:aJ d r)(h:∀W S,au X pins σ H S->aJ (o.getD d) W->Q W S):
  π (χ X.prog X.w) A (call (.builtin "dict.get") [.ref a,u,r]) Q E s:=by
 rcases g with ⟨K,k,e,c,l⟩ | ⟨K,k,b,e,c,n,l⟩
 .subst c;let⟨z,f,v,R,D⟩:=Kz I.hok e;erw[U5 SA D.typeIs Uc (T5 _ _ _) (meets_dict_get_default (aX X.prog X.w) a (Ky i) f r) #[_,D.mapOf,h _ _ (I.tok _) ?_]];rw[l];exact(R.val k).getD j
 .subst c;cases (show u=Ξ b from i);let⟨z,f,x,R,D⟩:=QJ I.hok e;erw[U5 SA D.typeIs Uc (T5 _ _ _) (meetsH_dict_get_default (tupleKind$ aX X.prog X.w) a b f r) #[Sm m,k,x,KL I.hok n,D,h _ _ (I.tok _) ?_]];rw[l];exact(R.val k).getD j
end
inductive rZ(d c:TE)(e:St)(Q:VK)(x:V)(b:Hp):Prop
 |mk(a:_)(_:x= .ref a)(_:M4 b a)(_:d e b λy H2=>c e H2 λz H3=>∃o,gu H3 a y o/\Q (o.getD z) H3)
def Gw(t T b:TE):TE:=λa H Q=>t a H (rZ T b a Q)
section
variable {X:Cx}{o e f:dg}{apos cpos:Pos}{td ty tx:TE}
def KY(j:X.A.units+1 < cLine)(k:PE X o td)(l:PE X e ty)(n:PE X f tx)(m:M2 X o "get" apos e f cpos):PE X (.Call (.Attribute o "get" apos) [e,f] [] cpos) (Gw td ty tx):=by
 intro p s b H Q I h;erw[wpAny_Call_method m.base m.few m.line T3 SA PySem.F.type_dict_get$ aV (k p s b H _ I h) λu S c=>?_];let⟨x,q,i,R,a,E,d,t⟩:=c;subst E;obtain rfl:u=Ξ a:=R;let⟨T,v,_⟩:=Ej i d;refine#[T,v,?_];rw[m.trees];refine SH Z (UE (PH (aV (l p S b q _ i t) λO w #[y,B,C,D,G]=>
  PH (aV (n p w b B _ C G) λP U #[z,J,K,L,V,g,M]=>Rh ?_))))
 exact D4 j K g D L λW Y N r=>#[_,J,N,r,M]
end
section
variable {X:Cx}{pins:tz (η×ge)}{σ:St}{H:Hp}{s:ι}{a:η}{kvs:tz (bV×V)}{A:bU}{E:ζ->ι->Prop}
def vg{Q:ζ->ι->Prop}(I:au X pins σ H s)(e:Rd H a (.dK kvs))(h:∀p S,H p=θ->au X pins σ (af H p$ .dK kvs) S->Q (.ref p) S):π (χ X.prog X.w) A (call (.type "dict") [.ref a]) Q E s:=by let⟨z,f,v,r,D⟩:=Kz I.hok e;refine kt_call_dict f D (by rwa[<- r.length]) λi d g=>?_;erw[h _ _ (I.hok.fresh$ NQ _)$ I.laid (a:=s.heap.objs.size) (o:=.dK kvs) (t':=s.toks) (λb q c=>?_) (NQ _)$ Xf z (beq_eq_false_iff_ne.mpr$ Ou$ N8 I.big) r d];exact(g.2 b$ N8$ NT c).trans (NM _ c)
end
section
variable {X:Cx}{pins:tz (η×ge)}{σ:St}{H:Hp}{s:ι}
def u5(d:X.calm=μ):dM X (.builtin "sum") (λx H Q=>∃(p:η) (n:tz Int),x=[.ref p]/\aH X.K H p (n.map sn)/\Q (.int n.sum) H):=by
 intro pins s σ H x U Q I r h;let⟨p,n,rfl,e,q⟩:=h;let⟨u,rfl,R⟩:=eW r;cases R;let⟨i,f,P,k⟩:=I.list e;let b:=Y6 f;let⟨x,c⟩:=b.allInts.items;let a:s.heap.IsList p (intItems x):=c▸P.isList;erw[sum_intListG (I.ok.hd d) a λl t T g=>?_];let E:n=x.toList.map (·.1):=by rw[<- nums_intItems,<- c];exact(show numsOf i.toArray.toList=n from b.numsOf).symm
 let j:preSum (numAt x) x.size=n.sum:=by rw[preSum_eq,O0 WN,E]
 rw[j];exact#[.int n.sum,H,I.kept g,#[_,Z],q]
def QW:dM X (.type "dict") (λx H Q=>∃a k,x=[.ref a]/\H a=δ (.dK k)/\∀p,H p=θ->Q (.ref p) (af H p$ .dK k)):=by intro pins s σ H x U Q I r h;let⟨a,k,rfl,b,q⟩:=h;let⟨u,rfl,R⟩:=eW r;cases R;exact vg I (.inl b) λp S n i=>#[.ref p,_,i,Z,q p n]
end
section
open PySem.W PySem.Calls Builtin Builtin.ObjectAttr
variable {prog:ψ}{w:bF}{A:bU}{E:ζ->ι->Prop}{s:ι}{K:β}{x C:η}{ox:ge}{od:tT ge}{name:ρ}
structure uT(K:β)(C:η):Prop where
 ga:findIn K (.ref C) "__getattribute__"=δ (δ$ .builtin "BaseException.__getattribute__")
 gh:findIn K (.ref C) "__getattr__"=δ θ
 sa:findIn K (.ref C) "__setattr__"=δ (δ$ .builtin "object.__setattr__")
 cl:findIn K (.ref C) "__class__"=δ (δ$ .builtin "object.__class__")
 gt:specialIn K (.builtin "object.__class__") "__get__"=δ (δ$ .builtin "getset_descriptor.__get__")
 tk:takesIn K (.builtin "object.__class__")=δ μ
 mb:mroIn K C (.type "BaseException")=δ μ
 mo:mroIn K C (.type "object")=δ μ
 hd:hasDictIn K C=μ
abbrev su:tz ζ:=[.type "ValueError",.type "Exception",.type "BaseException",.type "object"]
end
section
open PySem.W PySem.Calls
variable {prog:ψ}{w:bF}{A:bU}{E:ζ->ι->Prop}{R:Result->ι->Prop}{K:β}{h:cJ}{g:Array GenState}{d:Drawn}{t:Nat}{os:OsState}{C B:η}
def sR(q:excIn K C su "ValueError.__new__"=μ):(∃p q N r f a s sub u c D k i j m o,K.lookup C=δ (excClassObj p q C N r f a s sub u c D k i j m o "ValueError.__new__")/\tailIn K su f=μ/\nsOkIn K N=μ/\nsIn K N "__init__"=δ θ):=by
 unfold excIn at q;split at q
 .rename_i D z S F
  split at q
  .rename_i O f k i j m n o x y
   simp only[Pa,beq_iff_eq,Vb]at q;obtain⟨⟨⟨⟨⟨rfl,rfl⟩,H⟩,G⟩,b⟩,e⟩:=q;let⟨p,r,M,I,Q,J,s,sub,u,c,L⟩:=z;dsimp only at x H b e;subst x H;let v:S=(ε [k,i,j,m,δ$ .builtin "ValueError.__new__",o]):=by let⟨l⟩:=S;simp only at y;rw[y]
   subst v;exact#[p,Q,I,r,f,J,s,sub,u,c,D,k,i,j,m,o,F,G,b,e]
  .cases q
 .cases q
end
def aP.obj{P:ψ}{a:η}(x:aP P w H h a o):∃u,h.get? a=δ u:=by
 cases o with
 |lst X=>let⟨_,_,_,_,e⟩:=x;exact#[_,e]
 |tup X=>let⟨_,_,_,o,e,_⟩:=x;exact#[_,e]
 |dK k |dT k=>let⟨_,_,_,_,o,_,_,e,_⟩:=x;exact#[_,e]
 |set S n=>let⟨o,_,_,_,e,_⟩:=x;exact#[_,e]
 |ins C d F=>let⟨_,_,_,e,_⟩:=x;exact#[_,e]
 |own y=>let⟨_,e⟩:=x;exact#[_,e]
 |xd F=>obtain⟨_,⟨_,_,_,e,_⟩,_⟩:=x;exact#[_,e]
 |rng lo b=>let⟨_,_,_,e⟩:=x;exact#[_,e]
 |frz O u=>let⟨e,_⟩:=x;exact#[_,e]
 |tbl p |met f y=>exact#[_,(show h.get? a=δ _ from x)]
 |ext c=>obtain⟨_,⟨_,e⟩,_⟩:=x;exact#[_,e]
def au.laidN{X:Cx}{h':cJ}{a:η}{o:HO}{t':Nat}(I:au X p g H s)(k:∀b u,s.heap.get? b=δ u->h'.get? b=δ u)(d:s.heap.get? a=θ)(N:aP X.prog X.w (af H a o) h' a o):
  H a=θ/\au X p g (af H a o) { s with heap:=h',toks:=t' }:=by
 let i:∀b u,s.heap.get? b=δ u->b≠a:=λb u q z=>by rw[z,d]at q;cases q
 let h:H a=θ:=by
  cases q:H a with
  |none=>rfl
  |some u=>let⟨U,e⟩:=(I.hok a u q).obj;rw[d]at e;cases e
 refine#[h,I.un ?_ ?_]
 .exact { keep:=λb u q _ _ _=>k b u q,slot:=λb u q _ _ _=>#[u.slots,k b u q],free:=λb u q n _=>by rwa[jh$ i b u q],there:=λb u q _=>#[u,k b u q],tups:=λb x q=>by rwa[jh$ jk q h],frzs:=λb u x q=>by rwa[jh$ jk q h],tbls:=λb P q=>#[(ε []),by rw[jh$ jk q h,q];simp] }
 .intro b u e;by_cases f:b=a
  .subst f;rw[jc]at e;cases e;exact N
  .rw[jh f]at e;exact(I.hok b u e).stay (λc v _ q=>k c v q) (λc q=>by rwa[jh$ jk q h]) λc x q=>by rwa[jh$ jk q h]
noncomputable def CN(C:η)(d:tT η)(x:η):HO:=.ext λh=>∃o,h.get? x=δ o/\o.cls= .ref C/\notCls o=μ/\o.dict=d/\∃v,o.data= .fields v/\v[1]?=δ .none
def Eb{P:ψ}{h:cJ}(e:h.get? x=δ o)(a:o.cls= .ref C)(b:notCls o=μ)(c:o.dict=d)(f:∃v,o.data= .fields v/\v[1]?=δ .none):aP P w H h x (CN C d x):=
 #[#[o,e,a,b,c,f],#[o,e],λg i #[O,E,q] k=>#[O,k O E,q]]
def Cr(C:η):TE:=λa H Q=>∀x,H x=θ->Q (.ref x) (af H x$ CN C θ x)
section
variable {X:Cx}{CX:si}{k:Nat}{f C:η}{fd:fJ}{ps:tz ρ}{sp:Sp}{E:XK}{x m g:ρ}{p pos pos':Pos}{e o value:dg}{es:tz dg}{ta tv:TE}{t:TA}
def QX(M:excIn X.K C su "ValueError.__new__"=μ)(l:iu X.K (.ref C)=μ)(n:Gl X x)(r:X.mg x=↑C)(c:↥((x==("__debug__":ρ))=ν)):
  PE X (.Call (.Name x p) [] [] pos) (Cr C):=by
 intro P s D H Q I h;erw[OP$ zZ I n r ?_ c];erw[Td I.kIn l ?_];let⟨G,q,N,J,L,j,S,sub,O,u,R,U,V,Y,k3,k5,v,w,b,i⟩:=sR M;let y:=I.kIn _ _ v;let⟨hp,g,d,T,os⟩:=s;erw[wpAny_call_exc_subT PySem.F.excBase_ValueError (PySem.W.tail_of_in I.kIn w) y (.of_isNs$ PySem.W.isNs_of_in I.kIn b) (PySem.W.nsMap_none_of_in I.kIn b i) (λh' e m=>?_)$ NY _];let⟨t,z,_,_⟩:=m.there;let⟨A,B⟩:=I.laidN (a:=e) (h':=h') (o:=CN C θ e) (t':=T) m.keeps m.new (Eb z Z Z Z #[_,Z,Z]);exact#[.ref e,_,B,Z,h e A]
end
def au.turnedN{X:Cx}{p:tz (η×ge)}{d:St}{H:Hp}{s:ι}{g:cJ}{t':Nat}{f:tz η}(I:au X p d H s)(a:∀b∈f,gw X p H b)(k:∀b o,b∉f->s.heap.get? b=δ o->g.get? b=δ o):
  au X p d H { s with heap:=g,toks:=t' }:=by
 let N:∀b u,H b=δ u->b∉f:=λb u e z=>by rw[(a b z).1]at e;cases e
 refine I.step (g':=s.gens) (d':=s.drawn) (ch:=f) (λb i=>?_) (λb o _ _ h e _=>k b o h e) (λb o _ _ h e _=>#[o.slots,k b o h e]) (λ_ _ _ _ n=>n)
  (λb o h e=>#[o,k b o h e]) (λ_ _ e=>e) (λ_ _ _ e=>e) (λb P e=>#[(ε []),by rw[e];simp]) (λm j=>?_) (λb u e=>?_) I.bare
 .let⟨A,F,B,l,t,w⟩:=a b i;exact#[l,F,t,w]
 .let⟨o,E,x,y,r⟩:=j;exact#[o,E,x,k _ o (λz=>(a _ z).2.1 Z) y,r]
 .refine(I.hok b u e).stay (λc v h q=>k c v ?_ q) (λ_ q=>q) λ_ _ q=>q;rcases h with z |z
  .rw[z];exact N b u e
  .exact N c _ z
section
variable {M:Model}{A:bU}{E:ζ->ι->Prop}{s:ι}
structure dB(fl:ζ)(lO:tz η)(x:η)(ox:ge)(h h':cJ):Prop where
 ex:∃T oT ts,h.objs.size<=T/\h'.get? x=δ (gb (·.setIfInBounds 1 (.ref T)) ox)/\h'.get? T=δ oT/\oT.data= .fields ts/\ts[3]?=δ fl
 keep:∀b o,b∉lO->b≠x->h.get? b=δ o->h'.get? b=δ o
 slot:∀b o,b≠x->h.get? b=δ o->∃sl,h'.get? b=δ { o with slots:=sl }
def QY{Q:Unit->ι->Prop}
  (t:A.frames=δ (d::O)) (F:s.heap.FunFrames G (d::O)) (N:d.frame=δ L)
  (I:s.heap.get? x=δ u) (v:u.data= .fields J) (w:1 < J.size)
  (h:∀K,dB (rawInt L) ((d::O).filterMap (·.frame)) x u s.heap K->Q () { s with heap:=K }):
  π M A (do let a <- frameOf d;let p <- entryPlaceOf L q;let b <- EntryCells.newEntry f a .none (rawInt L) .none p;setField (.ref x) 1 b) Q E s:=by
 let y:x∉(d::O).filterMap (·.frame):=λP=>by let⟨_,o,r,z⟩:=F.mem P;rw[I]at r;injection r with r;subst r;exact z J v
 erw[NJ$ wpAny_frameOf_fun t F N λH c=>?_];erw[NJ$ wpAny_entryPlaceOf λp B=>?_];unfold EntryCells.newEntry newFields;erw[NJ$ OB ?_$ B.sizeOk5 _ _ _ _ _];let g:H.get? x=δ u:=(c.2.1 x y).trans I;let i:=NM (h:=H) { cls:=.type "traceback",dict:=θ,data:=.fields ([f,.ref L,.none,rawInt L,.none]++(if p.isEmpty then kz 6 γ else p)).toArray } g;erw[ON i v w$ h _ ?_];let C:H.objs.size≠x:=OS (NT g);let j:=Ox v (·.setIfInBounds 1 (Ξ H.objs.size));let l:=Oz (gb (·.setIfInBounds 1 (Ξ H.objs.size))) i (O7 j);let k:∀b o,b≠x->H.get? b=δ o->((H.push { cls:=.type "traceback",dict:=θ,data:=.fields ([f,.ref L,.none,rawInt L,.none]++(if p.isEmpty then kz 6 γ else p)).toArray }).update x$ gb (·.setIfInBounds 1 (Ξ H.objs.size))).get? b=δ o:=λb o D e=>by rw[Of _ _$ Ou D];exact NM _ e
 let m:=(Of (H.push { cls:=.type "traceback",dict:=θ,data:=.fields ([f,.ref L,.none,rawInt L,.none]++(if p.isEmpty then kz 6 γ else p)).toArray })
  (gb (·.setIfInBounds 1 (Ξ H.objs.size))) (Ou C)).trans (NV H Z)
 refine#[#[H.objs.size,_,_,Tu c.1.symm,l,m,Z,WN],λb o D n e=>k b o n ((c.2.1 b D).trans e),λb o n e=>?_];let⟨S,R⟩:=c.2.2 b o e;exact#[S,k b _ n R]
def Za{Q:Unit->ι->Prop}
  (H:A.frames=δ (e::o)) (i:s.heap.FunFrames b (e::o)) (a:e.frame=δ L)
  (c:s.heap.get? x=δ O) (d:O.data= .fields v) (f:v[1]?=δ .none)
  (h:∀g,dB (rawInt L) ((e::o).filterMap (·.frame)) x O s.heap g->Q () { s with heap:=g }):
  π M A (noteFrame (.ref x) e) Q E s:=by
 unfold noteFrame;simp only[a];erw[NJ$ Oo c d f ?_];rw[N7 WL];exact QY H i a c d (bm.mp f).1 h
def Eo{lO:tz η}{Q:Unit->ι->Prop}(N:dB C lO x O H s.heap)(j:H.get? x=δ O)(v:O.data= .fields w)(k:1 < w.size)
  (h:∀p,dB .none lO x O H p->Q () { s with heap:=p }):π M A (setFlight (.ref x) θ) Q E s:=by
 let⟨T,D,F,c,r,t,g,y⟩:=N.ex;let l:=Ox v (·.setIfInBounds 1 (Ξ T));let m:T≠x:=λz=>absurd (Oc (NT j) (by rwa[<- z])) (OV _);unfold setFlight;refine NJ$ Oo r l (x:=.ref T) (by simp [k]) ?_;rw[N0 (show(Ξ T != γ)=μ from by simp)];let i:=(bm.mp y).1;erw[ON t g i$ h _ ?_];let a:=Ox g (·.setIfInBounds 3 ((θ:tT η).elim γ λf=>rawInt f));let n:=Oz (gb (·.setIfInBounds 3 ((θ:tT η).elim γ λf=>rawInt f))) t (O7 a);let u:∀b o,H.get? b=δ o->T≠b:=λb o e z=>absurd (Oc (NT e) (by rwa[<- z])) (OV _);refine#[#[T,_,_,c,by rwa[Of _ _ m],n,a,by simp [i]],λb o B d e=>?_,λb o d e=>?_]
 .rw[Of _ _$ u b o e];exact N.keep b o B d e
 .let⟨S,q⟩:=N.slot b o d e;exact#[S,by rwa[Of _ _$ u b o e]]
def Yy{base:cJ}{Q:Unit->ι->Prop}
  (a:A.frames=δ (e::o)) (f:s.heap.FunFrames base (e::o)) (g:e.frame=δ L)
  (b:s.heap.get? x=δ O) (c:O.data= .fields v) (d:v[1]?=δ .none)
  (h:∀H,dB .none ((e::o).filterMap (·.frame)) x O s.heap H->Q () { s with heap:=H }):
  π M A (leaving e$ .ref x) Q E s:=by
 unfold leaving;exact NJ$ Za a f g b c d λH N=>Eo (s:={ s with heap:=H }) N b c (bm.mp d).1 h
noncomputable abbrev ff(T:η)(h:cJ):cJ:=h.update T (gb (·.setIfInBounds 3 γ))
def QZ{base:cJ}{Q:Unit->ι->Prop}
  (f:A.frames=δ (e::O)) (w:s.heap.FunFrames base (e::O)) (j:e.frame=δ L)
  (k:s.heap.get? x=δ l) (m:l.data= .fields v) (p:v[1]?=↑T) (g:T≠x) (i:s.heap.get? T=δ y) (c:y.data= .fields t) (r:t[3]?=δ .none)
  (h:∀u,dB (rawInt L) ((e::O).filterMap (·.frame)) x l (ff T s.heap) u->Q () { s with heap:=u }):
  π M A (noteFrame (.ref x) e) Q E s:=by
 unfold noteFrame;simp only[j];erw[NJ$ Oo k m p ?_];rw[N0 (show(Ξ T != γ)=μ from by simp)];erw[NJ$ Oo i c r ?_];rw[N7 (show ¬((γ==rawInt L)=μ) from by simp [rawInt])];erw[NJ$ ON i c (bm.mp r).1 ?_];let a:∀b,b≠T->(ff T s.heap).get? b=s.heap.get? b:=λb H=>Of _ _ (Ou H);let n:∀b o,s.heap.get? b=δ o->(∀v,o.data≠ .fields v)->b≠T:=λb o H d q=>by rw[q,i]at H;injection H with H;subst H;exact d t c
 exact QY (s:={ s with heap:=ff T s.heap }) f (w.of_keeps λb o H d=>#[o,(a b$ n b o H d).trans H,Z]) j ((a x$ Ou g).trans k) m (bm.mp p).1 h
def Zb{base:cJ}{Q:Unit->ι->Prop}
  (b:A.frames=δ (e::o)) (i:s.heap.FunFrames base (e::o)) (j:e.frame=δ L)
  (d:s.heap.get? x=δ O) (f:O.data= .fields v) (g:v[1]?=↑T) (H:T≠x) (k:s.heap.get? T=δ l) (c:l.data= .fields t) (m:t[3]?=δ .none)
  (h:∀a,dB .none ((e::o).filterMap (·.frame)) x O (ff T s.heap) a->Q () { s with heap:=a }):
  π M A (leaving e$ .ref x) Q E s:=by
 unfold leaving;exact NJ$ QZ b i j d f g H k c m λa N=>Eo (s:={ s with heap:=a }) N ((Of _ _ H).trans d) f (bm.mp g).1 h
end
noncomputable def iE(C:η)(d:tT η)(T x:η):HO:=.ext λh=>∃o v,h.get? x=δ o/\o.cls= .ref C/\notCls o=μ/\o.dict=d/\o.data= .fields v/\v[1]?=↑T
noncomputable def g9(T:η):HO:=.ext λh=>∃o t,h.get? T=δ o/\o.data= .fields t/\t[3]?=δ .none
def GG{P:ψ}{h:cJ}(e:h.get? x=δ o)(c:o.cls= .ref C)(f:notCls o=μ)(g:o.dict=d)(i:o.data= .fields a)(b:a[1]?=↑T):aP P w H h x (iE C d T x):=
 #[#[o,a,e,c,f,g,i,b],#[o,e],λb j #[O,v,E,q] k=>#[O,v,k O E,q]]
def yM{P:ψ}{h:cJ}(e:h.get? T=δ o)(b:o.data= .fields a)(c:a[3]?=δ .none):aP P w H h T (g9 T):=
 #[#[o,a,e,b,c],#[o,e],λd f #[O,t,E,q] k=>#[O,t,k O E,q]]
def gr(P:ψ)(w:bF):si:=λo H s E e S=>∃x C d T h,e= .ref x/\S.os=s.os/\AllBare S.gens/\Un (lO o) [] H h s.heap S.heap/\fV P w h S.heap/\
 h x=δ (iE C d T x)/\h T=δ (g9 T)/\T≠x/\E (.ref C) d h
section
variable {X:Cx}{pins:tz (η×ge)}{σ:St}{H:Hp}{s:ι}{x C:η}{d:tT η}
theorem dB.hok{fl:ζ}(I:au X pins σ H s)(g:H x=δ (.ext M))(P:s.heap.get? x=δ o)(B:o.cls= .ref C)(D:o.dict=d)(j:o.data= .fields E)(k:1 < E.size)(l:∀b∈G,H b=θ)
  (N:dB .none G x o s.heap J):∃T,H T=θ/\T≠x/\s.heap.objs.size<=T/\fV X.prog X.w (af (af H T$ g9 T) x$ iE C d T x) J:=by
 let⟨T,Q,R,h,m,F,n,p⟩:=N.ex;let i:H T=θ:=I.hok.fresh h;let r:T≠x:=Ou (jk g i);let a:=Ox j (·.setIfInBounds 1 (Ξ T));refine#[T,i,r,h,λb u e=>?_];by_cases t:b=x
 .subst t;rw[jc]at e;cases e;refine GG m ((RM _ _).trans B) ?_ ?_ a (by simp [k])
  .unfold notCls;rw[a]
  .let⟨S,U,O,K⟩:=o;simp only at j;subst j;exact D
 .rw[jh t]at e;by_cases f:b=T
  .subst f;rw[jc]at e;cases e;exact yM F n p
  .rw[jh f]at e;refine(I.hok b u e).stay (λc v A q=>?_) (λc q=>?_) λc V q=>?_
   .let y:c≠x:=by
     rcases A with z |z
     .rwa[z]
     .exact jR z g (by intro q;cases q)
    erw[N.keep c v (λL=>?_) y q];let:=l c L;rcases A with z |z
    .rw[z,e]at this;cases this
    .rw[z]at this;cases this
   .rw[jh$ jR q g (by intro z;cases z),jh$ jk q i];exact q
   .rw[jh$ jR q g (by intro z;cases z),jh$ jk q i];exact q
def dB.un{h':cJ}(I:au X pins σ H s)(hex:X.ex=[])(j:H x=δ (.ext k))(l:H T=θ)(c:s.heap.objs.size<=T)(f:∀b∈p,b∈X.fs∨X.s₀.heap.objs.size<=b)
  (N:dB .none p x y s.heap h'):Un X.fs [] X.H₀ (af (af H T$ g9 T) x$ iE C d T x) X.s₀.heap h':=by
 let g:∀b,H b=θ->b≠x:=λb e z=>by rw[z,j]at e;cases e
 let r:∀b o,X.s₀.heap.get? b=δ o->b≠T:=λb o e=>N8 (Oc (NT e)$ N6 I.sz c);let a:∀b:η,b∉X.ex:=λb z=>by rw[hex]at z;cases z
 let t:∀b,H b=θ->b≠T->af (af H T$ g9 T) x (iE C d T x) b=θ:=λb e z=>by rwa[jh$ g b e,jh z]
 let U:∀b u,H b=δ u->(∀k,u≠ .ext k)->af (af H T$ g9 T) x (iE C d T x) b=δ u:=λb u e z=>by rw[jh (λq=>by rw[q,j]at e;cases e;exact z _ Z),jh$ jk e l];exact e
 refine#[λb o e n h _=>?_,λb o e n h _=>?_,λb o e n _=>?_,λb o e _=>?_,λb v e=>U b _ (I.base.tups b v e) (by intro _ q;cases q),λb o u e=>U b _ (I.base.frzs b o u e) (by intro _ q;cases q),λb P e=>?_]
 .refine N.keep b o (λz=>?_) (g b$ I.base.free b o e n$ a b)$ I.base.keep b o e n h$ a b;rcases f b z with q |q
  .exact h q
  .exact absurd (Oc (NT e) q)$ OV _
 .let⟨w,q⟩:=I.base.slot b o e n h (a b);let⟨S,Q⟩:=N.slot b _ (g b$ I.base.free b o e n$ a b) q;exact#[S,Q]
 .exact t b (I.base.free b o e n$ a b)$ r b o e
 .let⟨O,q⟩:=I.base.there b o e (a b);by_cases h:b=x
  .let⟨A,_,_,_,i,_⟩:=N.ex;exact#[_,by rwa[h]]
  .let⟨w,Q⟩:=N.slot b O h q;exact#[_,Q]
 .let⟨m,q⟩:=I.base.tbls b P e;exact#[m,U b _ q (by intro _ q;cases q)]
end
section
variable {P:ψ}{w:bF}{K:β}{mg:ρ->tT ζ}{base:cJ}{N:tz ρ}{qual:ρ}{scope:hY}{f:η}{cd:ζ}{A:bU}{outer:tz Env}{s₀:ι}{H₀:Hp}{E:XK}
variable {pins:tz (η×ge)}{σ:St}{H:Hp}{s:ι}{x C:η}{d:tT η}
def y8(I:au (gA (gr P w) P w K mg base N qual scope f cd A outer s₀ H₀ E) pins σ H s)(c:H x=δ (CN C d x))
  (h:∀T,H T=θ->E (.ref C) d (af (af H T$ g9 T) x$ iE C d T x)):(gA (gr P w) P w K mg base N qual scope f cd A outer s₀ H₀ E).xe (.ref x) s:=by
 obtain⟨⟨O,l,q,t,r,v,m,n⟩,_⟩:=I.hok x _ c;let g:=(bm.mp n).1;erw[Yy (base:=base) I.ok.frames I.stack Z l m n λy o=>?_];let⟨T,p,a,i,j⟩:=o.hok (C:=C) (d:=d) (fl:=.none) I c l q r m g λb k=>I.stkFree b k;let u:=o.un (C:=C) (d:=d) I Z c p i λb k=>by
  rcases Θ.mp (I.stkSub b k) with e |e
  .exact .inr (by rw[e];exact I.ok.above)
  .exact .inl e
 exact#[x,C,d,T,_,Z,I.os,I.bare,u,j,jc,by rw[jh a,jc],a,h T p]
def au.cleared{X:Cx}(I:au X pins σ H s)(c:H T=δ (g9 T))(i:s.heap.get? T=δ O)(j:O.data= .fields t)(k:t[3]?=δ .none):au X pins σ H { s with heap:=ff T s.heap }:=by
 let h:=Ox j (·.setIfInBounds 3 γ);let g:=Oz (gb (·.setIfInBounds 3 γ)) i (O7 h);let:=I.write (x:=T) (e:=T) (o:=g9 T) (h':=ff T s.heap) (t':=s.toks) (by rw[c];exact True.intro) (.inl Z) (λb u a q=>(Of _ _$ Ou a).trans q) #[_,g] (yM g h (by simp [(bm.mp k).1]));let l:af H T (g9 T)=H:=by
  funext b;by_cases a:b=T
  .rw[a,jc,c]
  .rw[jh a]
 rw[l]at this;exact this
def CB(I:au (gA (gr P w) P w K mg base N qual scope f cd A outer s₀ H₀ E) pins σ H s)(g:H x=δ (iE C d T x))(n:H T=δ (g9 T))(c:T≠x)
  (h:∀t,H t=θ->E (.ref C) d (af (af H t$ g9 t) x$ iE C d t x)):(gA (gr P w) P w K mg base N qual scope f cd A outer s₀ H₀ E).xe (.ref x) s:=by
 obtain⟨⟨O,V,o,D,G,F,p,q⟩,_⟩:=I.hok x _ g;obtain⟨⟨J,L,r,u,v⟩,_⟩:=I.hok T _ n;let i:=(bm.mp q).1;let y:=I.cleared n r u v;erw[Zb (base:=base) I.ok.frames I.stack Z o p q c r u v λM z=>?_];let j:(ff T s.heap).get? x=δ O:=(Of _ _ c).trans o;let⟨t,B,a,k,l⟩:=dB.hok (C:=C) (d:=d) (fl:=.none) y g j D F p i (λb m=>I.stkFree b m) z;let U:=dB.un (C:=C) (d:=d) y Z g B k (λb m=>by
  rcases Θ.mp (I.stkSub b m) with e |e
  .exact .inr (by rw[e];exact I.ok.above)
  .exact .inl e) z
 exact#[x,C,d,t,_,Z,I.os,I.bare,U,l,jc,by rw[jh a,jc],a,h t B]
def Bo{j:XK}(m:∀x C d T t a,a x=δ (iE C d T x)->a T=δ (g9 T)->a t=θ->j (.ref C) d a->E (.ref C) d (af (af a t$ g9 t) x$ iE C d t x)):
  dC (gr P w) (gA (gr P w) P w K mg base N qual scope f cd A outer s₀ H₀ E) j:=by
 intro pins σ H s e S I h;let⟨x,C,d,T,a,rfl,os,B,u,c,k,l,i,n⟩:=h;let⟨p,g,D,q,o⟩:=S;obtain rfl:o=s.os:=os;let r:=I.call (h':=p) (g':=g) (d':=D) (t':=q) (ch:=[]) u c B (λb z=>absurd z WN);exact CB r k l i λt v=>m x C d T t a k l v n
end
section
open PySem.W
variable {prog:ψ}{w:bF}{A:bU}{E:ζ->ι->Prop}{K:β}{x C:η}{ox:ge}{vs:Array ζ}{env:Env}
def Zc{ev:Sem ζ}(e:A.handled=θ)
  (h:π (χ prog w) A ev (λv S=>∃x C ox vs,v= .ref x/\K.In S.heap/\uT K C/\typeIn K (.ref C)=δ (.type "type")/\S.heap.get? x=δ ox/\ox.cls= .ref C/\ox.data= .fields vs/\vs[1]?=δ .none/\E (.ref x) S) E s):
  π (χ prog w) A (raiseStmt env (δ ev) θ) Q E s:=by
 unfold raiseStmt;erw[NJ$ O2 h (λv S a=>?_) λ_ _ z=>z];let⟨x,C,ox,vs,rfl,X,f,i,b,j,c,m,n⟩:=a;let⟨H,g,d,T,os⟩:=S;let L:Looks (χ prog w) H (typeOf$ .ref x) (.ref C):=j▸(WJ b).andThen .now;let l:Looks (χ prog w) H (isType$ .ref x) ν:=by intro u y B D k q;unfold isType loadHead;erw[NJ$ Ux (k _ _ b) ?_];rw[c];exact NN q
 let _L:=Vp (M:=χ prog w) X f.mb;let o:=looks_typeIn (M:=χ prog w) X i;let L4:Looks (χ prog w) H (isInstance (.ref x)$ .type "BaseException") μ:=L.andThen _L;let p:Looks (χ prog w) H (isExcClass$ .ref x) ν:=by unfold isExcClass;exact l.andThen .now
 let r:Looks (χ prog w) H (raisedInstance$ .ref x) (.ref x):=by unfold raisedInstance;exact L.andThen$ o.andThen (by rw[N0 WL];exact .now)
 let t:Looks (χ prog w) H (excFromValue (.ref x) "exceptions must derive from BaseException") (.ref x):=by unfold excFromValue;exact p.andThen (by rw[N7 WL];exact L4.andThen (by rw[N0 Z];exact .now))
 erw[NJ$ NN ?_];erw[NJ$ Oi$ t.at ?_];dsimp only;erw[NJ$ l.at ?_];rw[N7 WL];erw[NJ$ r.at ?_];unfold setFlight;erw[NJ$ NJ$ Oo b c m ?_];rw[N7 WL];exact NN$ wpAny_raiseNew_none e n
end
def CO(X:Cx)(W:η->η->tT η->Hp->Prop):Prop:=∀(p:tz (η×ge)) (a:St) (H:Hp) (s:ι) (x C:η) (d:tT η),au X p a H s->H x=δ (CN C d x)->W x C d H->X.xe (.ref x) s
def Q0{P:ψ}{K:β}:
  CO (gA (gr P w) P w K m b N q s f g A o a c E) (λx C d H=>∀T,H T=θ->E (.ref C) d (af (af H T$ g9 T) x$ iE C d T x)):=
 λ_ _ _ _ _ _ _ I e h=>y8 I e h
inductive rn(K:β)(b:η->η->tT η->Hp->Prop)(v:V)(a:Hp):Prop
 |mk(x C d:_)(_:v= .ref x)(_:a x=δ (CN C d x))(_:uT K C)(_:typeIn K (.ref C)=δ (.type "type"))(_:b x C d a)
def Gc(K:β)(t:TE)(W:η->η->tT η->Hp->Prop):TS:=λ_u0 a H=>t a H (rn K W)
def X6{X:Cx}{e:dg}{t:TE}{P:Pos}{W:η->η->tT η->Hp->Prop}(f:X.calm=μ)(F:CO X W)(g:PE X e t):PS X (.Raise (δ e) θ P) (Gc X.K t W):=by intro p s b H D I h;rw[arm_exec_Raise];erw[NJ$ Rk ?_];erw[Zc (K:=X.K) (ev:=do let v <- eval e X.env;standAt P;pure v) (I.ok.hd f)$ NJ$ aV (g p s b H _ I h) λu S a=>NJ (Rk$ NN ?_)];let⟨v,j,i,r,x,C,d,ev,c,k,l,q⟩:=a;subst ev;obtain rfl:u=Ξ x:=r;obtain⟨⟨o,m,n,z,A,V,w,y⟩,_⟩:=i.hok x _ c;exact#[x,C,o,V,Z,i.kIn,k,l,m,n,w,y,F p b j S x C d i c q]
section
variable {X:Cx}{pins:tz (η×ge)}{σ:St}{H:Hp}{s:ι}{x C:η}{d:tT η}
def au.noted{t':Nat}(I:au X pins σ H s)(a:H x=δ (.ext l))(p:s.heap.get? x=δ O)(r:O.cls= .ref C)(t:O.dict=d)(v:O.data= .fields w)(c:1 < w.size)
  (N:dB .none (lO X.stack) x O s.heap y):∃T,H T=θ/\T≠x/\au X pins σ (af (af H T$ g9 T) x$ iE C d T x) { s with heap:=y,toks:=t' }:=by
 let⟨T,m,f,g,i⟩:=dB.hok (C:=C) (d:=d) (fl:=.none) I a p r t v c (λb h=>I.stkFree b h) N;let j:∀b,H b=θ->b≠x:=λb e z=>by rw[z,a]at e;cases e
 let U:∀b u,H b=δ u->(∀l,u≠ .ext l)->af (af H T$ g9 T) x (iE C d T x) b=δ u:=λb u e z=>by rw[jh (λq=>by rw[q,a]at e;cases e;exact z _ Z),jh$ jk e m];exact e
 refine#[T,m,f,I.call (g':=s.gens) (d':=s.drawn) (ch:=[]) ?_ i I.bare (λb z=>absurd z WN)];refine#[λb o e n h _=>N.keep b o h (j b n) e,λb o e n _ _=>N.slot b o (j b n) e,λb o e n _=>?_,λb o e _=>?_,λb A e=>U b _ e (by intro _ q;cases q),λb o u e=>U b _ e (by intro _ q;cases q),λb P e=>#[(ε []),by rw[U b _ e (by intro _ q;cases q)];simp]]
 .rwa[jh$ j b n,jh$ N8$ Oc (NT e) g]
 .by_cases h:b=x
  .let⟨B,_,_,_,k,_⟩:=N.ex;exact#[_,by rwa[h]]
  .let⟨S,q⟩:=N.slot b o h e;exact#[_,q]
end
noncomputable abbrev Cx.mark(X:Cx)(e:ζ)(xe:ζ->ι->Prop):Cx:={ X with A:=X.A.mark (δ e),calm:=ν,xe:=xe }
theorem au.mark{X:Cx}(I:au X p a H s)(e:ζ)(x:ζ->ι->Prop):au (X.mark e x) p a H s:=
 #[#[I.ok.mod,I.ok.kind,I.ok.glob,I.ok.blt,I.ok.above,I.ok.inj,I.ok.has,I.ok.cab,(λz=>nomatch (show ν=μ from z)),I.ok.frames,I.ok.stk,I.ok.exf,I.ok.bs,I.ok.bsz,I.ok.noex,I.ok.exfs,I.ok.funs,I.ok.frf],I.os,I.bare,I.base,I.loc,I.cell,I.free,I.freeC,I.pin,I.hok,I.len]
def au.unmark{X:Cx}(o:X.Ok)(I:au (X.mark e x) p a H s):au X p a H s:=
 #[o,I.os,I.bare,I.base,I.loc,I.cell,I.free,I.freeC,I.pin,I.hok,I.len]
section
open PySem.W
def Qw{K:β}(X:K.In h)(a:h.get? x=δ o)(b:o.cls= .ref C)(H:clsIn K B≠θ)(tB:typeIn K (.ref B)=δ (.type "type"))(m:mroIn K B (.type "BaseException")=δ μ)(c:mroIn K C (.ref B)=δ μ):
  Looks M h (excMatches (.ref x)$ .ref B) μ:=by
 let L:Looks M h (typeOf$ .ref x) (.ref C):=b▸(WJ a).andThen .now;let l:=looks_typeIn (M:=M) X tB;let _L:Looks M h (isInstance (.ref B)$ .type "tuple") ν:=l.andThen (VB tc_notTuple);let d:Looks M h (isType$ .ref B) μ:=by
  unfold clsIn at H;split at H
  .rename_i e
   intro A Q E s k q;unfold isType loadHead;exact NJ$ Ux (k _ _$ X _ _ e)$ NN q
  .exact absurd Z H
 let L4:Looks M h (isExcClass$ .ref B) μ:=by unfold isExcClass;exact d.andThen (by rw[N0 Z];exact Vp X m)
 let f:=Vp (M:=M) X c;intro A Q E s k q;unfold excMatches;erw[NJ$ _L A _ E s k ?_];rw[N7 WL];erw[NJ$ NN ?_];dsimp only;erw[NJ ?_];rw[Ra];erw[NJ$ NJ$ L4 A _ E s k ?_];simp only[RX,N9,Pg];erw[NN ?_];dsimp only;rw[Sa];erw[NN ?_];erw[NJ$ L A _ E s k ?_];erw[NJ ?_];rw[Ra];erw[NJ$ NJ$ f A _ E s k ?_];simp only[R4];erw[NN$ NN ?_];exact NN q
end
abbrev XR:=η->η->tT η->η->Hp->Prop
def XW(X:Cx)(p:tz (η×ge))(a:St)(R:XR)(e:ζ)(s:ι):Prop:=
 ∃x C d T H,e= .ref x/\au X p a H s/\H x=δ (iE C d T x)/\H T=δ (g9 T)/\T≠x/\R x C d T H
abbrev Mc:=St->Hp->VK->XR->Prop
abbrev Me:=bh->XR->St->Hp->Prop
def M7(X:Cx)(e:dg)(t:Mc):Prop:=
 ∀(p:tz (η×ge)) (s:ι) (a:St) (H:Hp) (Q:VK) (R:XR),au X p a H s->t a H Q R->π (χ X.prog X.w) X.A (eval e X.env) (EP X p a Q) (XW X p a R) s
def M'(X:Cx)(st:cc)(t:Me):Prop:=
 ∀(p:tz (η×ge)) (s:ι) (a:St) (H:Hp) (D:bh) (R:XR),au X p a H s->t D R a H->π (χ X.prog X.w) X.A (exec st X.env) (SP X p D) (XW X p a R) s
def Nn(R:XR):XK:=λc d H=>∀x C T,c= .ref C->H x=δ (iE C d T x)->H T=δ (g9 T)->T≠x->R x C d T H
def Gv(s:Sp)(d:tz V)(t:TA):Mc:=λa H Q R=>t a H λv h=>s (v++d) h Q (Nn R)
section
variable {X:Cx}{k:Nat}{f:η}{fd:fJ}{ps:tz ρ}{sp:Sp}{dvs:tz V}{ds:tz ζ}{x:ρ}{p pos:Pos}{e:dg}{es:tz dg}{t:TA}{te:Mc}
noncomputable def wX(F:ah X.prog X.w X.K X.mg X.base (gr X.prog X.w) k f fd ps sp)(y:bY k X.A)(D:Gl X x)(E:X.mg x=↑f)(G:iu X.K (.ref f)=μ)(J:aE X.K fd ps ds)(L:aD dvs ds)
  (M:PA X.nox (e::es) t) (g:↥((x==("__debug__":ρ))=ν)) (N:↥(Δ (e::es) X.env=(ν,eval e X.env)::Δ es X.env)) (j:↥((fy pos$ Δ es X.env).any (·.1)=ν)):
  M7 X (.Call (.Name x p) (e::es) [] pos) (Gv sp dvs t):=by
 intro P s O H Q R I h;erw[OP$ zZ I D E ?_ g];erw[TH (h₀:=X.base) I.ok.mod.kin G (O2 (M pos P s O H _ (I.wish _) h) (λU S #[v,W,i,r,q]=>#[i.kIn,?_]) λ_ _ z=>z.elim) N j];let i:=i.unwish;let m:aD (v++dvs) (U++ds):=r.append L;let Y:(U++ds).length=ps.length:=by rw[<- m.length];exact F.len _ _ _ _ q
 erw[Uz$ Rx (F.run X.A X.stack S W #[U,[]] (U++ds) (v++dvs) Q (Nn R) y i.env0 (J S U i.kIn Y) m q) λr s' a=>?_];cases r with
 |error e=>let⟨x,C,d,T,H',rfl,os,B,un,l,n,o,c,hw⟩:=a;exact#[x,C,d,T,H',Z,i.call' os un l B (λb z=>absurd z WN),n,o,c,hw x C T Z n o c]
 |ok fl=>
  cases fl with
  |ret u=>exact i.after a
  |next |brk |cont=>exact False.elim a
noncomputable def Bv{i:Nat}{y:ρ}{P:Pos}(d:X.N.Nodup)(g:X.N[i]?=δ y)(j:uP X.env.scope y)(l:M7 X e te)(m:↥(swapsWith e (δ$ .Name y P) pos.line X.env=pure ν))(n:autoParam (X.fn y=μ∨X.env.scope.names.lookup y=δ .local) Wx._auto_1):
  M' X (.Assign [.Name y P] e pos) (λD R b H=>te b H (λv c=>D.nx (b.set i$ δ v) c) R):=by
 intro a s b H D R I h;erw[VR (aV (l a s b H _ R I h) λv S z=>?_) m];let⟨y,c,o,r,q⟩:=z;exact zP o d g j r (λw u=>#[_,c,u,q]) n
end
def aO.ok1{P:ψ}{K:β}{st:cc}{f:η}{k:Nat}{a:Sp}(F:aO K x q st f g)(S:aj N p (ae st))
  (h:∀(c:ζ) (A:bU) (o:tz Env) (s:ι) (H:Hp) (v:tz V) (Q:VK) (E:XK),bY k (A.deeper$ envOfC q (ae st) s.heap.objs.size f c)->a v H Q E->
   ∃t,nF (gA (gr P w) P w K m b N q (ae st) f c A o s H E) (bJ st) t/\t { nx:=λ_ i=>Q .non i,rt:=Q } (gW N v) H)(len:∀v H Q E,a v H Q E->v.length=p.length:=by rintro _ _ _ _⟨⟩;subst_vars;rfl):ah P w K m b (gr P w) (k+1) f g p a:=by
 let⟨l,n,kV,D,r,u,c,C,O,rfl,lk,d⟩:=F.ex;exact C8 lk d S len λA o s H v Q E j e=>h c A o s H v Q E j e
end _L
namespace _L
open PySem PySem.Spec PyProof.Rows PySem.SeqAt
noncomputable def vv(x y:tz V):Bool:=(dN$ min x.length y.length).all (λj=>oB (x.getD j .non) (y.getD j .non))&&x.length==y.length
section
variable {X:Cx}
def uF(r:aD x i)(R:aD y I)(f:x.all du=μ)(F:y.all du=μ)(j:Nat)(c:j < i.toArray.size)(d:j < I.toArray.size):EqAt A s i.toArray[j] I.toArray[j] (oB (x.getD j .non)$ y.getD j .non):=by
 let L:=r.length;let p:=R.length;let H:j < x.length:=by simp at c;omega
 let h:j < y.length:=by simp at d;omega
 let a:x[j]?=δ x[j]:=NK H;let b:y[j]?=δ y[j]:=NK h;let⟨u,q,g⟩:=r.get a;let⟨U,Q,k⟩:=R.get b;let l:=List.all_eq_true.mp f _ (RQ H);let m:=List.all_eq_true.mp F _ (RQ h);let E:i.toArray[j]=u:=by let⟨_,e⟩:=ξ.mp q;simpa using e
 let n:I.toArray[j]=U:=by let⟨_,e⟩:=ξ.mp Q;simpa using e
 let G:x.getD j .non=x[j]:=by rw[OT,a];rfl
 let o:y.getD j .non=y[j]:=by rw[OT,b];rfl
 rw[E,n,G,o];exact vq g k l m
def Fq(f:X.A.units < cLine):fX X (compareOp .Eq) (λx y H Q=>∃a b c Y,x= .ref a/\y= .ref b/\aC X.K H a c/\aC X.K H b Y/\c.all du=μ/\Y.all du=μ/\Q (.bl$ vv c Y) H):=by
 intro p s z H x y v u Q I g k h;let⟨a,b,c,Y,rfl,rfl,l,m,F,n,q⟩:=h;cases g;cases k;let⟨i,r,P,_⟩:=I.tuple l;let⟨d,R,o,_⟩:=I.tuple m;refine eq_tupleAt (e:=λj=>oB (c.getD j .non) (Y.getD j .non)) (show s.heap.IsTuple a i.toArray from P) (show s.heap.IsTuple b d.toArray from o) f (λj t w=>uF r R F n j t w) ?_;let e:((dN$ min i.toArray.size d.toArray.size).all (λj=>oB (c.getD j .non) (Y.getD j .non))&&i.toArray.size==d.toArray.size)=vv c Y:=by unfold vv;rw[NR,NR,<- r.length,<- R.length]
 rw[e];exact#[.bl _,H,I,Z,q]
end
end _L
namespace _L
open PySem PySem.Spec PyProof.Rows
section
variable {prog:ψ}{w:bF}{A:bU}{E:ζ->ι->Prop}{s:ι}
def Zd{Q:Nat->ι->Prop}(H:n≠0)(h:∀i d,i < n->Q i { s with drawn:=d }):π (χ prog w) A (choose a n) Q E s:=by intro Γ p _;show Sem.wp _ Γ (.choose a n .pure) _ _ p s;rw[Sem.wp_choose];exact#[H,h _ _$ WI _$ Nat.pos_of_ne_zero H]
def Yz{α:Type}:∀(n:Nat) (xs:tz α) (s:ι) {Q:tz α->ι->Prop},xs.length=n->(∀ys d,ys.Perm xs->Q ys { s with drawn:=d })->
  π (χ prog w) A (drawOrder n xs) Q E s:=by
 intro n;induction n with
 |zero=>
  intro xs s Q hl h;cases xs with
  |nil=>unfold drawOrder;exact NN$ h [] s.drawn .rfl
  |cons _ _=>cases hl
 |succ n ih=>
  intro xs s Q hl h;cases xs with
  |nil=>cases hl
  |cons x r=>unfold drawOrder;erw[NJ$ Zd WN λi d hi=>?_];let hg:(x::r)[i]?=δ ((x::r)[i]'hi):=NK hi;rw[hg];dsimp only;refine NJ$ ih _ _ (by rw[T7 hi,hl];rfl) λys d' hp=>NN (h _ d' ?_);refine(List.Perm.cons _ hp).trans ?_;rw[Tv];erw[List.perm_middle.symm.trans ?_];rw[O9,Rc]
end
noncomputable def nD:ζ->ρ
 | .str x _=>x
 |_=>#[(ε [])]
def Qx(t:SetTable)(n:Nat):(t.orStandIn n).led=t.led:=by
 unfold SetTable.orStandIn;split
 .rfl
 .rfl
def Ze(t:SetTable)(e:Array (Int×ζ))(h:Int)(x:ζ):(layNew t e h x).2.1.led=t.led:=by
 unfold layNew;split
 .exact Qx _ _
 .rfl
def XE(t:SetTable)(E:Array (Int×ζ))(n:Nat):(relayAll t E n).2.1.led=t.led:=by
 unfold relayAll;split
 .rename_i T o e
  unfold SetTable.relaid SetTable.laid at e;cases h:SetTable.layClean (SetTable.sizeAbove n - 1) (E.map (·.1)) with
  |none=>rw[h]at e;cases e
  |some O=>rw[h]at e;cases e;dsimp only;split<;>rfl
 .rfl
def Ql(t:SetTable)(E:Array (Int×ζ))(n:Nat)(H:t.plain=ν):(relayAll t E n).2.1.plain=ν:=by
 unfold relayAll;split
 .rename_i T o e
  unfold SetTable.relaid SetTable.laid at e;cases h:SetTable.layClean (SetTable.sizeAbove n - 1) (E.map (·.1)) with
  |none=>rw[h]at e;cases e
  |some O=>
   rw[h]at e;cases e;dsimp only;split
   .exact H
   .rfl
 .rfl
def dj(p:ψ)(w:bF)(h:cJ)(a:η)(L:tz ρ):Prop:=
 ∃o E b t,h.get? a=δ o/\o.ExactSet/\o.data= .set E b t/\ElemsOf (cv p w) E.toList/\(E.toList.map λe=>nD e.2).Perm L/\L.Nodup
  /\E.size < scanBound/\t.fits E.size=μ/\t.led=!(w.params.followText "set-order")/\(t.plain=ν∨E.size=0)
def dj.at{H:cJ}{a:η}(x:dj p w h a L)(e:∀o,h.get? a=δ o->H.get? a=δ o):dj p w H a L:=
 let #[o,E,b,t,c,r]:=x;#[o,E,b,t,e o c,r]
section
variable {prog:ψ}{w:bF}{A:bU}{E:ζ->ι->Prop}{s:ι}
def J6{a:Array (Int×ζ)}(b:ElemsOf (cv prog w) a.toList)(x:ρ):
  (a.toList.findIdx? (λe=>(cv prog w).is x e.2)=θ↔¬x∈a.toList.map λe=>nD e.2):=by
 rw[List.findIdx?_eq_none_iff];constructor
 .intro h m;let⟨e,H,f⟩:=dn.mp m;obtain⟨⟨k,g,_⟩,_⟩:=b e H;let⟨t,c⟩:=RY g;let q:=h e H;rw[c]at f q;let d:k=x:=f;subst d;let Q:(cv prog w).is k (.str k t)=μ:=strKind_is prog w k t;rw[Q]at q;cases q
 .intro h e H;cases q:(cv prog w).is x e.2 with
  |false=>rfl
  |true=>let⟨t,c⟩:=RY q;exact absurd (dn.mpr #[e,H,by rw[c];rfl]) h
def J7{b:Array (Int×ζ)}{T:SetTable}(d:s.heap.get? a=δ o)(f:o.ExactSet)(h:o.data= .set p c t)
  (g:ElemsOf (cv prog w) b.toList) (i:(b.toList.map λe=>nD e.2).Perm L) (j:L.Nodup) (k:b.size < scanBound) (l:T.fits b.size=μ)
  (m:T.led=!(w.params.followText "set-order")) (n:T.plain=ν):
  (s.heap.update a$ mF b T).get? a=δ { o with data:=.set b (c+1) T }/\dj prog w (s.heap.update a$ mF b T) a L:=by
 let H:(s.heap.update a$ mF b T).get? a=δ { o with data:=.set b (c+1) T }:=by let q:=Oz (mF b T) d (by rw[putSet_of b T h];rfl);rwa [putSet_of b T h]at q
 exact#[H,_,b,c+1,T,H,f,Z,g,i,j,k,l,m,.inl n]
def YA{Q : Bool -> ι -> Prop}(hS : dj prog w s.heap a L)(room : L.length + 1 < scanBound)
    (h : ∀ b R l, fx a s.heap R -> dj prog w R a (if x ∈ L then L else L ++ [x]) -> s.toks <= l -> Q b { s with heap := R, toks := l }) :
    π (χ prog w) A (setAdd a$ .str x f) Q E s := by
  obtain ⟨o, g, ep, t, n, U, u, H, v, B, hb, V, X, Y⟩ := hS;let d : (cv prog w).is x (.str x f) = μ := strKind_is prog w x f;let C : g.size = L.length := by rw [<- v.length_eq, NO, Om]
  unfold setAdd;erw[Oi$ NJ ((cv prog w).pyHash (k := x) d ?_)];unfold setAddHashed setAddHashedIn;refine Oi$ NJ$ Px (s := { s with toks := s.toks + 1 }) n u V ?_;dsimp only;rw [byScan_of Z hb H];simp only [↓reduceIte];unfold setAddByScan;erw[NJ$ NJ$ PU$ NJ$ wpAny_setScan_of (knd := cv prog w) d n u V H ?_];cases hr : List.findIdx? (λe => (cv prog w).is x e.2) g.toList with
  | some j =>
    dsimp only;let D : x ∈ L := by erw[Decidable.byContradiction λhn => ?_];let q := (J6 (prog := prog) (w := w) H x).mpr λm => hn (v.mem_iff.mp m);rw [q] at hr; cases hr
    let q := h ν s.heap (s.toks + 1) (Ue a s.heap) (by rw [N0 D]; exact #[o, g, ep, t, n, U, u, H, v, B, hb, V, X, Y]) (OR _);exact NN$ NN q
  | none =>
    dsimp only;let D : ¬ x ∈ L :=λm => (J6 (prog := prog) (w := w) H x).mp hr (v.mem_iff.mpr m);let W : ∀ (b : Bool) {S : ι} {Q' : Unit -> ι -> Prop}, Q' () S -> π (χ prog w) A (match b with | true => rule "set.scan.the-table-gave-way" | false => pure ()) Q' E S := by
      intro b S Q' hq;cases b
      · exact NN hq
      · exact PU hq
    let p := layNew_perm t g ((cv prog w).hash x) (.str x f);let M := layNew_fits t g ((cv prog w).hash x) (.str x f);let O := Ze t g ((cv prog w).hash x) (.str x f);generalize layNew t g ((cv prog w).hash x) (.str x f) = N at p M O ⊢;obtain ⟨c, t1, w0, g4⟩ := N;dsimp only at p M O ⊢;rw [UY] at p;let F : ElemsOf (cv prog w) c.toList := (H.push d Z).perm p;let P : (c.toList.map λe => nD e.2).Perm (L ++ [x]) := by erw[(p.map _).trans ?_];rw [Ol];exact v.append_right _
    let G : (L ++ [x]).Nodup := List.nodup_append.mpr #[B, by simp,λy hy z hz e => by rw [R8] at hz; subst hz; subst e; exact D hy];let iQ : c.size = g.size + 1 := by rw [<- Om, p.length_eq, NP, Om]; rfl
    let b1 : c.size < scanBound := by rw [iQ, C]; exact room
    erw[NJ$ W _ ?_];let i : ∀ T : SetTable, T.fits c.size = μ -> T.led = t.led -> T.plain = ν ->
        π (χ prog w) A (do
          storeSet a c T
          if (!w0 && T.tooFull) = μ then do
              (match (relayAll T c$ SetTable.grown c.size).2.2 with | true => rule "set.scan.the-table-gave-way" | false => pure ())
              storeSet a (relayAll T c$ SetTable.grown c.size).1 (relayAll T c$ SetTable.grown c.size).2.1
              pure (δ μ)
            else pure (δ μ)) (λr s' => r = δ μ /\ Q μ s') E { s with toks := s.toks + 1 } := by
      intro T g1 g2 g3;refine NJ$ VO (s := { s with toks := s.toks + 1 }) n u ?_$ SN b1;obtain ⟨o1, S1⟩ := J7 (s := s) (prog := prog) (w := w) n U u F P G b1 g1 (g2.trans X) g3;let I := Pr s.heap a (mF c T);split
      · have J := relayAll_perm T c (SetTable.grown c.size)
        let f2 := relayAll_fits T c (SetTable.grown c.size);let l2 := XE T c (SetTable.grown c.size);let q2 := Ql T c (SetTable.grown c.size) g3;generalize relayAll T c (SetTable.grown c.size) = Z at J f2 l2 q2 ⊢;obtain ⟨K, t3, g0⟩ := Z;dsimp only at J f2 l2 q2 ⊢;let cj : K.size = c.size := by rw [<- Om, J.length_eq, Om]
        let b2 : K.size < scanBound := by rw [cj]; exact b1
        refine NJ$ W _$ NJ$ VO (s := { s with heap := s.heap.update a (mF c T), toks := s.toks + 1 }) o1 Z ?_$ SN b2;obtain ⟨_, S2⟩ := J7 (s := { s with heap := s.heap.update a (mF c T) }) (prog := prog) (w := w) o1 U Z (F.perm J) ((J.map _).trans P) G b2 f2 (l2.trans$ g2.trans X) q2;exact NN #[Z, h μ _ _ (I.trans$ Pr _ a _) (by rw [N7 D]; exact S2) (OR _)]
      · exact NN #[Z, h μ _ _ I (by rw [N7 D]; exact S1) (OR _)]
    split
    · rename_i tp
      erw[NJ ?_];rw [hashByValue_scannable 8 (x := .str x f) Z];erw[NN ?_];let e0 : plainKind (.str x f) = ν := rfl;rw [e0];simp only [N9, ↓reduceIte];refine O2 (i { t1 with plain := ν } (SetTable.fits_plain_off M) O Z) (λr s' q => ?_) λ_ _ z => z;obtain ⟨rfl, q⟩ := q;exact NN q
    · rename_i tp
      erw[NJ$ NN ?_];simp only [↓reduceIte];refine O2 (i t1 M O (by simpa using tp)) (λr s' q => ?_) λ_ _ z => z;obtain ⟨rfl, q⟩ := q;exact NN q
end
noncomputable def bM(w:bF):ge:={ cls:=.type "set",dict:=θ,data:=.set (ε []) 0 (.fresh 0 0 (!(w.params.followText "set-order"))) }
section
variable {prog:ψ}{w:bF}{A:bU}{E:ζ->ι->Prop}{s:ι}
def YB{h:cJ}(e:h.get? a=δ (bM w)):dj prog w h a []:=
 #[_,(ε []),0,_,e,#[Z,Z,Z],Z,λ_ z=>by simp at z,WN,Te,(by decide:(0:Nat) < scanBound),Z,Z,.inr Z]
def Qy(a:ζ){G:ζ->ι->Prop}(h:G (.ref s.heap.objs.size) { s with heap:=s.heap.push (bM w) }):
  kw (χ prog w) A (.call (.builtin "set.__new__") #[[.type "set",a],[]]) (wants G E) s:=by
 erw[Uq ?_];show π _ A.in1 (do checkBuiltinCall "set.__new__" _;again (.builtin "set.__new__" _)) _ _ s;erw[NJ$ SK (PySem.F.newCall_set_1 a)$ NN #[P8 Uk _,Pl PySem.F.entry_set_new ?_]];rw[OX Uk];unfold dO.«set.__new__» Builtin.Frozenset.newClass;let o:=sub_set_self;let⟨H,g,d,t,os⟩:=s;dsimp only;wp_walk;erw[Rv$ NN ?_];dsimp only;simp only[newObj];exact NJ$ wpAny_alloc$ NN$ NN h
end
theorem StrsAre.at':∀{V:tz ζ} {s:tz ρ},StrsAre V s->∀(i:Nat) (v:ζ),V[i]?=δ v->∃x t,s[i]?=δ x/\v= .str x t
 |_,_,.nil,i,v,h=>by simp at h
 |_,_,.cons y t r,0,v,h=>by simp at h;exact#[y,t,Z,h.symm]
 |_,_,.cons y t r,i+1,v,h=>by simp only[List.getElem?_cons_succ]at h;let⟨x,T,e,E⟩:=StrsAre.at' r i v h;exact#[x,T,by simpa using e,E]
theorem StrsAre.len:∀{v:tz ζ} {s:tz ρ},StrsAre v s->s.length=v.length
 |_,_,.nil=>rfl
 |_,_,.cons _ _ r=>by simp [StrsAre.len r]
def km:Slot "set_iterator" "__next__" "set_iterator.__next__":=by
 erw[.of (owner:="set_iterator") (n:="__next__") ?_ WO WO WO ?_ ?_]
 .rw[Pk,OK];kernel_rfl
 .first |exact .inl WO |exact .inr WO
 .rw[Pu];kernel_rfl
def qC:Slot "set_iterator" "__iter__" "set_iterator.__iter__":=by
 erw[.of (owner:="set_iterator") (n:="__iter__") ?_ WO WO WO ?_ ?_]
 .rw[Pk,OK];kernel_rfl
 .first |exact .inl WO |exact .inr WO
 .rw[Pu];kernel_rfl
def JU:entryFor table "set_iterator.__next__"=δ dO.«set_iterator.__next__»:=Tb (by kernel_rfl)
def JV:entryFor table "set_iterator.__iter__"=δ dO.«dict_keyiterator.__iter__»:=by erw[To (id':="dict_keyiterator.__iter__") ?_ Z WO ?_]<;>kernel_rfl
def Kc:entryFor table "set.__iter__"=δ dO.«frozenset.__iter__»:=by erw[To (id':="frozenset.__iter__") ?_ Z WO ?_]<;>kernel_rfl
def Kd(a:ζ):argsOk "set_iterator.__next__" #[[a],[]]:=by unfold argsOk;kernel_rfl
def Ke(a:ζ):argsOk "set_iterator.__iter__" #[[a],[]]:=by unfold argsOk;kernel_rfl
def cw(h:cJ)(I:η)(f:ζ)(i:Nat)(S:η)(n e:Nat):Prop:=
 ∃o,h.get? I=δ o/\o.cls= .type "set_iterator"/\o.data= .fields (ε [f,.int i 0,.ref S,.int n 0,.int e 0])
def cw.at{H:cJ}{i:Nat}{S:η}(x:cw h I f i S n E)(e:∀o,h.get? I=δ o->H.get? I=δ o):cw H I f i S n E:=
 let #[o,a,r]:=x;#[o,e o a,r]
def cw.is{s:ι}{S:η}(x:cw s.heap I f i S n e):s.TypeIs (.ref I) "set_iterator":=let #[o,h,H,_]:=x;#[o,h,H]
section
variable {prog:ψ}{w:bF}{A:bU}{E:ζ->ι->Prop}{s:ι}
def Kh{c:Type}{Q:c->ι->Prop}(d:A.handled=θ)
  (h:∀H e,(∀b o,s.heap.get? b=δ o->H.get? b=δ o)->Shared.TypeIs { s with heap:=H } e "StopIteration"->E e { s with heap:=H }):
  π (χ prog w) A (do raiseNew (<- newExc (.type "StopIteration") []):Sem c) Q E s:=by
 erw[NJ ?_];simp only[newExc,newTuple];refine NJ$ OB ?_ (by size_fits);erw[NJ (m:=firstArgMember _ _)$ SK (a:=γ) ?_ ?_]
 .first |rfl | (simp only[firstArgMember];rfl)
 refine OB ?_ (by size_fits);simp only[raiseNew];erw[NJ$ wpAny_handled ?_];rw[d];erw[NJ$ NN$ wpAny_throw$ h _ _ (λb o e=>NM _ (NM _ e)) ?_];exact#[_,NV _ Z,Z]
def Ki{S:η}(H:cw s.heap I f i S n c)
  (h:π (χ prog w) A.in1 (dO.«set_iterator.__next__» #[[.ref I],[]]) (λF a=>∃v,F= .done (.ret v)/\Q (δ v) a) (λe a=>a.TypeIs e "StopIteration"/\Q θ a) s):
  π (χ prog w) A (pyNext$ .ref I) Q E s:=by
 unfold pyNext;erw[NJ$ RG$ OA (name:=Str.ofString "__next__") H.is km$ Oy km H.is JU ?_$ Kd _];erw[O2 h (λF a q=>?_) λe a q=>?_]
 .let⟨v,e,q⟩:=q;exact#[v,e,NN q]
 .exact NJ$ P9 (T:="StopIteration") (b:=μ) q.1 Tn$ NN q.2
def Q1{I:η}{f:ζ}{i:Nat}{S:η}{n a:Nat}{o:ge}{v:Array ζ}(H:s.heap.get? I=δ o)(b:o.cls= .type "set_iterator")(h:o.data= .fields v)(k:Nat)(x:ζ)
  (e:v.setIfInBounds k x=(ε [f,.int i 0,.ref S,.int n 0,.int a 0])):cw (s.heap.update I$ gb (·.setIfInBounds k x)) I f i S n a:=
 #[_,Oz _ H$ O7$ Ox h _,(RM ..).trans b,by rw[Ox h,e]]
def Zf{I S P:η}{i:Nat}{O j:ge}{e:Array (Int×ζ)}{a:Nat}{t:SetTable}{k:Array ζ}{c p:Nat}{hx:Int}{x:ζ}{Q:tT ζ->ι->Prop}
  (h:cw s.heap I (.ref P) i S e.size a) (l:s.heap.get? S=δ O) (H:O.data= .set e a t) (m:t.fits e.size=μ) (n:s.heap.get? P=δ j) (b:j.data= .seq k c)
  (q:k[i]?=δ (.int p 0)) (r:e[p]?=δ (hx,x)) (u:∀d,cw d I (.ref P) (i+1) S e.size a->fx I s.heap d->Q (δ x) { s with heap:=d }):
  π (χ prog w) A (pyNext$ .ref I) Q E s:=by
 erw[Ki h ?_];let⟨o,f,v,g⟩:=h;show π _ _ (fieldsOf (.ref I) >>= _) _ _ s;erw[NJ$ Tk f g ?_];dsimp only;erw[NJ$ RD l H m ?_];simp only[Pm,N9,↓reduceIte];erw[NJ$ OY n b ?_];simp only[OM,q];unfold setNextDrawn;erw[NJ$ NJ$ Px l H m ?_];simp only[Pm,N9,↓reduceIte,r];erw[NN ?_];erw[NJ$ ON f g WN$ NN #[x,Z,u _ ?_$ Pr ..]];exact Q1 f v g _ _ (by simp [rawInt])
def Qm(q:A.handled=θ){I S P:η}{i:Nat}{O l:ge}{d:Array (Int×ζ)}{m:Nat}{t:SetTable}{p:Array ζ}{c:Nat}{Q:tT ζ->ι->Prop}
  (h:cw s.heap I (.ref P) i S d.size m) (r:s.heap.get? S=δ O) (f:O.data= .set d m t) (u:t.fits d.size=μ) (v:s.heap.get? P=δ l) (g:l.data= .seq p c)
  (x:p[i]?=θ) (y:∀H,(∀b o,b≠I->s.heap.get? b=δ o->H.get? b=δ o)->Q θ { s with heap:=H }):
  π (χ prog w) A (pyNext$ .ref I) Q E s:=by
 erw[Ki h ?_];let⟨o,j,B,a⟩:=h;show π _ _ (fieldsOf (.ref I) >>= _) _ _ s;erw[NJ$ Tk j a ?_];dsimp only;erw[NJ$ RD r f u ?_];simp only[Pm,N9,↓reduceIte];erw[NJ$ OY v g ?_];simp only[OM,x];erw[NJ$ ON j a WN ?_];erw[NJ$ ON (Oz _ j$ O7$ Ox a _) (Ox a _) WN ?_];refine Kh (s:={ s with heap:=_ }) (by simpa using q) λH e k T=>#[T,y H λb o n z=>k b o ?_];exact(Of _ _$ Ou n).trans ((Of _ _$ Ou n).trans z)
def Q2{I S:η}{i j nx:Nat}{O:ge}{e:Array (Int×ζ)}{a:Nat}{t:SetTable}{x:ζ}{Q:tT ζ->ι->Prop}
  (h:cw s.heap I (.int j 0) i S e.size a) (f:s.heap.get? S=δ O) (b:O.data= .set e a t) (k:t.fits e.size=μ)
  (l:∀(q:tT (ζ×Nat)->ι->Prop) m,q (δ (x,nx)) s->π (χ prog w) A.in1 (setNext S j i a) q m s)
  (n:∀c,cw c I (.int nx 0) (i+1) S e.size a->fx I s.heap c->Q (δ x) { s with heap:=c }):
  π (χ prog w) A (pyNext$ .ref I) Q E s:=by
 erw[Ki h ?_];let⟨o,d,p,H⟩:=h;show π _ _ (fieldsOf (.ref I) >>= _) _ _ s;erw[NJ$ Tk d H ?_];dsimp only;erw[NJ$ RD f b k ?_];simp only[Pm,N9,↓reduceIte];simp only[OM];erw[NJ$ l _ _ ?_];dsimp only;erw[NJ$ ON d H WN ?_];let g:=Oz (gb (·.setIfInBounds 0 (rawInt nx))) d (O7$ Ox H _);let D:=Ox H (·.setIfInBounds 0 (rawInt nx));erw[NJ$ ON g D WN$ NN #[x,Z,n _ ?_ ((Pr ..).trans$ Pr ..)]];exact Q1 (s:={ s with heap:=_ }) g ((RM ..).trans p) D _ _ (by simp [rawInt])
def qV(l:A.handled=θ){I S:η}{i j:Nat}{O:ge}{a:Array (Int×ζ)}{c:Nat}{t:SetTable}{Q:tT ζ->ι->Prop}
  (h:cw s.heap I (.int j 0) i S a.size c) (m:s.heap.get? S=δ O) (d:O.data= .set a c t) (n:t.fits a.size=μ)
  (p:∀(q:tT (ζ×Nat)->ι->Prop) r,q θ s->π (χ prog w) A.in1 (setNext S j i c) q r s)
  (u:∀H,(∀b o,b≠I->s.heap.get? b=δ o->H.get? b=δ o)->Q θ { s with heap:=H }):
  π (χ prog w) A (pyNext$ .ref I) Q E s:=by
 erw[Ki h ?_];let⟨o,f,y,g⟩:=h;show π _ _ (fieldsOf (.ref I) >>= _) _ _ s;erw[NJ$ Tk f g ?_];dsimp only;erw[NJ$ RD m d n ?_];simp only[Pm,N9,↓reduceIte];simp only[OM];erw[NJ$ p _ _ ?_];dsimp only;erw[NJ$ ON f g WN ?_];refine Kh (s:={ s with heap:=_ }) (by simpa using l) λH e k T=>#[T,u H λb o v x=>k b o ?_];exact(Of _ _$ Ou v).trans x
def JB(a:w.params.followText "set-order"=μ){S:η}(b:s.heap.get? S=δ o)(H:o.data= .set c d t)
  (f:t.fits c.size=μ) {Q:tT (ζ×Nat)->ι->Prop} (h:Q (((pickOrder (w.params.setOrder S d) c)[i]?).map λe=>(e.2,j)) s):
  π (χ prog w) A (setNext S j i d) Q E s:=by
 unfold setNext;erw[NJ$ Px b H f ?_];dsimp only;unfold setsByText;erw[NJ$ NJ$ Rv$ NN ?_];dsimp only;rw[show(χ prog w).w.params.followText "set-order"=_ from a];simp only[↓reduceIte,Pm,N9];unfold setWalk;erw[NJ$ NJ$ Px b H f ?_];dsimp only;unfold setsByText;erw[NJ$ NJ$ Rv$ NN ?_];dsimp only;rw[show(χ prog w).w.params.followText "set-order"=_ from a];simp only[↓reduceIte];exact NJ$ Rv$ NN$ NN h
def J8(a:w.params.followText "set-order"=ν){S:η}(b:s.heap.get? S=δ o)(H:o.data= .set e c t)
  (d:t.fits e.size=μ) (f:t.led=μ) (l:e.size<=1) {Q:tT (ζ×Nat)->ι->Prop}
  (h:Q (match e[SetTable.below t.place j]?,t.place[SetTable.below t.place j]? with |some (_,x),δ k=>δ (x,k+1) |_,_=>θ) s):
  π (χ prog w) A (setNext S j i c) Q E s:=by
 unfold setNext;erw[NJ$ Px b H d ?_];dsimp only;unfold setsByText;erw[NJ$ NJ$ Rv$ NN ?_];dsimp only;rw[show(χ prog w).w.params.followText "set-order"=_ from a];simp only[N9,↓reduceIte];split
 .rename_i z
  let g:(!t.plain&&decide (e.size > 1))=μ:=z;simp only[Pa,decide_eq_true_eq]at g;omega
 .refine NJ ?_;show π _ _ (if (!t.led&&!e.isEmpty)=μ then _ else _) _ _ _;rw[f];simp only[RX,VH,N9,↓reduceIte];exact NN$ NN h
end
def YC{a:Type}(f:Nat->Nat):∀(n k:Nat) (l:tz a) (o:Array a),l.length=n->(pickOrder.go f n k l o).toList.Perm (o.toList++l):=by
 intro n;induction n with
 |zero=>intro k l o h;rw[ks.mp h];unfold pickOrder.go;simp
 |succ n i=>intro k l o h;unfold pickOrder.go;let H:f k % l.length < l.length:=WI _ WM;rw[NK H];dsimp only;refine(i _ _ _ (by rw[T7 H,h];rfl)).trans ?_;rw[UY,Pt,List.singleton_append];erw[List.Perm.append_left _ ?_];rw[Tv];erw[List.perm_middle.symm.trans ?_];rw[O9,Rc]
def kI{a:Type}(f:Nat->Nat)(x:Array a):(pickOrder f x).toList.Perm x.toList:=by let h:=YC f x.size 0 x.toList (ε []) (Om ..);simpa [pickOrder] using h
def Jq{a:Type}(x:Array a)(d:a):(dN x.size).map (λp=>(x[p]?).getD d)=x.toList:=by
 erw[Ss WN λi b h=>?_];let H:i < x.size:=by simpa using h
 simp [H]
def oG(ord:tz (Int×ζ))(i:Nat)(v:ζ):Prop:=∃e,ord[i]?=δ e/\v=e.2
section
variable {prog:ψ}{w:bF}{A:bU}{E:ζ->ι->Prop}{s:ι}
def Jb{S:η}(H:cw s.heap I f i S n e){Q:ζ->ι->Prop}(h:Q (.ref I) s):π (χ prog w) A (pyIter$ .ref I) Q E s:=by erw[TR H.is qC$ Oy qC H.is JV ?_$ Ke _];show π _ _ (ret$ .ref I) _ _ s;exact NN #[_,Z,"set_iterator",_,H.is,km.lookup,h]
def Zg(D:A.handled=θ)(I S P:η)(l:S≠I)(m:P≠I){O oP:ge}{y:tz Nat}{c:Nat}(f:O.data= .set d G t)
  (u:t.fits d.size=μ) (g:oP.data= .seq (y.map λ(i:Nat)=>rawInt i).toArray c) (n:y.Perm (dN d.size)):
  WalksS prog w A I [I,S,P] [I] (λa b=>b=a) d.size (oG$ y.map λp=>(d[p]?).getD (0,.none))
   (λi s=>cw s.heap I (.ref P) i S d.size G/\s.heap.get? S=δ O/\s.heap.get? P=δ oP) where
 sub:=λb H=>by simp at H;simp [H]
 grefl:=λ_=>Z
 gtrans:=λ_ _ _ F J=>J.trans F
 frame:=λi s v T st _ k=>#[st.1.at λo e=>k I WN o e,k S WN _ st.2.1,k P WN _ st.2.2]
 item:=λi s Q E K st j=>by
  let B:y.length=d.size:=by rw[n.length_eq,Si]
  let h:i < y.length:=by omega
  let C:y[i] < d.size:=rs.mp (n.mem_iff.mp$ RQ h);refine Zf (p:=y[i]) (hx:=(d[y[i]]).1) (x:=(d[y[i]]).2) st.1 st.2.1 f u st.2.2 g (by simp [h,rawInt]) (by simp [C]) λv q r=>?_;refine j _ _ #[d[y[i]],by simp [h,C],Z] #[q,?_,?_] #[λb o H e=>?_,Z,Z,Z,NQ _]
  .rw[r.2 S l];exact st.2.1
  .rw[r.2 P m];exact st.2.2
  .rw[r.2 b (λz=>H (by simp [z]))];exact e
 done:=λs Q E st j=>by
  let B:y.length=d.size:=by rw[n.length_eq,Si]
  refine Qm D st.1 st.2.1 f u st.2.2 g (by simp [B]) λv k=>j _ #[λb o H e=>k b o (λz=>H (by simp [z])) e,Z,Z,Z,NQ _]
 self:=λ_ _ _ _ st j=>Jb st.1 j
def uH(r:A.handled=θ)(m:w.params.followText "set-order"=μ)(I S:η)(l:S≠I){O:ge}(h:O.data= .set c d t)
  (j:t.fits c.size=μ):
  WalksS prog w A I [I,S] [I] (λa b=>b=a) c.size (oG (pickOrder (w.params.setOrder S d) c).toList)
   (λi s=>cw s.heap I (.int (0:Nat) 0) i S c.size d/\s.heap.get? S=δ O) where
 sub:=λb H=>by simp at H;simp [H]
 grefl:=λ_=>Z
 gtrans:=λ_ _ _ u v=>v.trans u
 frame:=λi s n T st _ k=>#[st.1.at λo e=>k I WN o e,k S WN _ st.2]
 item:=λi s Q E D st f=>by
  let y:(pickOrder (w.params.setOrder S d) c).size=c.size:=by rw[<- Om,(kI _ _).length_eq,Om]
  let g:i < (pickOrder (w.params.setOrder S d) c).size:=by omega
  refine Q2 (x:=(pickOrder (w.params.setOrder S d) c)[i].2) (nx:=0) st.1 st.2 h j (λB C q=>JB m st.2 h j (by rwa[PQ g])) λn q p=>?_;refine f _ _ #[(pickOrder (w.params.setOrder S d) c)[i],by rw[Po];exact PQ g,Z] #[q,?_] #[λb o H e=>?_,Z,Z,Z,NQ _]
  .rw[p.2 S l];exact st.2
  .rw[p.2 b (λz=>H (by simp [z]))];exact e
 done:=λs Q E st f=>by
  let y:(pickOrder (w.params.setOrder S d) c).size=c.size:=by rw[<- Om,(kI _ _).length_eq,Om]
  refine qV r st.1 st.2 h j (λB C q=>JB m st.2 h j (by rwa[SI WM])) λn k=>f _ #[λb o H e=>k b o (λz=>H (by simp [z])) e,Z,Z,Z,NQ _]
 self:=λ_ _ _ _ st f=>Jb st.1 f
def Zh(p:Nat):SetTable.below (ε [p]) 0=0:=by simp [SetTable.below,SetTable.below.go]
def Zi(p:Nat):SetTable.below (ε [p]) (p+1)=1:=by simp [SetTable.below,SetTable.below.go]
def yV(G:A.handled=θ)(u:w.params.followText "set-order"=ν)(I S:η)(n:S≠I){O:ge}(h:O.data= .set c L t)
  (g:t.fits c.size=μ) (v:t.led=μ) (y:c.size<=1):
  WalksS prog w A I [I,S] [I] (λa b=>b=a) c.size (oG c.toList)
   (λi s=>(∃j:Nat,cw s.heap I (.int j 0) i S c.size L/\(i=0->j=0)/\(i=1->∃p,t.place=(ε [p])/\j=p+1))/\s.heap.get? S=δ O) where
 sub:=λb d=>by simp at d;simp [d]
 grefl:=λ_=>Z
 gtrans:=λ_ _ _ K M=>M.trans K
 frame:=λi s B W st _ k=>#[let #[j,a,r]:=st.1;#[j,a.at λo e=>k I WN o e,r],k S WN _ st.2]
 item:=λi s Q E X st l=>by
  obtain⟨⟨j,H,J,C⟩,f⟩:=st;let N:i=0:=by omega
  subst N;cases J Z;let D:c.size=1:=by omega
  let P:t.place.size=1:=by simp only[SetTable.fits,Pa,beq_iff_eq]at g;omega
  let⟨p,m⟩:=Array.size_eq_one_iff.mp P;refine Q2 (x:=(c[0]'WM).2) (nx:=p+1) H f h g (λR T q=>J8 u f h g v y (by rwa[m,Zh,PQ WM])) λB q F=>?_;refine l _ _ #[c[0]'WM,by rw[Po];exact PQ WM,Z] #[#[_,q,λz=>by omega,λ_=>#[p,m,Z]],?_] #[λb o d e=>?_,Z,Z,Z,NQ _]
  .rwa[F.2 S n]
  .rw[F.2 b (λz=>d (by simp [z]))];exact e
 done:=λs Q E st l=>by
  obtain⟨⟨j,H,J,C⟩,f⟩:=st;refine qV G H f h g (λR T q=>J8 u f h g v y ?_) λB k=>l _ #[λb o d e=>k b o (λz=>d (by simp [z])) e,Z,Z,Z,NQ _];by_cases z:c.size=0
  .rwa[SI (show c.size<=_ by omega)]
  .let D:c.size=1:=by omega
   let⟨p,U,V⟩:=C D;subst V;rwa[U,Zi,SI (show c.size<=1 by omega)]
 self:=λ_ _ _ _ st l=>let #[#[_,a,_],_]:=st;Jb a l
end
def qy{prog:ψ}{w:bF}(h:ElemsOf (cv prog w) E)(i:Nat)(v:ζ)(b:oG E i v):∃x t,(E.map λe=>nD e.2)[i]?=δ x/\v= .str x t:=by let⟨e,H,rfl⟩:=b;obtain⟨⟨k,c,_⟩,_⟩:=h e (Og H);let⟨t,a⟩:=RY c;exact#[k,t,by rw[Od,H];show δ (nD e.2)=_;rw[a];rfl,a]
def DM(p:ψ)(w:bF)(s c:ι)(S I:η)(L:tz ρ):Prop:=
 ∃(f:tz η) (d:tz ρ) (P:Nat->ζ->Prop) (St:Nat->ι->Prop),(∀b o,s.heap.get? b=δ o->c.heap.get? b=δ o)/\c.gens=s.gens/\c.os=s.os/\s.toks<=c.toks/\
  s.heap.objs.size<=I/\I < c.heap.objs.size/\c.TypeIs (.ref I) "set_iterator"/\(∀b∈f,b=S∨s.heap.objs.size<=b)/\(∀A:bU,A.handled=θ->WalksS p w A I f [I] (λa b=>b=a) d.length P St)/\St 0 c/\
  (∀i v,P i v->∃x t,d[i]?=δ x/\v= .str x t)/\d.Perm L
section
variable {prog:ψ}{w:bF}{A:bU}{E:ζ->ι->Prop}{s:ι}
def Zj{S:η}(V:dj prog w s.heap S L){Q:ζ->ι->Prop}(h:∀f I,DM prog w s f S I L->Q (.ref I) f):π (χ prog w) A (pyIter$ .ref S) Q E s:=by
 let⟨o,a,x,t,H,W,m,n,M,X,r,u,Y,N⟩:=V;let P:s.TypeIs (.ref S) "set":=#[o,H,W.1];let v:S < s.heap.objs.size:=NT H;erw[TR P Ui$ Oy Ui P Kc ?_$ PySem.F.args_set_iter_1 _];unfold dO.«frozenset.__iter__»;show π _ _ (Builtin.Frozenset.sizeOf S >>= _) _ _ s;unfold Builtin.Frozenset.sizeOf;erw[NJ$ NJ$ RD H m u$ NN ?_];unfold setDrawn;erw[NJ$ NJ$ Px H m u ?_];dsimp only;unfold setsByText;erw[NJ$ NJ$ Rv$ NN$ NN ?_];split
 .rename_i z
  let B:(!(w.params.followText "set-order")&&(!t.plain&&decide (a.size > 1)))=μ:=z;simp only[Pa,decide_eq_true_eq]at B;erw[NJ$ Yz a.size (dN a.size) s WN λy d G=>?_];let C:y.length=a.size:=by rw[G.length_eq,Si]
  let O:((y.map λ(i:Nat)=>rawInt i).length)<=τ:=by rw[NO,C];exact SN r
  refine NJ$ RT (s:={ s with drawn:=d }) ?_ O;erw[NJ ?_];unfold setEpoch;erw[NJ$ Px (NM _ H) m u$ NN ?_];erw[NJ$ OB$ NN #[_,Z,"set_iterator",_,#[_,NV _ Z,Z],km.lookup,h _ _ ?_]];generalize J:s.heap.push { cls:=.type "tuple",data:=.seq (y.map λ(i:Nat)=>rawInt i).toArray }=g;let R:g.objs.size=s.heap.objs.size+1:=by rw[<- J,OL]
  let gP:g.get? s.heap.objs.size=δ { cls:=.type "tuple",data:=.seq (y.map λ(i:Nat)=>rawInt i).toArray }:=by rw[<- J];exact NV _ Z
  let gS:g.get? S=δ o:=by rw[<- J];exact NM _ H
  refine#[[g.objs.size,S,s.heap.objs.size],(y.map λp=>(a[p]?).getD (0,.none)).map λe=>nD e.2,oG$ y.map λp=>(a[p]?).getD (0,.none),
   (λi f=>cw f.heap g.objs.size (.ref s.heap.objs.size) i S a.size x/\f.heap.get? S=δ o/\f.heap.get? s.heap.objs.size=δ { cls:=.type "tuple",data:=.seq (y.map λ(i:Nat)=>rawInt i).toArray }),λb o e=>?_,Z,Z,NQ _,?_,?_,#[_,NV _ Z,Z],λb r=>?_,
   λT D=>?_,#[#[_,NV _ Z,Z,Z],NM _ gS,NM _ gP],?_,?_]
  .exact NM _ (by rw[<- J];exact NM _ e)
  .show s.heap.objs.size<=g.objs.size;omega
  .show g.objs.size < (g.push _).objs.size;rw[OL];exact Pb _
  .simp only[P6,Ov,SX]at r;rcases r with e |e |e
   .subst e;exact .inr WM
   .exact .inl e
   .rw[e];exact .inr (NQ _)
  .let q:=Zg (prog:=prog) (w:=w) D g.objs.size S s.heap.objs.size (N8 (by rw[R];exact P0 v)) (N8 (by rw[R];exact Pb _)) m u (oP:={ cls:=.type "tuple",data:=.seq (y.map λ(i:Nat)=>rawInt i).toArray }) (c:=0) Z G;simpa [C] using q
  .refine qy (prog:=prog) (w:=w)$ n.perm ?_;let q:=G.map λp=>(a[p]?).getD ((0:Int),γ);rwa [Jq]at q
  .let q:=G.map λp=>(a[p]?).getD ((0:Int),γ);rw[Jq]at q;exact(q.map _).trans M
 .rename_i z
  let B:¬(!(w.params.followText "set-order")&&(!t.plain&&decide (a.size > 1)))=μ:=z;erw[NJ$ NN ?_];erw[NJ ?_];unfold setEpoch;erw[NJ$ Px H m u$ NN ?_];erw[NJ$ OB$ NN #[_,Z,"set_iterator",_,#[_,NV _ Z,Z],km.lookup,h _ _ ?_]];let k:∀b∈[s.heap.objs.size,S],b=S∨s.heap.objs.size<=b:=λb r=>by
   simp only[P6,Ov,SX]at r;rcases r with e |e
   .subst e;exact .inr (NQ _)
   .exact .inl e
  let l:∀U:ge,s.heap.objs.size < (s.heap.push U).objs.size:=λU=>by rw[OL];exact Pb _
  cases K:w.params.followText "set-order" with
  |true=>
   let pl:(pickOrder (w.params.setOrder S x) a).toList.length=a.size:=by rw[(kI _ _).length_eq,Om]
   refine#[[s.heap.objs.size,S],(pickOrder (w.params.setOrder S x) a).toList.map λe=>nD e.2,oG (pickOrder (w.params.setOrder S x) a).toList,
    (λi f=>cw f.heap s.heap.objs.size (.int (0:Nat) 0) i S a.size x/\f.heap.get? S=δ o),λb o e=>NM _ e,Z,Z,NQ _,NQ _,l _,#[_,NV _ Z,Z],k,
    λT D=>?_,#[#[_,NV _ Z,Z,Z],NM _ H],?_,?_]
   .let q:=uH (prog:=prog) (w:=w) D K s.heap.objs.size S (N8 v) m u;rwa[NO,pl]
   .exact qy (prog:=prog) (w:=w)$ n.perm$ kI _ _
   .exact((kI _ _).map _).trans M
  |false=>
   let hs:a.size<=1:=by
    rw[K]at B;rcases N with e |e
    .rw[e]at B;simp at B;exact B
    .omega
   refine#[[s.heap.objs.size,S],a.toList.map λe=>nD e.2,oG a.toList,
    (λi f=>(∃j:Nat,cw f.heap s.heap.objs.size (.int j 0) i S a.size x/\(i=0->j=0)/\(i=1->∃p,t.place=(ε [p])/\j=p+1))/\f.heap.get? S=δ o),λb o e=>NM _ e,Z,Z,NQ _,NQ _,l _,#[_,NV _ Z,Z],k,
    λT D=>?_,#[#[0,#[_,NV _ Z,Z,Z],λ_=>Z,λz=>by cases z],NM _ H],?_,?_]
   .let q:=yV (prog:=prog) (w:=w) D K s.heap.objs.size S (N8 v) m u (by rw[Y,K];rfl) hs;rwa[NO,Om]
   .exact qy (prog:=prog) (w:=w) n
   .exact M
theorem qW:∀(V:tz ζ) (S:tz ρ),V.length=S.length->(∀(i:Nat) (v:ζ),V[i]?=δ v->∃x t,S[i]?=δ x/\v=lq x t)->StrsAre V S
 | [],[],_,_=>.nil
 | [],_::_,h,_ |_::_,[],h,_=>by cases h
 |v::V,y::S,h,k=>by let⟨x,t,e,rfl⟩:=k 0 v Z;cases e;exact .cons y t$ qW V S (by simpa using h) λi u H=>k (i+1) u (by simpa using H)
def Qz{S:η}(hh:A.handled=θ)(y:dj prog w s.heap S L){Q:tz ζ->ι->Prop}
  (h:∀a V g,s.heap.objs.size<=a.heap.objs.size->(∀b o,s.heap.get? b=δ o->a.heap.get? b=δ o)->a.gens=s.gens->a.os=s.os->s.toks<=a.toks->StrsAre V g->g.Perm L->Q V a):π (χ prog w) A (collect$ .ref S) Q E s:=by
 let n:L.length < scanBound:=by let⟨o,es,ep,t,j,M,hd,h0,u,h1,k,hf,hl,h2⟩:=y;rwa[<- u.length_eq,NO,Om]
 unfold collect;erw[NJ$ Uw$ Pl TB ?_];rw[OX Tz];show π _ A.in1 (newList [] >>= λl=>again (.builtin "list.__iadd__" #[[l,.ref S],[]])) _ _ s;erw[NJ$ OB$ NN #[P8 Rt _,Pl T4 ?_]];rw[OX Rt];show π _ A.in1 (hG (.ref s.heap.objs.size) (.ref S)$ .ref s.heap.objs.size) _ _ _;unfold hG;let p:S < s.heap.objs.size:=by let⟨o,_,_,_,j,_⟩:=y;exact NT j
 generalize x:s.heap.push { cls:=.type "list",data:=.seq ([]:tz ζ).toArray }=H;let gl:H.get? s.heap.objs.size=δ { cls:=.type "list",data:=.seq ([]:tz ζ).toArray }:=by rw[<- x];exact NV _ Z
 let R:dj prog w H S L:=y.at λo e=>by rw[<- x];exact NM _ e
 let gk:∀b o,s.heap.get? b=δ o->H.get? b=δ o:=λb o e=>by rw[<- x];exact NM _ e
 let T:Shared.TypeIs { s with heap:=H } (.ref S) "set":=by let⟨o,_,_,_,j,M,_⟩:=R;exact#[o,j,M.1]
 erw[NJ$ PL T ?_];let n1:eT (.ref s.heap.objs.size) (.ref S)=ν:=by simp only[eT,beq_eq_false_iff_ne];exact OS p
 let n2:(fr "set"==fr "list")=ν:=by decide
 let n3:(fr "set"==fr "tuple")=ν:=by decide
 simp only[n1,n2,n3,Um,N9,Pg];refine NJ$ Zj (s:={ s with heap:=H }) R λr I B=>?_;let⟨fp,g,P,St,K,kg,ko,kt,C,h3,h4,D,W,st,hv,u⟩:=B;let G:H.objs.size=s.heap.objs.size+1:=by rw[<- x,OL]
 let f:r.TypeIs (.ref S) "set":=by let⟨o,j,hc⟩:=T;exact#[o,K _ _ j,hc]
 erw[NJ$ Oi ?_];unfold ll;erw[NJ$ Py f PySem.F.slot_set_len.lookup ?_]
 wp_delta
 erw[NJ$ P9 (b:=μ) f sub_set_self ?_];show π _ A.in1 (typeOf (Ξ S) >>= _) _ _ _;erw[NJ$ PL f$ NN ?_];rw[N0 WL];erw[NJ$ PU ?_];let U:=K _ _ gl;erw[NJ ?_];show π _ A.in1 (updateSeq s.heap.objs.size (·.push .none) >>= λ_=>updateSeq s.heap.objs.size (·.pop)) _ _ _;erw[NJ$ Th U Z ?_];let X:=Oz (ab (·.push γ)) U Z;erw[Th X Z ?_];let g3:=Oz (ab (·.pop)) X Z;let N:¬s.heap.objs.size∈fp:=λm=>by
  rcases D _ m with e |e
  .exact absurd p (by rw[<- e];exact OV _)
  .let e':H.objs.size<=s.heap.objs.size:=e;omega
 let O:∀b o,b≠s.heap.objs.size->r.heap.get? b=δ o->((r.heap.update s.heap.objs.size$ ab (·.push γ)).update s.heap.objs.size$ ab (·.pop)).get? b=δ o:=
  λb o k e=>(Of _ _$ Ou k).trans ((Of _ _$ Ou k).trans e)
 let Y:=W A.in1 (by simpa using hh);let hn:g.length<=τ:=by rw[u.length_eq];exact SN n
 erw[NN #[P8 TJ _,Vq Y hn _ N _ g.length 0 _ _ _ Z (NY _) (Y.frame 0 r _ r.toks st (NQ _) λb k o e=>O b o (λz=>N (z▸k)) e) g3 (VD P) λa J c m gS d=>?_]];show π _ A (load s.heap.objs.size >>= _) _ _ a;refine NJ$ VI gS$ NN$ h a J.toList g (P5$ NT gS) (λb o e=>?_) ?_ ?_ ?_ ?_ u
 .let ne:b≠s.heap.objs.size:=N8 (NT e);erw[m.heap b o ?_$ O b o ne$ K b o$ gk b o e];simp only[P6,Ov,SX,not_or];refine#[ne,λz=>?_];let q:s.heap.objs.size+1<=I:=G▸C;let q2:=NT e;rw[z]at q2;exact absurd (Oc (P0 q2) q)$ OV _
 .exact m.gens.trans kg
 .exact m.os.trans ko
 .exact N6 kt m.toks
 .refine qW _ _ (by rw[Om,d.1]) λi v e=>hv i v (d.2 i v (by rwa [Po]at e))
def XF{S:η}(z:A.handled=θ)(B:dj prog w s.heap S L)(j:L.length < 64){Q:ζ->ι->Prop}
  (h:∀f a c v i,s.heap.objs.size<=a->(∀b o,s.heap.get? b=δ o->f.heap.get? b=δ o)->f.gens=s.gens->f.os=s.os->f.heap.get? a=δ (seqObj "list" v c)->StrsAre v.toList i->i.Perm L->sortedS i=μ->Q (.ref a) f):
  π (χ prog w) A (call (.builtin "sorted") [.ref S]) Q E s:=by
 erw[Ro Uf TU TW (TX _) ?_];unfold dO.«sorted»;erw[NJ (m:=checkCount "sorted" 1 1 _)$ NN ?_];refine NJ$ Qz (by simpa using z) B λd v i K k C D P H r=>?_;let F:v.length < 64:=by rwa[<- _L.StrsAre.len H,r.length_eq]
 refine NJ$ RF ?_ (by let q:τ=1000000000∨64<=τ:=.inr WL;omega);let g:=NV d.heap (o:=seqObj "list" v.toArray 0) Z;refine NJ$ Oi$ Oy Tl #[_,g,Z] Ti (list_sort_treeK strKind_oneLt g H.keysOf (λV t R e=>keyKind_strs (by rw[<- e];exact H)) F λl G I=>#[_,Z,?_]) (Tq _);let⟨n,u,J,M⟩:=sorted_out_str H G I;generalize (arrOf l).map (·.2)=out at u ⊢;let⟨c,N⟩:=sortedHeap_at (out:=out) g;let O:∀b o,s.heap.get? b=δ o->(sortedHeap (d.heap.push$ seqObj "list" v.toArray 0) d.heap.objs.size v out).get? b=δ o:=by
  intro b o e;let x:=k b o e;let y:b < d.heap.objs.size:=NT x;let p:b < (d.heap.push$ seqObj "list" v.toArray 0).objs.size:=by rw[UB];exact P0 y
  rw[sortedHeap_old (N8 y) p];exact NM _ x
 exact NN #[_,Z,h { d with heap:=sortedHeap (d.heap.push$ seqObj "list" v.toArray 0) d.heap.objs.size v out } d.heap.objs.size c out n K O C D N u (J.trans r) M]
end
def JC(h:StrsAre v s):aD (s.map rz) v:=by
 induction h with
 |nil=>exact .nil
 |cons y t _ i=>exact .cons #[t,Z] i
noncomputable def LM(P:ψ)(w:bF)(a:η)(L:tz ρ):HO:=.ext λh=>dj P w h a L
section
variable {X:Cx}
def qA(i:X.calm=μ):dM X (.builtin "sorted") (λx H Q=>∃(p:η) (L:tz ρ),x=[.ref p]/\H p=δ (LM X.prog X.w p L)/\L.length < 64/\
  ∀l S,H l=θ->S.Perm L->L.Nodup->sortedS S=μ->Q (.ref l) (af H l$ .lst$ S.map rz)):=by
 intro P s B H x U Q I r h;let⟨p,L,rfl,j,d,q⟩:=h;let⟨u,rfl,R⟩:=eW r;cases R;let⟨f,_,_⟩:=I.hok p _ j;let b:L.Nodup:=by let⟨_,_,_,_,_,_,_,_,_,b,_⟩:=f;exact b
 erw[XF (I.ok.hd i) f d λm a c v S e k K o t y g A=>?_];let len:(S.map rz).length<=τ:=by rw[NO,g.length_eq];exact N6 (P5 d) WL
 let n:aP X.prog X.w (af H a$ .lst$ S.map rz) m.heap a (.lst$ S.map rz):=#[len,v.toList,c,JC y,t];refine#[.ref a,_,I.call' (ch:=[]) o (Un.laid k e$ I.hok.fresh e) (I.hok.laid k e n) (by rw[K];exact I.bare) (λ_ z=>nomatch z),Z,q _ _ (I.hok.fresh e) g b A]
def XG:dM X (.builtin "sorted") (λx H Q=>∃(p:η) (a:tz ρ),x=[.ref p]/\aH X.K H p (a.map rz)/\a.length < 64/\
  ∀l S,H l=θ->S.Perm a->sortedS S=μ->Q (.ref l) (af H l$ .lst$ S.map rz)):=by
 intro P s v H x U Q I r h;let⟨p,a,rfl,f,b,q⟩:=h;let⟨u,rfl,R⟩:=eW r;cases R;let⟨i,g,j,y⟩:=I.list f;let d:=qv g;let k:i.length=a.length:=(_L.StrsAre.len d).symm;refine sorted_strs j.isList d (by rwa[k]) λo S m A n=>?_;let⟨c,t⟩:=sortedAll_at s.heap i o;let len:(S.map rz).length<=τ:=by rw[NO,A.length_eq];exact N6 (P5 b) WL
 refine#[.ref$ s.heap.objs.size+1,_,I.laid (t':=s.toks) (λ_ _ e=>sortedAll_old e) (OR _) (show aP X.prog X.w _ _ _ (.lst$ S.map rz) from #[len,o.toList,c,JC m,t]),Z,q _ _ (I.hok.fresh$ OR _) A n]
end
def ZT:mroOf (.type "reversed")=pure [.type "reversed",.type "object"]:=by rw[mroOf_type];kernel_rfl
def Qn:typeLookup (.type "reversed") "__new__"=pure (δ$ .builtin "reversed.__new__"):=by rw[Pk,OK];kernel_rfl
def QA:Slot "reversed" "__init__" "object.__init__":=by
 erw[.of (owner:="object") (n:="__init__") ?_ WO WO WO ?_ ?_]
 .rw[Pk,OK];kernel_rfl
 .first |exact .inl WO |exact .inr WO
 .rw[Pu];kernel_rfl
def Zk:TypeCalled "reversed" "reversed.__new__" "object.__init__":=by refine#[WO,WO,#[_,_,ZT],madeBy_type ZT Qn WO,WO,?_,QA];rw[Pu];kernel_rfl
def XH(a:ζ):checkTypeCall "reversed" #[[a],[]]=pure ():=by kernel_rfl
def YD(a:ζ):checkBuiltinCall "reversed.__new__" #[[.type "reversed",a],[]]=pure ():=by kernel_rfl
def QB:entryFor table "reversed.__new__"=δ dO.«reversed.__new__»:=Tb (by kernel_rfl)
def Co:isSubtype (.type "reversed") (.type "reversed")=pure μ:=by rw[Pu];kernel_rfl
def XI:typeLookup (.type "tuple") "__reversed__"=pure θ:=by rw[Pk,OK];kernel_rfl
def Qo:isSubtype (.type "tuple") (.type "dict")=pure ν:=by rw[Pu];kernel_rfl
noncomputable def revObj(t:η)(n:Int):ge:={ cls:=.type "reversed",data:=.fields (ε [.ref t,.int (n - 1) 0]) }
section
variable {prog:ψ}{w:bF}{A:bU}{E:ζ->ι->Prop}{s:ι}
def uZ{Q:ζ->ι->Prop}(H:IsTup s.heap t i)(c:(i.size:Int) < 2 ^ 63)
  (h:Q (.ref s.heap.objs.size) { s with heap:=s.heap.push (revObj t i.size),toks:=s.toks+1+1 }):π (χ prog w) A (call (.type "reversed") [.ref t]) Q E s:=by
 refine U6 (S:=λ_ R a=>a=s/\R (.ok$ .ret$ .ref s.heap.objs.size) { s with heap:=s.heap.push (revObj t i.size),toks:=s.toks+1+1 }) Zk WL (XH _) (YD _) (λo=>RZ o _) QB
  (.of_wp λp W f R a d=>?_) #[Z,#[_,NV _ Z,Z],h]
 let⟨rfl,e⟩:=d;unfold dO.«reversed.__new__» Builtin.SmallTypes.newClass;erw[NJ ?_];dsimp only;erw[NJ$ NN ?_];simp only[RX,N9,Pg];erw[NJ$ SK Co ?_];simp only[RX,N9,Pg];erw[NN ?_];erw[NJ (m:=Builtin.SmallTypes.refuseKeywords _ _ _)$ NN ?_];erw[NJ (m:=checkCount "reversed" 1 1 _)$ NN ?_];dsimp only;erw[NJ$ Py H.typeIs XI ?_];dsimp only;erw[NJ ?_];show π _ _ (isInstance (.ref t) (.type "dict") >>= _) _ _ _;erw[NJ$ P9 (b:=ν) H.typeIs Qo ?_];simp only[N9,Pg];erw[NJ$ Py H.typeIs PyProof.Rows.slot_tuple_getitem.lookup ?_];dsimp only;rw[N0 WO];erw[NN ?_];simp only[RX,N9,Pg];erw[NJ$ len_tuple H c ?_];erw[NJ (m:=asInt? _)$ NN ?_];dsimp only;show π _ _ (newObj (.type "reversed") (.fields [Ξ t,rawInt ((i.size:Int) - 1)].toArray) >>= _) _ _ _;exact NJ$ OB$ NN #[_,Z,e]
end
def qg:Slot "reversed" "__next__" "reversed.__next__":=by
 erw[.of (owner:="reversed") (n:="__next__") ?_ WO WO WO ?_ ?_]
 .rw[Pk,OK];kernel_rfl
 .first |exact .inl WO |exact .inr WO
 .rw[Pu];kernel_rfl
def qX:Slot "reversed" "__iter__" "reversed.__iter__":=by
 erw[.of (owner:="reversed") (n:="__iter__") ?_ WO WO WO ?_ ?_]
 .rw[Pk,OK];kernel_rfl
 .first |exact .inl WO |exact .inr WO
 .rw[Pu];kernel_rfl
def Qp:entryFor table "reversed.__next__"=δ dO.«reversed.__next__»:=Tb (by kernel_rfl)
def Qq:entryFor table "reversed.__iter__"=δ dO.«dict_keyiterator.__iter__»:=by erw[To (id':="dict_keyiterator.__iter__") ?_ Z WO ?_]<;>kernel_rfl
def QC(a:ζ):argsOk "reversed.__next__" #[[a],[]]:=by unfold argsOk;kernel_rfl
def QD(a:ζ):argsOk "reversed.__iter__" #[[a],[]]:=by unfold argsOk;kernel_rfl
def dZ(h:cJ)(I t:η)(k:Int):Prop:=∃o,h.get? I=δ o/\o.cls= .type "reversed"/\o.data= .fields (ε [.ref t,.int k 0])
def dZ.at{H:cJ}(x:dZ h I t k)(e:∀o,h.get? I=δ o->H.get? I=δ o):dZ H I t k:=let #[o,a,r]:=x;#[o,e o a,r]
def dZ.is{s:ι}(x:dZ s.heap I t k):s.TypeIs (.ref I) "reversed":=let #[o,h,H,_]:=x;#[o,h,H]
section
variable {prog:ψ}{w:bF}{A:bU}{E:ζ->ι->Prop}{s:ι}
def X7(H:dZ s.heap I t k)
  (h:π (χ prog w) A.in1 (dO.«reversed.__next__» #[[.ref I],[]]) (λf S=>∃v,f= .done (.ret v)/\Q (δ v) S) (λe S=>S.TypeIs e "StopIteration"/\Q θ S) s):
  π (χ prog w) A (pyNext$ .ref I) Q E s:=by
 unfold pyNext;erw[NJ$ RG$ OA (name:=Str.ofString "__next__") H.is qg$ Oy qg H.is Qp ?_$ QC _];erw[O2 h (λf S q=>?_) λe S q=>?_]
 .let⟨v,e,q⟩:=q;exact#[v,e,NN q]
 .exact NJ$ P9 (T:="StopIteration") (b:=μ) q.1 Tn$ NN q.2
def Iv{I t:η}{k:Nat}{items:Array ζ}{x:ζ}{Q:tT ζ->ι->Prop}(H:dZ s.heap I t k)(c:IsTup s.heap t items)(d:items[k]?=δ x)(e:(items.size:Int) < 2 ^ 63)
  (f:∀b,dZ b I t ((k:Int) - 1)->fx I s.heap b->Q (δ x) { s with heap:=b,toks:=s.toks+1 }):π (χ prog w) A (pyNext$ .ref I) Q E s:=by
 erw[X7 H ?_];let⟨o,a,g,h⟩:=H;let i:k < items.size:=(bm.mp d).1;show π _ _ (field (.ref I) 0 >>= _) _ _ s;erw[NJ$ Oo a h (x:=.ref t) Z$ NJ$ Oo a h (x:=.int k 0) Z ?_];dsimp only;rw[N7 WM];erw[NJ$ Py c.typeIs PyProof.Rows.slot_tuple_getitem.lookup ?_];simp only[UH,N9,Pg];erw[NJ$ wpAny_mkInt$ NJ$ RG ?_];refine getItem_tuple (s:={ s with toks:=s.toks+1 }) c WM WM (j:=k) ?_ d ?_
 .unfold seqIndex?;simp;omega
 refine NJ$ Oo (s:={ s with toks:=s.toks+1 }) a h (x:=.int k 0) Z ?_;dsimp only;erw[NJ$ ON a h WN$ NN #[x,Z,f _ ?_$ Pr ..]];exact#[_,Oz _ a$ O7$ Ox h _,(RM ..).trans g,by rw[Ox h];simp [rawInt]]
def tK(f:A.handled=θ){Q:tT ζ->ι->Prop}(h:dZ s.heap I t (-1))
  (g:∀a,(∀b o,b≠I->s.heap.get? b=δ o->a.get? b=δ o)->Q θ { s with heap:=a }):π (χ prog w) A (pyNext$ .ref I) Q E s:=by
 erw[X7 h ?_];let⟨o,c,j,H⟩:=h;show π _ _ (field (.ref I) 0 >>= _) _ _ s;erw[NJ$ Oo c H (x:=.ref t) Z$ NJ$ Oo c H (x:=.int (-1) 0) Z ?_];dsimp only;rw[N0 WL];erw[NJ$ PU$ NJ ?_];show π _ _ (setField (.ref I) 1 (rawInt (-1)) >>= λ_=>setField (.ref I) 0 .none) _ _ _;erw[NJ$ ON c H WN ?_];erw[ON (Oz _ c$ O7$ Ox H _) (Ox H _) WN ?_];erw[NJ ?_];refine Kh (s:={ s with heap:=_ }) (by simpa using f) λa e k T=>#[T,g a λb o d i=>k b o ?_];exact(Of _ _$ Ou d).trans ((Of _ _$ Ou d).trans i)
def Dh(H:dZ s.heap I t k){Q:ζ->ι->Prop}(h:Q (.ref I) s):π (χ prog w) A (pyIter$ .ref I) Q E s:=by erw[TR H.is qX$ Oy qX H.is Qq ?_$ QD _];show π _ _ (ret$ .ref I) _ _ s;exact NN #[_,Z,"reversed",_,H.is,qg.lookup,h]
end
def J9:entryFor table "dict.update.loop"=δ dO.«dict.update.loop»:=Tb (by kernel_rfl)
def qe:plainId "dict.update.loop"=μ:=by decide+kernel
section
variable {X:Cx}{o lo hi:dg}{to tl th:TE}{pos p2:Pos}
inductive Ii(v:V)(h:St)(Q:St->Hp->Prop)(e a c:V)(d:Hp):Prop
 |mk(l b f g i j:_)(_:e= .ref l)(_:v= .ref b)(_:a= .int i)(_:c= .int j)(_:d l=δ (.lst f))(_:d b=δ (.lst g))(_:l≠b)(_:0<=i)(_:i<=j)(_:j<=(f.length:Int))(_:f.length+g.length<=τ)(_:Q h (af d l (.lst (f.take i.toNat++g++f.drop j.toNat))))
def Nq(to tl th:TE):TG:=λv b H Q=>to b H λO h=>tl b h λa c=>th b c (Ii v b Q O a)
noncomputable def wY(n:PE X o to)(t:PE X lo tl)(w:PE X hi th)
  (A:∀v,assign (.Subscript o (.Slice (δ lo) (δ hi) θ p2) pos) X.env v=(do
   let O <- lu [v] (eval o X.env)
   let c <- lu [v,O] (eval (.Slice (δ lo) (δ hi) θ p2) X.env)
   standAt pos
   lu [v,O,c] (setItem O c v)
   release [c,v,O] []):=by intro _;rfl):PG X (.Subscript o (.Slice (δ lo) (δ hi) θ p2) pos) (Nq to tl th):=by
 intro p s a H v u Q I r h;rw[A];erw[NJ$ Oi$ aV (n p s a H _ I h) λO B d=>?_];let⟨x,C,D,R,E⟩:=d;erw[NJ$ Oi ?_];erw[wpAny_Slice$ aV (t p B a C _ D E) λV F #[y,G,J,K,L]=>aV (w p F a G _ J L) λm S f=>?_];let⟨z,M,N,P,l,b,xs,ys,i,j,T,U,W,Y,h1,h2,g,h0,k,hj,hz,q⟩:=f;subst T U W Y;cases (show O=Ξ l from R);cases (show u=Ξ b from r);erw[NN ?_];let I4:au X p a M { S with heap:=S.heap.push { cls:=.type "slice",data:=.fields (ε [V,m,.none]) } }:=N.kept (t':=S.toks) λb o e=>NM _ e;erw[NJ$ Rk$ NJ$ Oi ?_];exact uD I4 h1 h2 g (TN S.heap V m .none) K P h0 k hj hz λs5 I5=>wpAny_release #[a,_,I5,q]
end
end _L
namespace _L
open PySem PySem.Spec PyProof.Rows Builtin Builtin.Str
section
variable {prog:ψ}{w:bF}{A:bU}{E:ζ->ι->Prop}{s:ι}
def JF{lo:tT Int}{Q:ζ->ι->Prop}(H:IsTup s.heap t i)(d:s.heap.IsSliceOf e v j .none)(p:IsPart v lo)(P:IsPart j f)
  (g:HT.sIx i.size 0 lo=0/\HT.sIx i.size i.size f=i.size) (h:Q (.ref t) s):π (χ prog w) A (getItem (.ref t)$ .ref e) Q E s:=by
 let⟨os,a,b,k⟩:=id d;let c:s.TypeIs (.ref e) "slice":=#[os,a,b];unfold getItem;try with_reducible erw[Oi ?_]
 first |refine NJ (NN ?_) |skip
 erw[NJ$ TQ H.typeIs WL ?_];refine NJ (OA (name:=Str.ofString "__getitem__") H.typeIs PM
  (Oy PM H.typeIs Wu ?_$ WB _ _))
 show π _ _ (ra (.ref t) >>= _) _ _ s;erw[NJ$ Ws H ?_];erw[NJ$ PL c ?_];rw[N0 WL];erw[NJ$ HT.sliceApplied_gen d p P ?_];show π _ _ (if (((HT.sIx i.size 0 lo:Nat):Int)==0&&(1:Int)==1&&(HT.sIx i.size i.size f - HT.sIx i.size 0 lo)==i.size)=μ then _ else _) _ _ s;rw[g.1,g.2,N0 WN];unfold Builtin.Tuple.tupleIsExact;erw[NJ$ NJ$ PL H.typeIs$ NN ?_];rw[N0 WL];first
  |exact PU (NN #[_,Z,NN h])
  |exact NJ (PU (NN #[_,Z,NN h]))
  |exact NJ (NN (NN #[_,Z,NN h]))
end
section
variable {X:Cx}
inductive xq(x y:V)(H:Hp)(Q:VK):Prop
 |mk(a b c d:_)(_:x= .ref a)(_:y= .ref b)(_:H a=δ (.tup c))(_:H b=δ (.tup d))(_:c.length+d.length<=τ)(_:∀r H',H' r=δ (.tup (c++d))->aa H H'->Q (.ref r) H')
def jV:fX X (binaryOp .Add) xq:=by
 intro P s G H x y v u Q I r R h;let⟨a,b,m,Y,rfl,rfl,d,f,J,q⟩:=h;let t:=aC.of (K:=X.K) d;let w:=aC.of (K:=X.K) f;by_cases z:m=[]
 .subst z;cases r;cases R;let⟨l,L,M,_⟩:=I.tuple t;let⟨i,r2,N,_⟩:=I.tuple w;let O:l=[]:=L.nil_iff.mpr Z;subst O;obtain⟨⟨T,U,A,V⟩,B,C,n,E⟩:=id M;obtain⟨⟨F,D,data2,S⟩,g,j,W,k⟩:=id N;simp only at C E j k;subst C E j k;exact U3 #[_,B,Z] #[_,g,Z] Ua UN Sn Se (Sb _ _)
   (tuple_addW0 a b ([]:tz ζ).toArray i.toArray n W U D V S Z) #[B,g,.ref b,H,I,Z,q b H f$ aa.refl H]
 .refine Bm P s G H _ _ v u Q I r R #[a,b,m,Y,Z,Z,t,w,z,J,λe=>?_,λ_ p np=>?_]
  .subst e;exact q a H (by rwa[Op])$ aa.refl H
  .exact q p _ jc λc o e=>by rwa[jh$ jk e np]
inductive FM(x:V)(c b:tT Int)(H:Hp)(Q:VK):Prop
 |mk(a d:_)(_:x= .ref a)(_:H a=δ (.tup d))(_:∀r H',H' r=δ (.tup (aW d c b))->aa H H'->Q (.ref r) H')
def j8:LL X FM:=by
 intro P s u H x v V w lo j S Q I R k l m h;let⟨a,b,rfl,d,q⟩:=h;let n:=aC.of (K:=X.K) d;by_cases g:HT.sIx b.length 0 lo=0/\HT.sIx b.length b.length j=b.length
 .cases R;let⟨i,r,t,y⟩:=I.tuple n;let f:i.toArray.size=b.length:=by rw[NR];exact r.length.symm
  refine#["tuple",_,PyProof.Rows.slot_tuple_getitem.lookup,t.typeIs,?_];refine JF t k l m (by rwa[f]) #[.ref a,H,I,Z,q a H ?_$ aa.refl H];rw[d];unfold aW;rw[g.1,g.2,P7,SQ,OH]
 .exact Gp P s u H _ v V w lo j S Q I R k l m #[a,b,Z,n,g,λp N=>q p _ jc λc o e=>by rwa[jh$ jk e N]]
end
end _L
namespace _L
open PySem PySem.Spec PyProof.Rows
def CT{G:Bool->Hp->Prop}(y:G μ H)(n:b=ν->G b H):G b H:=by
 cases b
 .exact n Z
 .exact y
def aR{A:Prop}(h:∀G:Prop,(A->G)->G):A:=h A λz=>z
section
variable {t u:TS}{D:bh}{σ:St}{H:Hp}
def gp(h:∀E:bh,(∀a b,u D a b->E.nx a b)->t E σ H):dH t u D σ H:=h { D with nx:=u D } λ_ _ h=>h
def ai(h:∀F:St->Hp->Prop,(∀a b,u D a b->F a b)->t { D with nx:=F } σ H):dH t u D σ H:=h _ λ_ _ h=>h
def pP{c:TT}(h:∀F:Bool->Hp->Prop,(∀b a,(if b=μ then t D σ a else u D σ a)->F b a)->c σ H F):gX c t u D σ H:=h _ λ_ _ x=>x
def me{c:TT}(h:∀F:Bool->Hp->Prop,(∀a,t D σ a->F μ a)->(∀a,u D σ a->F ν a)->c σ H F):gX c t u D σ H:=by
 erw[h _ (λa x=>?_) λa x=>?_]
 .show if μ=μ then _ else _;rwa[N0 Z]
 .show if ν=μ then _ else _;rwa[N7 WL]
def eh(R:St->Hp->Prop)(c:∀E:bh,E.rt=D.rt->(∀a b,R a b->E.nx a b)->t E σ H)(d:∀a b,R a b->D.nx a b):Lr t D σ H:=#[R,c { D with nx:=R } Z λ_ _ h=>h,d]
def yX{c:TT}{T:TS}(W:Nat->St->Hp->Prop)(d:Nat)(e:W d σ H)
  (f:∀m σ H,∀E:bh,E.rt=D.rt->(∀M a b,M < m->W M a b->E.nx a b)->∀F:Bool->Hp->Prop,(∀b,T E σ b->F μ b)->(∀b,D.nx σ b->F ν b)->∀G:Prop,(c σ H F->G)->W m σ H->G):yL c T D σ H:=by
 refine#[W,#[d,e],λm σ H w=>?_];refine f m σ H { D with nx:=λa b=>∃M,M < m/\W M a b,ct:=λa b=>∃M,M < m/\W M a b,bk:=D.nx } Z (λM a b l g=>#[M,l,g]) _ (λb x=>?_) (λb x=>?_) _ (λz=>z) w
 .show if μ=μ then _ else _;rw[N0 Z];exact#[_,λ_ _ h=>h,x]
 .show if ν=μ then _ else _;rwa[N7 WL]
def sj(J:It)(g:TG)(T:TS)(D:bh)(σ:St)(H:Hp):Prop:=∃W:Nat->Nat->St->Hp->Prop,(∃m,W 0 m σ H)/\∀i m σ H,W i m σ H->
 (J.stop i H/\D.nx σ H)∨(J.go i H/\∃N:St->Hp->Prop,(∀a h,N a h->∃M,M < m/\W (i+1) M a h)/\∀x h,J.yld i H x h->g x σ h λb c=>T { D with nx:=N,ct:=N,bk:=D.nx } b c)
def dD{w:TI}(h:∀F:It->Hp->Prop,(∀J a,sj J g T D σ a->F J a)->w σ H F):Cq w g T D σ H:=h _ λ_ _ z=>z
def NB{g:TG}{Q:St->Hp->Prop}(h:∀F:St->Hp->Prop,(∀a b,Q a b->F a b)->g x σ H F):g x σ H Q:=h _ λ_ _ z=>z
def kH{lo:Int}{g:TG}{T:TS}{D:bh}{σ:St}{H:Hp}(Pv:Nat->St->Hp->Prop)(d:Pv 0 σ H)
  (e:∀E:bh,E.rt=D.rt->∀i σ H,i < n->(∀a c,Pv (i+1) a c->E.nx a c)->∀G:Prop,((g (.int$ lo+i) σ H λb f=>T E b f)->G)->Pv i σ H->G) (j:∀σ H,Pv n σ H->D.nx σ H):sj (uO lo n) g T D σ H:=
 QO Pv d (λi σ H k p=>e { D with nx:=Pv (i+1),ct:=Pv (i+1),bk:=D.nx } Z i σ H k (λ_ _ h=>h) _ (λz=>z) p) j
def zH{K:β}{a:η}{xs:tz V}{g:TG}{T:TS}{D:bh}{σ:St}{H:Hp}(Pv:Nat->St->Hp->Prop)(e:Pv 0 σ H)(f:∀i σ H,i<=xs.length->Pv i σ H->aH K H a xs)
  (j:∀E:bh,E.rt=D.rt->∀i x σ H,xs[i]?=δ x->(∀b d,Pv (i+1) b d->E.nx b d)->∀G:Prop,((g x σ H λc k=>T E c k)->G)->Pv i σ H->G) (l:∀σ H,Pv xs.length σ H->D.nx σ H):sj (y9 K a) g T D σ H:=
 vH Pv e f (λi x σ H m p=>j { D with nx:=Pv (i+1),ct:=Pv (i+1),bk:=D.nx } Z i x σ H m (λ_ _ h=>h) _ (λz=>z) p) l
def KZ{K:β}{xs:tz V}{g:TG}{T:TS}{D:bh}{σ:St}{H:Hp}(Pv:Nat->St->Hp->Prop)(e:Pv 0 σ H)(f:∀i σ H,i<=xs.length->Pv i σ H->aC K H a xs)
  (j:∀E:bh,E.rt=D.rt->∀i x σ H,xs[i]?=δ x->(∀b d,Pv (i+1) b d->E.nx b d)->∀G:Prop,((g x σ H λc k=>T E c k)->G)->Pv i σ H->G) (l:∀σ H,Pv xs.length σ H->D.nx σ H):sj (Aa K a) g T D σ H:=
 AD Pv e f (λi x σ H m p=>j { D with nx:=Pv (i+1),ct:=Pv (i+1),bk:=D.nx } Z i x σ H m (λ_ _ h=>h) _ (λz=>z) p) l
end
end _L
namespace _L
open PySem PySem.Spec PyProof.Rows PySem.SeqAt
section
variable {prog:ψ}{w:bF}{A:bU}{E:ζ->ι->Prop}{s:ι}
def Zl{P:Fin->ι->Prop}(H:s.heap.get? a=δ (seqObj "list" [v].toArray n))
  (h:P (.done$ .ret .none) { s with heap:=sortedHeap s.heap a [v] (ε [v]) }):π (χ prog w) A (dO.«list.sort» #[[.ref a],[]]) P E s:=by
 rw[Uo];erw[NJ$ U2 H Z ?_];erw[NJ$ R3 H Z ?_];obtain⟨e,b⟩:∃e,(s.heap.update a$ ab λ_=>(ε [])).get? a=δ (seqObj "list" (ε []) e):=#[_,Up H (λ_=>(ε []))];erw[NJ$ SM b Z ?_];erw[NJ$ RT ?_];erw[NJ$ RF ?_];erw[Oi ?_];let g:(((s.heap.update a$ ab λ_=>(ε [])).push$ seqObj "tuple" [v].toArray 0).push$ seqObj "list" (ε []) 0).get? a=δ (seqObj "list" (ε []) e):=NM _ (NM _ b);show π (χ prog w) A _ P E { s with heap:=((s.heap.update a$ ab λ_=>(ε [])).push$ seqObj "tuple" [v].toArray 0).push (seqObj "list" (ε []) 0) };dsimp only;let S:[v].toArray.size < 2:=by show 1 < 2;decide
 rw[N0 S,N0 S];erw[NJ$ NN ?_];rw[U7];erw[NJ$ NN ?_];dsimp only;erw[NJ$ SM g Z ?_];let c:(arrOf$ SortSt.mk' general' ([v].toArray.zip [v].toArray) (ε []) 7 θ).map (·.2)=(ε [v]):=by show([v].toArray.zip [v].toArray).map (·.2)=(ε [v]);simp
 rw[c];refine NJ$ R3 g Z ?_ (hsz2:=by show 1<=τ+1;omega);simp only[Pm,N9,Pg];exact NN h
def Ce{Q:ζ->ι->Prop}(H:s.heap.IsList l [v].toArray)
  (h:Q (.ref$ s.heap.objs.size+1) { s with heap:=sortedAll s.heap [v] (ε [v]) }):π (χ prog w) A (call (.builtin "sorted") [.ref l]) Q E s:=by
 erw[Ro Uf TU TW (TX _) ?_];unfold dO.«sorted»;erw[NJ (m:=checkCount "sorted" 1 1 _)$ NN ?_];erw[NJ$ U4 H ?_];erw[NJ$ RF ?_];let z:((s.heap.push$ seqObj "list" (ε []) 0).update s.heap.objs.size$ ab (·++[v].toArray)).objs.size=s.heap.objs.size+1:=by rw[TC,UB]
 let g:(((s.heap.push$ seqObj "list" (ε []) 0).update s.heap.objs.size$ ab (·++[v].toArray)).push$ seqObj "list" [v].toArray 0).get? (s.heap.objs.size+1)=δ (seqObj "list" [v].toArray 0):=by rw[<- z];exact NV _ Z
 show π _ _ _ _ _ { s with heap:=((s.heap.push$ seqObj "list" (ε []) 0).update s.heap.objs.size$ ab (·++[v].toArray)).push (seqObj "list" [v].toArray 0) };rw[z];erw[NJ$ Oi$ Oy Tl #[_,g,Z] Ti (Zl g #[_,Z,?_]) (Tq _)];exact NN #[_,Z,h]
end
inductive Tr where
 |lf (v:V) |tp (l:Tr) |nil |cons (h t:Tr)
noncomputable def Tr.dep:Tr->Nat
 | .lf _=>0
 | .tp l=>l.dep+1
 | .nil=>0
 | .cons h t=>max h.dep t.dep
noncomputable def Tr.isL:Tr->Bool
 | .nil | .cons _ _=>μ
 |_=>ν
noncomputable def Nv:V->Bool
 | .byt _ | .flt _=>ν
 |_=>μ
end _L
namespace _L
open PySem PySem.Spec PyProof.Rows
noncomputable def LZ(K:β)(a:η)(n:Nat):It:=
 #[λi H=>∃X x,aC K H a X/\X.length=n/\X.reverse[i]?=δ x,λi H x h=>h=H/\∀X,aC K H a X->X.reverse[i]?=δ x,λi H=>∃X,aC K H a X/\X.length=n/\i=n]
def yO{P:ψ}{K:β}(a f:η)(n:Nat):oJ P w K tg (LZ K a n) [f] f (λi h=>dZ h f a ((n:Int) - 1 - i)) where
 mem:=by simp
 obj:=λi h st b j=>by
  let e:b=f:=by simpa using j
  subst e;let⟨o,e,c,d⟩:=st;exact#[o,e,λv z=>by rw[d]at z;cases z]
 keep:=λi h q st k=>st.at λo e=>k f WN o e
 item:=by
  intro X y A B O i g s Q H E I t st C;subst y A B;let⟨l,x,D,T,m⟩:=C;let⟨r,R,p,hz⟩:=I.tuple D;let hl:=R.length;let U:=fh;let V:i < l.length:=by
   rcases SR i l.length with z |z
   .exact z
   .rw[O6 (by simpa using z)]at m;cases m
  let F:l[l.length - 1 - i]?=δ x:=by rw[RP V]at m;exact m
  let⟨u,W,Y⟩:=R.get F;let⟨G,J,f2,L,M,N⟩:=t f WN;let e:((n:Int) - 1 - i)=((l.length - 1 - i:Nat):Int):=by omega
  rw[e]at st;refine Iv (items:=r.toArray) st (show IsTup s.heap a r.toArray from p) (x:=u) (by simpa using W) (by simp only[NR];omega) λq S sb=>?_;let I1:au X g Q H { s with heap:=q,toks:=s.toks+1 }:=I.turned (t':=s.toks+1) (λb o j e=>(sb.2 b j).trans e) G J L M N;let⟨o,e',c,d⟩:=id S;refine#[u,Z,ZD (s:={ s with heap:=q,toks:=s.toks+1 }) e' c d WL #[x,H,I1,Y,#[Z,λys hy=>by rwa[I.tuple_inj hy D]],?_,λb j=>(t b j).1]];let e2:((n:Int) - 1 - ((i+1:Nat):Int))=((l.length - 1 - i:Nat):Int) - 1:=by omega
  show dZ q f a ((n:Int) - 1 - ((i+1:Nat):Int));rw[e2];exact S
 done:=by
  intro X y A B O i g s Q H E I t st C;subst y A B;let⟨l,D,T,m⟩:=C;let⟨G,J,f2,L,M,N⟩:=t f WN;let e:((n:Int) - 1 - (i:Int))= -1:=by omega
  rw[e]at st;exact tK (I.ok.hd O) st λq eb=>#[Z,I.turned (t':=s.toks) (λb o j e=>eb b o j e) G J L M N]
 self:=λ_ _ _ _ _ st h=>Dh st h
section
variable {X:Cx}{tg:dg}
inductive De(K:β)(R:It->Hp->Prop)(x:V)(b:Hp):Prop
 |mk(a c:_)(_:x= .ref a)(_:aC K b a c)(_:R (LZ K a c.length) b)
def Mr(K:β)(t:TE):TI:=λa H R=>t a H (De K R)
noncomputable def wZ{e:dg}{t:TE}{c:ρ}{p P:Pos}(j:Gl X c)(k:X.mg c=θ)(l:bootBuiltins c=δ (.type "reversed"))(y:PE X e t)(m:↥(c≠"__name__"))(n:↥((c==("__debug__":ρ))=ν))
  (r:↥(Δ [e] X.env=(ν,eval e X.env)::Δ [] X.env)) (A:↥((fy P$ Δ [] X.env).any (·.1)=ν)):PI X tg (.Call (.Name c p) [e] [] P) (Mr X.K t):=by
 intro d s B H R I h;erw[OP$ zJ I j k l ?_ m n];erw[OF ?_ r A];rw[r];show π _ _ (spliced ((ν,eval e X.env)::fy P (Δ [] X.env))) _ _ s;erw[PH$ aV (y d s B H _ I h) λu S z=>?_];let⟨x,C,g,D,a,v,E,F,q⟩:=z;subst E;cases (show u=Ξ a from D);let⟨i,G,J,N⟩:=g.tuple F;let f:=G.length;let L:=fh;refine Rh$ uZ (show IsTup S.heap a i.toArray from J) (by simp only[NR];omega) ?_;let w:dZ (S.heap.push$ revObj a i.toArray.size) S.heap.objs.size a ((v.length:Int) - 1 - ((0:Nat):Int)):=#[_,NV _ Z,Z,by rw[NR,<- f];simp [revObj]];refine Dh (s:={ S with heap:=S.heap.push (revObj a i.toArray.size),toks:=S.toks+1+1 }) w ?_;refine#[S.heap.objs.size,[S.heap.objs.size],_,_,C,Z,g.kept (t':=S.toks+1+1) λb o e=>NM _ e,yO a _ v.length,w,λb M=>?_,q];let e:b=S.heap.objs.size:=by simpa using M
 subst e;exact g.fpOk (NQ _)$ g.hok.fresh$ NQ _
end
def X8{K:β}{xs:tz V}{g:TG}{t:TS}{D:bh}(Pv:Nat->St->Hp->Prop)(k:Pv 0 b H)(l:∀i b H,i<=xs.length->Pv i b H->aC K H a xs)
  (n:∀E:bh,E.rt=D.rt->∀i x b H,xs.reverse[i]?=δ x->(∀c f,Pv (i+1) c f->E.nx c f)->∀G:Prop,((g x b H λj o=>t E j o)->G)->Pv i b H->G) (r:∀b H,Pv xs.length b H->D.nx b H):sj (LZ K a xs.length) g t D b H:=by
 refine#[λi m b H=>m=xs.length - i/\i<=xs.length/\Pv i b H,#[xs.length,WN,NY _,k],?_];rintro i m b H ⟨rfl,s,p⟩;let q:=l i b H s p;by_cases d:i < xs.length
 .refine .inr #[#[xs,_,q,Z,NK (by simpa using d)],Pv$ i+1,λc f P=>#[xs.length - (i+1),WM,Z,d,P],λx f y=>?_];let⟨e,y⟩:=y;subst e;exact n { D with nx:=Pv (i+1),ct:=Pv (i+1),bk:=D.nx } Z i x b _ (y xs q) (λ_ _ h=>h) _ (λz=>z) p
 .let e:i=xs.length:=by omega
  subst e;exact .inl #[#[xs,q,Z,Z],r b H p]
def yu:Slot "list_reverseiterator" "__length_hint__" "list_reverseiterator.__length_hint__":=by refine Slot.of (owner:="list_reverseiterator") (n:="__length_hint__") (by rw[Pk,OK];kernel_rfl) WO WO WO ?_ (by rw[Pu];kernel_rfl);first |exact .inl WO |exact .inr WO
def tM:typeLookup (.type "list_reverseiterator") "__len__"=pure θ:=by rw[Pk,OK];kernel_rfl
def Gu:isSubtype (.type "list_reverseiterator") (.type "list_reverseiterator")=pure μ:=by rw[Pu];kernel_rfl
section
variable {prog:ψ}{w:bF}{A:bU}{E:ζ->ι->Prop}{s:ι}
def Ef(H:s.heap.IsRevIter I t k){Q:Bool->ι->Prop}(h:Q ν s):π (χ prog w) A (ll$ .ref I) Q E s:=by
 unfold ll;erw[NJ$ Py H.typeIs tM ?_];show π _ A (specialOf (Ξ I) (Str.ofString "__length_hint__") >>= _) _ _ _;erw[NJ$ Py H.typeIs yu.lookup ?_];let e:splitId "list_reverseiterator.__length_hint__"=δ ("list_reverseiterator","__length_hint__"):=by decide+kernel
 dsimp only;rw[e];dsimp only;erw[NJ$ P9 (b:=μ) H.typeIs Gu ?_];simp only[RX,N9,Pg];rw[N0 WO,N7 WO];exact NN h
def sJ{a:Array ζ}{Q:tz ζ->ι->Prop}(z:A.handled=θ)(f:s.heap.IsRevIter I t ((a.size:Int) - 1))(r:s.heap.IsList t a)(B:t≠I)(C:a.size<=τ)
  (D:∀S,(∀b o,b≠I->s.heap.get? b=δ o->S.heap.get? b=δ o)->s.heap.objs.size<=S.heap.objs.size->S.gens=s.gens->S.os=s.os->Q a.toList.reverse S):π (χ prog w) A (collect$ .ref I) Q E s:=by
 let j:I < s.heap.objs.size:=by let⟨o,k,_⟩:=f;exact NT k
 let n:t < s.heap.objs.size:=by let⟨o,k,_⟩:=r;exact NT k
 let u:I≠s.heap.objs.size:=N8 j;let F:t≠s.heap.objs.size:=N8 n;unfold collect;refine NJ (Uw (Pl TB (by
  rw[OX Tz _];show π _ A.in1 (newList [] >>= λl=>again (.builtin "list.__iadd__" #[[l,.ref I],[]])) _ _ s;erw[NJ$ OB$ NN #[P8 Rt _,Pl T4 ?_]];rw[OX Rt _];generalize v:s.heap.push { cls:=.type "list",data:=.seq ([]:tz ζ).toArray }=H;let J:H.get? s.heap.objs.size=δ { cls:=.type "list",data:=.seq (ε []) }:=by rw[<- v];exact NV _ Z
  let G:∀b o,s.heap.get? b=δ o->H.get? b=δ o:=λb o e=>by rw[<- v];exact NM _ e
  let h:H.IsRevIter I t ((a.size:Int) - 1):=f.at λo e=>G I o e;let p:H.IsList t a:=r.at λo e=>G t o e;show π _ A.in1 (hG (.ref s.heap.objs.size) (.ref I)$ .ref s.heap.objs.size) _ _ { s with heap:=H };unfold hG;refine NJ$ PL (s:={ s with heap:=H }) h.typeIs ?_;let K:eT (.ref s.heap.objs.size) (.ref I)=ν:=by simp only[eT,beq_eq_false_iff_ne];exact Ou u
  let L:(fr "list_reverseiterator"==fr "list")=ν:=by decide
  let M:(fr "list_reverseiterator"==fr "tuple")=ν:=by decide
  simp only[K,L,M,Um,N9,Pg];refine NJ$ wpAny_pyIter_revIter (s:={ s with heap:=H }) h$ NJ$ Oi$ Ef (s:={ s with heap:=H }) h ?_;let N:¬s.heap.objs.size∈[I,t]:=by simp only[P6,Ov,SX,not_or];exact#[Ou u,Ou F]
  rw[N7 WO];erw[NN #[P8 TJ _,?_]];let W:=(Walks.listRev (prog:=prog) (w:=w) (A:=A.in1) (by simpa using z) I t B a).toS;refine Vq W C _ N _ a.size 0 _ (ε []) _ Z (NY _) #[NY _,by simpa using h,p] J (VD _) λS d U m x c=>?_;let O:d=a.toList.reverse.toArray:=by
   apply Array.ext';erw[List.ext_getElem? λi=>?_];by_cases y:i < a.size
   .let g:i < d.size:=by rwa[c.1]
    let q:=c.2 i d[i] (by simp [g]);rw[Po,PQ g,<- q];show a[a.size - 1 - i]?=a.toList.reverse[i]?;rw[RP (by simpa using y)];simp
   .rw[O6 (by rw[Om,c.1];omega),O6 (by simp;omega)]
  subst O;show π _ A (load s.heap.objs.size >>= _) _ _ S;erw[NJ$ VI x$ NN ?_];let P:a.toList.reverse.toArray.toList=a.toList.reverse:=by simp
  rw[P];refine D S (λb o R e=>?_) ?_ m.gens m.os
  .let T:b≠s.heap.objs.size:=N8 (NT e);exact m.heap b o (by simp only[P6,Ov,SX,not_or];exact#[T,R])$ G b o e
  .exact P5$ NT x)))
def XJ{i:Array ζ}{Q:ζ->ι->Prop}(f:A.handled=θ)(H:s.heap.IsRevIter I t ((i.size:Int) - 1))(g:s.heap.IsList t i)(j:t≠I)(d:i.size<=τ)
  (h:∀S:ι,(∀b o,b≠I->s.heap.get? b=δ o->S.heap.get? b=δ o)->s.heap.objs.size<=S.heap.objs.size->S.gens=s.gens->S.os=s.os->
   Q (.ref S.heap.objs.size) { S with heap:=S.heap.push { cls:=.type "tuple",data:=.seq i.toList.reverse.toArray } }):
  kw (χ prog w) A (.call (.builtin "tuple.__new__") #[[.type "tuple",.ref I],[]]) (wants Q E) s:=by
 refine Uq (show π _ A.in1 (do checkBuiltinCall "tuple.__new__" #[[.type "tuple",.ref I],[]];again (.builtin "tuple.__new__" #[[.type "tuple",.ref I],[]])) _ _ s from ?_);refine NJ (SK (PySem.F.newCall_tuple_1 _) (NN #[P8 TZ _,Pl PySem.F.entry_tuple_new (by
  rw[OX TZ _];let e:=sub_tuple_self;let a:=init_tuple_lookup;let l:=madeHere_tuple;let c:=H.typeIs;wp_walk using PL c,sJ (by simpa using f) H g j d;intro S k z m n;show π _ _ (ef i.toList.reverse.toArray >>= λv=>ret v) _ _ _;unfold ef;exact NJ$ OB (NN$ h S k z m n) (by show i.toList.reverse.toArray.size<=τ;simpa using d))]))
def XL{items:Array ζ}{Q:ζ->ι->Prop}(d:A.handled=θ)(c:s.heap.IsRevIter I t ((items.size:Int) - 1))(e:s.heap.IsList t items)(f:t≠I)(g:items.size<=τ)
  (h:∀a:ι,(∀b o,b≠I->s.heap.get? b=δ o->a.heap.get? b=δ o)->s.heap.objs.size<=a.heap.objs.size->a.gens=s.gens->a.os=s.os->
   Q (.ref a.heap.objs.size) { a with heap:=a.heap.push { cls:=.type "tuple",data:=.seq items.toList.reverse.toArray } }):π (χ prog w) A (call (.type "tuple") [.ref I]) Q E s:=by
 refine WE (Q₁:=λO S=>S.TypeIs O "tuple"/\Q O S) nI (PySem.F.typeCall_tuple_1 _) PySem.F.entry_object_init (XJ (by simpa using d) c e f g λa k z i j=>#[#[_,NV _ Z,Z],h a k z i j]) λO S H=>?_;exact#[H.1,RZ O _,object_init_meets nI.init.lookup nI.made WL prog w A.in1 _ S #[H.1,Z,H.2]]
end
section
variable {X:Cx}{e:dg}{te:TE}{xl xr:ρ}{p p2 pos pos2:Pos}
inductive on(K:β)(Q:VK)(x:V)(b:Hp):Prop
 |mk(a c:_)(_:x= .ref a)(_:aH K b a c)(_:∀l,b l=θ->Q (.ref l) (af b l (.tup c.reverse)))
def Cu(K:β)(te:TE):TE:=λa H Q=>te a H (on K Q)
noncomputable def ug(M:X.calm=μ)(g:Gl X xl)(j:X.mg xl=θ)(l:bootBuiltins xl=δ (.type "tuple"))(m:Gl X xr)(n:X.mg xr=θ)(r:bootBuiltins xr=δ (.type "reversed"))(O:PE X e te)
  (t:↥(xl≠"__name__")) (v:↥((xl==("__debug__":ρ))=ν)) (y:↥(xr≠"__name__")) (A:↥((xr==("__debug__":ρ))=ν))
  (E:↥(Δ [.Call (.Name xr p2) [e] [] pos2] X.env=(ν,eval (.Call (.Name xr p2) [e] [] pos2) X.env)::Δ [] X.env)) (T:↥((fy pos$ Δ [] X.env).any (·.1)=ν))
  (F:↥(Δ [e] X.env=(ν,eval e X.env)::Δ [] X.env)) (U:↥((fy pos2$ Δ [] X.env).any (·.1)=ν)):
  PE X (.Call (.Name xl p) [.Call (.Name xr p2) [e] [] pos2] [] pos) (Cu X.K te):=by
 intro P s V H Q I h;erw[OP$ zJ I g j l ?_ t v];erw[OF ?_ E T];rw[E];show π _ _ (spliced ((ν,eval (.Call (.Name xr p2) [e] [] pos2) X.env)::fy pos (Δ [] X.env))) _ _ s;erw[PH ?_];erw[OP$ zJ I m n r ?_ y A];erw[OF ?_ F U];rw[F];show π _ _ (spliced ((ν,eval e X.env)::fy pos2 (Δ [] X.env))) _ _ s;erw[PH$ aV (O P s V H _ I h) λu d B=>?_];let⟨x,W,f,Y,a,G,ex,hq,q⟩:=B;subst ex;cases (show u=Ξ a from Y);let⟨i,R,C,hz⟩:=f.list hq;let J:=R.length;erw[Rh$ call_reversed_list C.isList$ Rh ?_];let D:a < d.heap.objs.size:=by let⟨o,ho,_⟩:=C.isList;exact NT ho
 refine XL (s:={ d with heap:=d.heap.push (PySem.revObj a ((i.toArray.size:Int) - 1)) }) (items:=i.toArray) (I.ok.hd M) #[_,NV _ Z,Z,Z] (C.isList.at λo e=>NM _ e) (N8 D)
  (by simp only[NR];omega) λS k hl kg ko=>?_
 let c:d.heap.objs.size<=S.heap.objs.size:=N6 (by show _<=(d.heap.push _).objs.size;rw[OL];exact OR _) hl;let L:∀b o,d.heap.get? b=δ o->(S.heap.push { cls:=.type "tuple",data:=.seq i.toArray.toList.reverse.toArray }).get? b=δ o:=λb o e=>NM _ (k b o (N8$ NT e)$ NM _ e);let hg:(S.heap.push { cls:=.type "tuple",data:=.seq i.toArray.toList.reverse.toArray }).get? S.heap.objs.size=δ { cls:=.type "tuple",data:=.seq i.toArray.toList.reverse.toArray }:=NV _ Z;let N:aP X.prog X.w (af W S.heap.objs.size$ .tup G.reverse) (S.heap.push { cls:=.type "tuple",data:=.seq i.toArray.toList.reverse.toArray }) S.heap.objs.size (.tup G.reverse):=by
  refine#[by rw[UQ];exact hz,i.reverse,aD.reverse R,?_];let ee:i.toArray.toList.reverse.toArray=i.reverse.toArray:=by simp
  rw[<- ee];exact#[_,hg,Z,_,Z]
 exact#[.ref S.heap.objs.size,_,f.call' (ch:=[]) ko (Un.laid L c$ f.hok.fresh c) (f.hok.laid L c N) (by show AllBare S.gens;rw[kg];exact f.bare) (λ_ z=>nomatch z),Z,q _$ f.hok.fresh c]
end
section
variable {prog:ψ}{w:bF}{A:bU}{E:ζ->ι->Prop}{s:ι}
def Qe{x:ζ}{Q:ζ->ι->Prop}(a:s.heap.IsTupleIter J T i)(e:s.heap.IsTuple T I)(f:I[i]?=δ x)
  (q:∀b,b.IsTupleIter J T (i+1)->fx J s.heap b->Q x { s with heap:=b }):π (χ prog w) A (Ω$ .ref J) Q E s:=by
 let⟨o,H,g,h⟩:=id a;let⟨O,c,_,n,d⟩:=e;unfold Ω;refine NJ$ OA (name:=Str.ofString "__next__") a.typeIs O5$ Oy O5 a.typeIs Ry (show π _ _ (field (.ref J) 0 >>= _) _ _ s from ?_)$ Rs _;refine NJ$ Oo H h (x:=.ref T) Z (show π _ _ (if (Ξ T==γ)=μ then _ else _) _ _ s from ?_);rw[N7 (show ¬((Ξ T==γ)=μ) from N5)];refine(show π _ _ (field (.ref J) 1 >>= _) _ _ s from NJ$ Oo H h (x:=.int i 0) Z (show π _ _ (seqItems? (.ref T) >>= _) _ _ s from NJ$ OY c d ?_));simp only[OM,f];refine NJ$ ON H h WN$ NN #[x,Z,NN$ q _ #[_,Oz _ H$ O7$ Ox h _,(RM ..).trans g,by rw[Ox h];simp [rawInt]] (Pr ..)]
def tL(g:A.handled=θ)(H:s.heap.IsTupleIter J T i)(j:s.heap.IsTuple T I)(l:I[i]?=θ)
  (q:∀h e,ov J s.heap h->Shared.TypeIs { s with heap:=h } e "StopIteration"->E e { s with heap:=h }):π (χ prog w) A (Ω$ .ref J) Q E s:=by
 let⟨o,a,p,c⟩:=id H;let⟨O,d,_,N,f⟩:=j;unfold Ω;refine NJ$ OA (name:=Str.ofString "__next__") H.typeIs O5$ Oy O5 H.typeIs Ry (show π _ _ (field (.ref J) 0 >>= _) _ _ s from ?_)$ Rs _;refine NJ$ Oo a c (x:=.ref T) Z (show π _ _ (if (Ξ T==γ)=μ then _ else _) _ _ s from ?_);rw[N7 (show ¬((Ξ T==γ)=μ) from N5)];refine(show π _ _ (field (.ref J) 1 >>= _) _ _ s from NJ$ Oo a c (x:=.int i 0) Z (show π _ _ (seqItems? (.ref T) >>= _) _ _ s from NJ$ OY d f ?_));simp only[OM,l];erw[NJ$ PU$ NJ$ ON a c WN ?_];refine Kh (by simpa using g) λh e k t=>q h e (λb o m n=>k b o ?_) t;exact(Of _ _$ Ou m).trans n
end
def iw(b:Bool)(h:cJ)(i l:η)(k:Nat):Prop:=match b with
 |true=>h.IsListIter i l k
 |false=>h.IsTupleIter i l k
def lH(b:Bool)(h:cJ)(l:η)(x:Array ζ):Prop:=match b with
 |true=>h.IsList l x
 |false=>h.IsTuple l x
noncomputable def gD:Bool->String
 |true=>"list_iterator"
 |false=>"tuple_iterator"
def iw.kp{b:Bool}{H:cJ}(x:iw b h i l k)(e:∀o,h.get? i=δ o->H.get? i=δ o):iw b H i l k:=by
 cases b
 .exact VF x e
 .let⟨o,a,r⟩:=x;exact#[o,e o a,r]
def lH.kp{b:Bool}{H:cJ}(x:lH b h l a)(e:∀o,h.get? l=δ o->H.get? l=δ o):lH b H l a:=by
 cases b
 .let⟨o,c,r⟩:=x;exact#[o,e o c,r]
 .exact WK x e
def iw.ob(x:iw b h i l k):∃o,h.get? i=δ o/\o.cls= .type (gD b)/\∀v,o.data≠ .cell v:=by
 cases b
 .let⟨o,H,c,d⟩:=x;exact#[o,H,c,λv z=>by rw[d]at z;cases z]
 .let⟨o,H,c,d⟩:=x;exact#[o,H,c,λv z=>by rw[d]at z;cases z]
section
variable {prog:ψ}{w:bF}{A:bU}{E:ζ->ι->Prop}{s:ι}
def qw{Q:ζ->ι->Prop}(H:iw b s.heap J T i)(a:lH b s.heap T I)(c:I[i]?=δ x)
  (q:∀h,iw b h J T (i+1)->fx J s.heap h->Q x { s with heap:=h }):π (χ prog w) A (Ω$ .ref J) Q E s:=by
 cases b
 .exact Qe H a c q
 .exact wpAny_nextOf_list_item H a c q
def Q3(H:A.handled=θ)(a:iw b s.heap J T i)(c:lH b s.heap T I)(d:I[i]?=θ)
  (q:∀h e,ov J s.heap h->Shared.TypeIs { s with heap:=h } e "StopIteration"->E e { s with heap:=h }):π (χ prog w) A (Ω$ .ref J) Q E s:=by
 cases b
 .exact tL H a c d q
 .exact wpAny_nextOf_list_end H a c d λh e k #[o,f,g]=>q h (.ref e) k #[o,f,g]
def Di{Q:ζ->ι->Prop}(h:lH b s.heap T i)
  (q:Q (.ref s.heap.objs.size) { s with heap:=s.heap.push { cls:=.type (gD b),data:=.fields (ε [.ref T,.int 0 0]) } }):π (χ prog w) A (pyIter$ .ref T) Q E s:=by
 cases b
 .exact RL h q
 .exact SJ h q
structure Ao(z u v c d a b:η):Prop where
 uz:u≠z
 vz:v≠z
 cz:c≠z
 dz:d≠z
 uv:u≠v
 uc:u≠c
 ud:u≠d
 vc:v≠c
 vd:v≠d
 cd:c≠d
 az:a≠z
 av:a≠v
 ac:a≠c
 ad:a≠d
 bz:b≠z
 bv:b≠v
 bc:b≠c
 bd:b≠d
def CD{Q:tT ζ->ι->Prop}(D:Ao z u v c d a b)
  (H:IsZip s.heap z u v .none) (hu:IsPair s.heap u (.ref c) (.ref d)) (hv:IsPair s.heap v p q) (h1:iw B s.heap c a k) (h2:iw C s.heap d b k) (g1:lH B s.heap a xs) (g2:lH C s.heap b ys) (hx:xs[k]?=δ x) (hy:ys[k]?=δ y)
  (hQ:∀h,IsZip h z u v (rawInt s.heap.objs.size)->IsPair h v x y->iw B h c a (k+1)->iw C h d b (k+1)->IsPair h s.heap.objs.size x y->h.objs.size=s.heap.objs.size+1->
   (∀e o,e≠z->e≠v->e≠c->e≠d->s.heap.get? e=δ o->h.get? e=δ o)->Q (δ$ .ref s.heap.objs.size) { s with heap:=h }):π (χ prog w) A (pyNext$ .ref z) Q E s:=by
 let W:s.TypeIs (.ref z) "zip":=#[_,H,Z];unfold pyNext;refine NJ$ RG$ OA (name:=Str.ofString "__next__") W Pd$ Oy Pd W RE (show π _ _ (field (.ref z) 2 >>= _) _ _ _ from ?_)$ Ru _;refine NJ$ Oo H Z (x:=.bool ν) Z (show π _ _ (field (.ref z) 3 >>= _) _ _ _ from NJ$ Oo H Z (x:=.ref u) Z$ NJ$ OY hu Z ?_);refine(show π _ _ (bx (.ref z) >>= _) _ _ _ from NJ ?_);unfold bx;erw[NJ$ Oo H Z (x:=.none) Z$ NN ?_];simp only[R4];erw[NJ$ PU$ NJ$ Oo H Z (x:=.ref v) Z$ NJ$ Ri H WN λX F S=>?_];replace F:IsZip X z u v .ellipsis:=F;erw[NJ ?_];simp only[Vf,Vr,Ra,Sa];refine NJ$ NJ$ UL (show π _ _ (Ω (.ref c) >>= _) _ _ _ from ?_);refine NJ$ qw (s:={ s with heap:=X }) (h1.kp λo e=>S.extBut _ _ D.cz e) (g1.kp λo e=>S.extBut _ _ D.az e) hx λG i2 l=>NN ?_;let Y:IsPair G v p q:=l.extBut _ _ D.vc (S.extBut _ _ D.vz hv);refine NJ$ OY (s:={ s with heap:=G }) Y Z$ NJ$ Vl (s:={ s with heap:=G }) Y λI J r=>?_;replace J:IsPair I v x q:=J;refine NJ$ Vn$ NN$ NJ$ NJ$ UL (show π _ _ (Ω (.ref d) >>= _) _ _ _ from ?_);let K:∀e o,e≠z->e≠c->e≠v->s.heap.get? e=δ o->I.get? e=δ o:=λe o N f g w=>r.extBut _ _ g (l.extBut _ _ f$ S.extBut _ _ N w);refine NJ$ qw (s:={ s with heap:=I }) (h2.kp λo e=>K _ _ D.dz D.cd.symm D.vd.symm e) (g2.kp λo e=>K _ _ D.bz D.bc D.bv e) hy λL i4 i=>NN ?_;let v4:IsPair L v x q:=i.extBut _ _ D.vd J;refine NJ$ OY (s:={ s with heap:=L }) v4 Z$ NJ$ Vl (s:={ s with heap:=L }) v4 λm V j=>?_;replace V:IsPair m v x y:=V;refine NJ$ Vn$ NN$ NN$ NJ$ OY (s:={ s with heap:=m }) V Z$ NJ$ RT ?_;let e5:m.objs.size=s.heap.objs.size:=by rw[j.1,i.1,r.1,l.1,S.1]
 let k5:∀e o,e≠z->e≠v->e≠c->e≠d->s.heap.get? e=δ o->m.get? e=δ o:=λe o N f g O w=>j.extBut _ _ f (i.extBut _ _ O$ K e o N g f w);let z5:IsZip m z u v .ellipsis:=j.extBut _ _ D.vz.symm (i.extBut _ _ D.dz.symm$ r.extBut _ _ D.vz.symm$ l.extBut _ _ D.cz.symm F);let j1:iw B m c a (k+1):=i2.kp λo e=>j.extBut _ _ D.vc.symm (i.extBut _ _ D.cd$ r.extBut _ _ D.vc.symm e);let j2:iw C m d b (k+1):=i4.kp λo e=>j.extBut _ _ D.vd.symm e;let lz:z < m.objs.size:=NT z5;refine(show π _ _ (mB (.ref z) (.ref m.objs.size) >>= _) _ _ _ from NJ ?_);unfold mB;let z6:IsZip (m.push { cls:=.type "tuple",data:=.seq (ε [x,y]) }) z u v .ellipsis:=NM _ z5;erw[NJ$ Ri z6 WN λm7 P R=>?_];replace P:IsZip m7 z u v (rawInt m.objs.size):=P;erw[Ri P WN λM t T=>?_];replace t:IsZip M z u v (rawInt m.objs.size):=t;let U:∀e o,e≠z->m.get? e=δ o->M.get? e=δ o:=λe o n w=>T.extBut _ _ n (R.extBut _ _ n$ NM _ w);let t8:IsPair M m.objs.size x y:=T.extBut _ _ (OS lz) (R.extBut _ _ (OS lz)$ NV _ Z);let e8:M.objs.size=m.objs.size+1:=by rw[T.1,R.1,OL]
 rw[e5]at t t8 e8;erw[NN #[_,Z,NN ?_]];show Q (δ$ .ref m.objs.size) _;rw[e5];exact hQ M t (U _ _ D.vz V) (j1.kp λo e=>U _ o D.cz e) (j2.kp λo e=>U _ o D.dz e) t8 e8 λe o N f g O w=>U e o N (k5 e o N f g O w)
def GN{b2:Bool}{ys:Array ζ}{p q:ζ}{Q:tT ζ->ι->Prop}(C:A.handled=θ)(D:Ao z u v c d a b)
  (h:IsZip s.heap z u v .none) (F:IsPair s.heap u (.ref c) (.ref d)) (G:iw I s.heap c a k) (J:lH I s.heap a L) (K:L[k]?=θ)
  (O:∀H,(∀e o,e≠z->e≠v->e≠c->e≠d->s.heap.get? e=δ o->H.get? e=δ o)->Q θ { s with heap:=H }):π (χ prog w) A (pyNext$ .ref z) Q E s:=by
 let g:s.TypeIs (.ref z) "zip":=#[_,h,Z];unfold pyNext;refine NJ$ RG$ OA (name:=Str.ofString "__next__") g Pd$ Oy Pd g RE (show π _ _ (field (.ref z) 2 >>= _) _ _ _ from ?_)$ Ru _;refine NJ$ Oo h Z (x:=.bool ν) Z (show π _ _ (field (.ref z) 3 >>= _) _ _ _ from NJ$ Oo h Z (x:=.ref u) Z$ NJ$ OY F Z ?_);refine(show π _ _ (bx (.ref z) >>= _) _ _ _ from NJ ?_);unfold bx;erw[NJ$ Oo h Z (x:=.none) Z$ NN ?_];simp only[R4];erw[NJ$ PU$ NJ$ Oo h Z (x:=.ref v) Z$ NJ$ Ri h WN λm f S=>?_];replace f:IsZip m z u v .ellipsis:=f;erw[NJ ?_];simp only[Vf,Vr,Ra,Sa];refine NJ$ NJ$ UL (show π _ _ (Ω (.ref c) >>= _) _ _ _ from ?_);refine NJ$ Q3 (s:={ s with heap:=m }) (by simpa using C) (G.kp λo e=>S.extBut _ _ D.cz e) (J.kp λo e=>S.extBut _ _ D.az e) K λM e i j=>?_;let l:IsZip M z u v .ellipsis:=i _ _ D.cz.symm f;refine Ri (s:={ s with heap:=M }) l WN λn U r=>?_;let t:Shared.TypeIs { s with heap:=n } e "StopIteration":=by
  cases e with
  |ref x=>
   let⟨o,y,B⟩:=j;let P:x≠z:=λw=>by subst w;let:=y.symm.trans l;cases this;injection B with w;exact absurd w WL
   exact#[o,r.extBut _ _ P y,B]
  |_=>exact j
 exact NJ$ P9 (T:="StopIteration") (b:=μ) t Tn$ NN$ O n λe o N V R W w=>r.extBut _ _ N (i _ _ R$ S.extBut _ _ N w)
def GP{b1 b2:Bool}{xs ys:Array ζ}{Q:ζ->ι->Prop}(J:lH b1 s.heap a xs)(L:lH b2 s.heap b ys)
  (h:∀H,IsZip H (s.heap.objs.size+4) (s.heap.objs.size+2) (s.heap.objs.size+3) .none->IsPair H (s.heap.objs.size+2) (.ref s.heap.objs.size) (.ref$ s.heap.objs.size+1)->
   IsPair H (s.heap.objs.size+3) .none .none->iw b1 H s.heap.objs.size a 0->iw b2 H (s.heap.objs.size+1) b 0->(∀e o,s.heap.get? e=δ o->H.get? e=δ o)->Q (.ref$ s.heap.objs.size+4) { s with heap:=H }):
  π (χ prog w) A (call (.type "zip") [.ref a,.ref b]) Q E s:=by
 refine U6 (S:=λ_ R c=>c=s/\R (.ok$ .ret$ .ref$ s.heap.objs.size+4) { s with heap:=((((s.heap.push { cls:=.type (gD b1),data:=.fields (ε [.ref a,.int 0 0]) }).push { cls:=.type (gD b2),data:=.fields (ε [.ref b,.int 0 0]) }).push { cls:=.type "tuple",data:=.seq (ε [.ref s.heap.objs.size,.ref$ s.heap.objs.size+1]) }).push { cls:=.type "tuple",data:=.seq (ε [.none,.none]) }).push { cls:=.type "zip",data:=.fields (ε [.none,.bool ν,.bool ν,.ref$ s.heap.objs.size+2,.ref$ s.heap.objs.size+3]) } })
  PySem.F.called_zip WL (PySem.F.typeCall_zip_2 _ _) (PySem.F.newCall_zip_2 _ _) (λO=>PySem.F.args_object_init_3 O _ _) PySem.F.entry_zip_new (.of_wp λp w' A' R c P=>?_) #[Z,?_]
 .let⟨rfl,q⟩:=P;let⟨r,g,D,t,os⟩:=c;let u:=sub_zip;let T:lH b1 (Shared.heap #[r,g,D,t,os]) a xs:=J;let _L:lH b2 (Shared.heap #[r.push { cls:=.type (gD b1),data:=.fields (ε [.ref a,.int 0 0]) },g,D,t,os]) b ys:=L.kp λo e=>NM _ e;wp_walk using Di T,Di _L;refine#[_,Z,?_];simp only[OL]at q ⊢;exact q
 .let z (h:cJ) (o:ge):(h.push o).objs.size=h.objs.size+1:=OL ..;generalize d:s.heap.push { cls:=.type (gD b1),data:=.fields (ε [.ref a,.int 0 0]) }=M;generalize f:M.push { cls:=.type (gD b2),data:=.fields (ε [.ref b,.int 0 0]) }=i;generalize j:i.push { cls:=.type "tuple",data:=.seq (ε [.ref s.heap.objs.size,.ref$ s.heap.objs.size+1]) }=k;generalize l:k.push { cls:=.type "tuple",data:=.seq (ε [.none,.none]) }=n;generalize v:n.push { cls:=.type "zip",data:=.fields (ε [.none,.bool ν,.bool ν,.ref$ s.heap.objs.size+2,.ref$ s.heap.objs.size+3]) }=m;let N:M.objs.size=s.heap.objs.size+1:=by rw[<- d,z]
  let x:i.objs.size=s.heap.objs.size+2:=by rw[<- f,z,N]
  let y:k.objs.size=s.heap.objs.size+3:=by rw[<- j,z,x]
  let U:n.objs.size=s.heap.objs.size+4:=by rw[<- l,z,y]
  let K:∀e o,n.get? e=δ o->m.get? e=δ o:=λe o w=>by rw[<- v];exact NM _ w
  let B:∀e o,k.get? e=δ o->m.get? e=δ o:=λe o w=>K e o (by rw[<- l];exact NM _ w);let C:∀e o,i.get? e=δ o->m.get? e=δ o:=λe o w=>B e o (by rw[<- j];exact NM _ w);let G:∀e o,M.get? e=δ o->m.get? e=δ o:=λe o w=>C e o (by rw[<- f];exact NM _ w);let V:∀e o,s.heap.get? e=δ o->m.get? e=δ o:=λe o w=>G e o (by rw[<- d];exact NM _ w);let I:IsZip m (s.heap.objs.size+4) (s.heap.objs.size+2) (s.heap.objs.size+3) .none:=by rw[<- U,<- v];exact NV _ Z
  let W:IsPair m (s.heap.objs.size+3) .none .none:=K _ _ (by rw[<- y,<- l];exact NV _ Z);let X:IsPair m (s.heap.objs.size+2) (.ref s.heap.objs.size) (.ref$ s.heap.objs.size+1):=B _ _ (by rw[<- x,<- j];exact NV _ Z);let Y:m.get? (s.heap.objs.size+1)=δ { cls:=.type (gD b2),data:=.fields (ε [.ref b,.int 0 0]) }:=C _ _ (by rw[<- N,<- f];exact NV _ Z);let q1:m.get? s.heap.objs.size=δ { cls:=.type (gD b1),data:=.fields (ε [.ref a,.int 0 0]) }:=G _ _ (by rw[<- d];exact NV _ Z);refine#[#[_,I,Z],h m I X W ?_ ?_ V]
  .cases b1<;>exact#[_,q1,Z,Z]
  .cases b2<;>exact#[_,Y,Z,Z]
end
def CF(n a b:Nat)(h:a < n)(H:b < n):Ao (n+4) (n+2) (n+3) n (n+1) a b:=by refine#[?_,?_,?_,?_,?_,?_,?_,?_,?_,?_,?_,?_,?_,?_,?_,?_,?_,?_]<;>(show(_:Nat)≠_;omega)
section
variable {prog:ψ}{w:bF}{A:bU}{E:ζ->ι->Prop}
theorem CZ(h:l≠J):∀(n i:Nat) (s:ι) (Q:tz ζ->ι->Prop),s.heap.IsListIter J l i->s.heap.IsList l I->i+n<=I.size->
  (∀a,a.IsListIter J l (i+n)->fx J s.heap a->Q ((I.toList.drop i).take n) { s with heap:=a })->π (χ prog w) A (draw (.ref J) n) Q E s
 |0,i,s,Q,b,_,_,q=>show π _ _ (pure []) Q E s from NN (by simpa using q s.heap b (Ue ..))
 |n+1,i,s,Q,b,c,d,q=>by
  let H:i < I.size:=by omega
  refine(show π _ _ (pyNext (.ref J) >>= _) Q E s from NJ$ UZ b c (x:=I[i]) (by simp [H]) λm j S=>?_);erw[NJ$ Oi$ CZ h n (i+1) _ _ j (c.extBut S.extBut h) WM λf g k=>NN ?_];let e:=q f (by rwa[show i+(n+1)=i+1+n by omega]) (S.trans k);rwa [show I.toList.drop i=I[i]::I.toList.drop (i+1) by simp [List.drop_eq_getElem_cons,H],List.take_succ_cons]at e
def Cy{s:ι}{Q:tz ζ->ι->Prop}(f:A.handled=θ)(h:s.heap.IsList l i)(a:i.size=n)
  (q:∀c,ov s.heap.objs.size s.heap c->Q i.toList { s with heap:=c }):π (χ prog w) A (unpackItems (.ref l) n θ) Q E s:=by
 let H:l≠s.heap.objs.size:=by let⟨o,g,_⟩:=h;exact N8$ NT g
 unfold unpackItems;erw[NJ ?_];unfold notIterableAtAll;erw[NJ$ Py h.typeIs slot_list_iter.lookup ?_];erw[NN ?_];simp only[N9,Pg];erw[NJ$ Oi$ SJ h ?_];let I:(s.heap.push { cls:=.type "list_iterator",data:=.fields (ε [.ref l,.int 0 0]) }).IsListIter s.heap.objs.size l 0:=#[_,NV _ Z,Z,Z];erw[NJ$ Oi$ CZ H n 0 _ _ I (h.push _) WM λj J S=>?_];let k:(i.toList.drop 0).take n=i.toList:=by rw[P7,O0 (by simp [a])]
 rw[k,N7 (by simp [a])];let L:j.IsList l i:=(h.push _).extBut S.extBut H;refine NJ$ Oi$ Vd f J L (by simp [a]) λm p=>?_;simp only[Option.isSome_none,N9,Pg];exact NN$ q m λb o d e=>p b o d (S.extBut b o d$ NM _ e)
end
section
variable {X:Cx}{pos:Pos}
inductive Mq(K:β)(n:Nat)(t:An)(v:V)(c:St)(H:Hp)(Q:St->Hp->Prop):Prop
 |mk(a b:_)(_:v= .ref a)(_:aH K H a b)(_:b.length=n)(_:t b c H Q)
noncomputable def ZU{E:tz dg}{k n:Nat}{t:An}(g:X.calm=μ)(h:GX X E t)
  (i:↥((assignEach E X.env).length=n)) (c:↥((assignEach E X.env).findIdx? (·.1)=θ)):PG X (.Tuple E k pos) (Mq X.K n t):=by
 intro P s f H v u Q I r d;let⟨a,x,j,l,m,d⟩:=d;subst j;cases r;let⟨q,R,p,A⟩:=I.list l;rw[assign_Tuple];erw[NJ$ Rk ?_];unfold unpack;rw[i,c];refine NJ$ Oi$ Cy (I.ok.hd g) p.isList (by simp [<- m,R.length]) λw y=>?_;let z:au X P f H { s with heap:=w }:=I.kept (t':=s.toks) λb o e=>y b o (N8$ NT e) e;exact h P _ f H x _ Q z (by simpa using R) d
inductive yC(K:β)(i j k:Nat)(D:bh)(f:St)(x:V)(b:Hp):Prop
 |mk(a c d e:_)(_:x= .ref a)(_:aC K b a [c,d,e])(_:D.nx (((f.set k (δ e)).set j (δ d)).set i (δ c)) b)
def Dy(K:β)(t:TE)(i j k:Nat):TS:=λD a H=>t a H (yC K i j k D a)
noncomputable def Bt{t e:dg}{T:TE}{x y z:ρ}{i j k:Nat}(n:X.calm=μ)(c:X.N.Nodup)(w:X.N[i]?=δ x)(A:X.N[j]?=δ y)(B:X.N[k]?=δ z)(L:uP X.env.scope x)(C:uP X.env.scope y)(E:uP X.env.scope z)(F:PE X e T)
  (G:X.fn x=μ∨X.env.scope.names.lookup x=δ .local:=by first |exact .inl Z |exact .inr Z) (J:X.fn y=μ∨X.env.scope.names.lookup y=δ .local:=by first |exact .inl Z |exact .inr Z) (M:X.fn z=μ∨X.env.scope.names.lookup z=δ .local:=by first |exact .inl Z |exact .inr Z)
  (O:↥(swapsWithSole [t] e pos.line X.env=pure ν)) (P:↥(swappedStores [t] e X.env=pure (δ [x,y,z]))):PS X (.Assign [t] e pos) (Dy X.K T i j k):=by
 intro p s f H D I h;rw[exec_Assign_arm];erw[NJ$ Rk ?_];rw[O];erw[NJ$ NN ?_];rw[N7 WL];erw[NJ$ aV (F p s f H _ I h) λv S d=>?_];let⟨xv,g,l,R,a,v1,v2,v3,Q,V,q⟩:=d;rw[P];erw[NJ$ NN ?_];subst Q;cases R;let⟨W,r,Y,hz⟩:=l.tuple V;cases r with
 |cons q1 r=>
  cases r with
  |cons q2 r=>
   cases r with
   |cons q3 r=>
    cases r
    rename_i u U m
    unfold assignStores;erw[NJ$ PU$ NJ$ wpAny_unpackItems_tuple (items:=(ε [u,U,m])) (I.ok.hd n) Y λh' hx=>?_];let I2:au X p f g { S with heap:=h' }:=l.kept (t':=S.toks) λb o e=>hx b o (N8$ NT e) e;erw[NJ ?_];show π _ _ (assignInOrder [λv=>bindName X.env z v,λv=>bindName X.env y v,λv=>bindName X.env x v] [m,U,u]) _ _ _;erw[NJ$ Oi$ UA$ zP I2 c B E q3 (λs2 I3=>?_) M];erw[NJ$ Oi$ UA$ zP I3 c A C q2 (λs3 I4=>?_) J];erw[NJ$ Oi$ UA$ zP I4 c w L q1 (λs4 I5=>?_) G];exact NN$ NN #[_,g,I5,q]
end
def AB(l b:η)(I i:Array ζ)(n N:Nat)(D:tT η)(S:Array (tT ζ))(e:¬(!I.isEmpty&&fz (I.size+i.size))=μ)(W:I.size<=τ)(a:I.size+i.size<=τ+1):
  Meets (dO.«list.extend» #[[.ref l,.ref b],[]]) (λ_ R s=>s.heap.get? l=δ { cls:=.type "list",dict:=θ,data:=.seq I n,slots:=(ε []) }/\s.heap.get? b=δ #[.type "tuple",D,.seq i N,S]/\R (.ok$ .ret γ) { s with heap:=s.heap.update l (ab λx=>x++i),toks:=s.toks }):=by
 erw[VU λp w A R s h=>?_];let⟨f,g,d,t,os⟩:=s;let⟨H,c,h⟩:=h;let F:=AutoSeq1.idx_int;let j:=AutoSeq1.sub_tuple_tuple;let k:=AutoSeq1.sub_list_list;let m:=AutoSeq1.sub_tuple_list;let o:=AutoSeq1.sub_list_tuple;let hz:(I++i).size<=τ+1:=by rwa[Ts]
 wp_walk using (Th H Z (hz:=W) (_hz':=hz)),Pp H,Pp c;exact#[_,Z,h]
section
variable {X:Cx}
inductive iU(K:β)(x:V)(a:tz V)(H:Hp)(Q:VK):Prop
 |mk(l b c d:_)(_:x= .ref l)(_:a=[.ref b])(_:H l=δ (.lst c))(_:aC K H b d)(_:c.length+d.length<=τ)(_:Q .non (af H l (.lst (c++d))))
def Zm:Hk X "list.extend" (iU X.K):=by
 intro p s A H x V v U Q I g j h;let⟨l,b,B,C,rfl,rfl,f,k,D,q⟩:=h;cases g;let⟨u,rfl,m⟩:=j.one;cases m;let⟨z,a,n,r,E,e⟩:=I.lstM f;let⟨i,R,P,F⟩:=I.tuple k;let o:=R.length;let d:a.toArray.size+i.toArray.size<=τ:=by rw[NR,NR];omega
 let c:¬(!a.toArray.isEmpty&&fz (a.toArray.size+i.toArray.size))=μ:=by rw[gE d,Tg];exact N5
 obtain⟨⟨G,O,J,S⟩,t,w,N,y⟩:=P;cases w;cases y;refine TF Vv #[_,e,Z] Vk (Va _ _) (AB l b a.toArray i.toArray n N O S c (by rw[NR];omega) WM) #[e,t,?_];refine#[.non,_,I.lset (its':=a++i) f e WN (r.append R) (by rw[NP];omega),Z,q]
end
section
variable {prog:ψ}{w:bF}{A:bU}{E:ζ->ι->Prop}{s:ι}
def JG{R:Result->ι->Prop}{P:Nat->ζ->Prop}{St:Nat->ι->Prop}
  (W:WalksS prog w A.in1 I N j G n P St) (S:η) (H:¬S∈N) (c:tz ρ) (O:c.length=n) (Q:∀i v,P i v->∃x t,c[i]?=δ x/\v= .str x t) (d:∀L:tz ρ,L.Nodup->(∀x∈L,x∈c)->L.length+1 < scanBound):
  ∀(k i:Nat) (s:ι) (L:tz ρ),n - i=k->i<=n->St i s->dj prog w s.heap S L->(∀x,x∈L↔x∈c.take i)->L.length<=i->
   (∀a l,Moved (S::j) G s a->dj prog w a.heap S l->(∀x,x∈l↔x∈c)->l.length<=n->R (.ok$ .ret .none) a)->
   kw (χ prog w) A (.builtin "set.update.loop" #[[.ref S,.ref I],[]]) R s:=by
 let f:¬S∈j:=λz=>H (W.sub _ z);let sub:∀b∈j,b∈S::j:=λb z=>On _ z;intro k;induction k with
 |zero=>
  intro i s L T U st p q F r;let e:i=n:=by omega
  subst e;erw[Pl Sj ?_];rw[OX P'];show π _ A.in1 (pyNext (.ref I) >>= _) _ _ s;erw[NJ$ W.done s _ _ st λa m=>?_];show π _ A.in1 (ret γ) _ _ a;erw[NN$ r a L (m.mono sub) (p.at λo e=>m.heap S o f e) (λx=>?_) F];rw[q x,<- O,OH]
 |succ k V=>
  intro i s L T U st p q F r;let J:i < n:=by omega
  erw[Pl Sj ?_];rw[OX P'];show π _ A.in1 (pyNext (.ref I) >>= _) _ _ s;erw[NJ$ W.item i s _ _ J st λv a X u m=>?_];let⟨x,t,B,rfl⟩:=Q i v X;show π _ A.in1 (lu [lq x t] (setAdd S$ .str x t) >>= _) _ _ a;erw[NJ$ Oi ?_];let h:L.Nodup:=by let⟨_,_,_,_,_,_,_,_,_,h,_⟩:=p;exact h
  erw[YA (p.at λo e=>m.heap S o f e) (d L h λx B=>OZ ((q x).mp B)) λb h' Y K S2 g=>?_];erw[NN #[P8 P' _,V (i+1) _ _ WM J (W.frame _ a _ _ u g λb d o e=>?_) S2 (λy=>?_) ?_ λC l M D q1 q2=>?_]]
  .rw[K.2 b (λz:b=S=>H (by rwa[<- z]))];exact e
  .let tk:c.take (i+1)=c.take i++[x]:=by rw[Rl,B];rfl
   rw[tk,PX,R8,<- q y];split
   .rename_i hm
    exact#[.inl,λz=>z.elim id λe=>e▸hm]
   .rw[PX,R8]
  .split
   .omega
   .rw[NP,Rg];omega
  .refine r C l (Moved.trans W.gtrans ((m.mono sub).then_heap g λb o d e=>?_) M) D q1 q2;rw[K.2 b (λz:b=S=>d (by rw[z];exact Oe))];exact e
set_option maxHeartbeats 3200000 in
def Kf{Q:ζ->ι->Prop}
  (hh:A.handled=θ) (hl:s.heap.IsList l I) (hi:StrsAre I.toList n) (C:∀L:tz ρ,L.Nodup->(∀x∈L,x∈n)->L.length+1 < scanBound)
  (h:∀(a:cJ) (t:Nat) L,dj prog w a s.heap.objs.size L->(∀x,x∈L↔x∈n)->L.length<=I.size->
   (∀b o,b < s.heap.objs.size->s.heap.get? b=δ o->a.get? b=δ o)->s.toks<=t->Q (.ref s.heap.objs.size) { s with heap:=a,toks:=t }):
  π (χ prog w) A (call (.type "set") [.ref l]) Q E s:=by
 let⟨c,tl,m1⟩:=PySem.F.called_set.mro;let m0:=PySem.F.called_set.made;let sb:=PySem.F.called_set.sub;erw[Uz$ Uq ?_];show π _ _ (callAny (.type "set") _) _ _ _;erw[NN #[Code.quiet_builtin _ WO,Pl PySem.F.entry_type_call ?_]];rw[Around.under_plain (weight_type_call_type "set" [.ref l] []) Z];let n1:=PySem.F.called_set.notType;let n2:=PySem.F.called_set.canCreate;let ct:=PySem.F.typeCall_set_1 (.ref l);repeat (any_goals (first |assumption |wp_step))
 refine Rx (Qy (.ref l) (E:=E) (G:=λv S=>v= .ref s.heap.objs.size/\S={ s with heap:=s.heap.push (bM w) }) #[Z,Z]) λr S D=>?_;cases r with
 |error e=>exact D
 |ok fl=>
  cases fl with
  |ret o2=>
   let⟨rfl,rfl⟩:=D;let J:(s.heap.push$ bM w).get? s.heap.objs.size=δ (bM w):=NV _ Z;let hT:Shared.TypeIs { s with heap:=s.heap.push (bM w) } (.ref s.heap.objs.size) "set":=#[_,J,Z];let li:=PySem.F.called_set.init.lookup;let bi:=PySem.F.called_set.init.bind (.ref s.heap.objs.size);repeat (any_goals (first |assumption |wp_step))
   refine Rx (codeAny_call_builtin (R:=wants (λr d=>r= .none/\∃a t L,d={ s with heap:=a,toks:=t }/\dj prog w a s.heap.objs.size L/\(∀x,x∈L↔x∈n)/\L.length<=I.size/\
     (∀b o,b < s.heap.objs.size->s.heap.get? b=δ o->a.get? b=δ o)/\s.toks<=t) E) PySem.F.called_set.init.plain PySem.F.entry_set_init (check_set_init_1 hT ?_)) λp d H=>?_
   .let⟨ol,q,u,nl,y⟩:=hl;let⟨o1,g,K,O⟩:=ol;simp only at u y;subst u;subst y;let f:(s.heap.push$ bM w).get? l=δ { cls:=.type "list",dict:=g,data:=.seq I nl,slots:=O }:=NM _ q;let ns:=PySem.F.sub_list_set;let nf:=PySem.F.sub_list_frozenset;let ne:(fr "list"==fr "dict")=ν:=by decide
    let j:(s.heap.push$ bM w).IsList l I:=#[_,f,Z,nl,Z];unfold bM at J hT f j ⊢;unfold dO.«set.__init__» noKeywords Builtin.Frozenset.updateFrom;generalize M:pyIter=PI;wp_walk;subst M;erw[SJ j ?_];erw[NJ$ Uw ?_];let z:l < s.heap.objs.size:=NT q;let h3:A.in1.in1.in1.handled=θ:=by simp [hh]
    let N:l≠(s.heap.push$ bM w).objs.size:=by rw[OL];exact N8$ P0 z
    let P:¬s.heap.objs.size∈[(s.heap.push$ bM w).objs.size,l]:=by rw[OL];simp only[P6,Ov,SX,not_or];exact#[N8$ Pb _,OS z]
    let B:n.length=I.size:=by rw[_L.StrsAre.len hi,Om]
    refine JG ((Walks.list h3 _ l N I).toS) s.heap.objs.size P n B (λi v hv=>StrsAre.at' hi i v (by rw[Po];exact hv)) C (I.size - 0) 0 _ [] WM (NY _)
     #[#[_,NV _ Z,Z,Z],j.push _] (YB$ NM _ J) (λx=>by simp) (NQ _) λs' L m T U V=>?_
    let⟨a,g',d',W,X⟩:=s';let eg:g'=s.gens:=m.gens;let ed:d'=s.drawn:=m.drawn;let eo:X=s.os:=m.os;subst eg;subst ed;subst eo;show π _ _ _ _ _ _;erw[NN ?_];show π _ _ (ret γ) _ _ _;erw[NN #[Z,a,W,L,Z,T,U,V,λb o C e=>?_,m.toks]];let b1:b≠s.heap.objs.size:=N8 C;let b2:b≠(s.heap.push$ bM w).objs.size:=by rw[OL];exact N8$ P0 C
    exact m.heap b o (by simp only[P6,Ov,SX,not_or];exact#[b1,b2])$ NM _$ NM _ e
   .cases p with
    |error e=>exact H
    |ok k=>
     cases k with
     |ret r=>
      let⟨rfl,a,t,L,rfl,T,U,V,Y,q3⟩:=H;repeat (any_goals (first |assumption |wp_step))
      exact h _ _ _ T U V Y q3
     |_=>exact H.elim
  |_=>exact D.elim
end
section
variable {X:Cx}
def Jc(m:X.calm=μ):dM X (.type "set") (λg H Q=>∃(p:η) (S:tz ρ),g=[.ref p]/\aH X.K H p (S.map rz)/\(∀L:tz ρ,L.Nodup->(∀x∈L,x∈S)->L.length+1 < scanBound)/\
  ∀l L,H l=θ->L.Nodup->(∀x,x∈L↔x∈S)->Q (.ref l) (af H l$ LM X.prog X.w l L)):=by
 intro P s B H g U Q I r h;let⟨p,S,rfl,n,t,q⟩:=h;let⟨u,rfl,R⟩:=eW r;cases R;let⟨i,v,y,C⟩:=I.list n;let j:=qv v;let D:i.length=S.length:=(_L.StrsAre.len j).symm;refine Kf (I.ok.hd m) y.isList (by simpa using j) t λc T L d z E k _=>?_;let a:L.Nodup:=by let⟨_,_,_,_,_,_,_,_,_,a,_⟩:=d;exact a
 let A:∀b o,s.heap.get? b=δ o->c.get? b=δ o:=λb o e=>k b o (NT e) e;obtain⟨o,f⟩:∃o,c.get? s.heap.objs.size=δ o:=let #[o,_,_,_,f,_]:=d;#[o,f]
 exact#[.ref s.heap.objs.size,_,I.laid A (NQ _) (show aP X.prog X.w _ c _ (LM X.prog X.w s.heap.objs.size L) from #[d,#[o,f],λF G x e=>dj.at x e]),Z,q _ _ (I.hok.fresh$ NQ _) a z]
end
section
variable {X:Cx}{CX:si}{k:Nat}{f C:η}{fd:fJ}{ps:tz ρ}{sp:Sp}{dvs:tz V}{ds:tz ζ}{E:XK}{x m:ρ}{p pos apos:Pos}{e:dg}{es:tz dg}{t:TA}
structure DI(K:β)(C:η)(m:ρ)(f:η):Prop where
 rd:PySem.W.readsIn K C (.type "type")=μ
 ga:specialIn K (.ref C) "__getattribute__"=δ (δ$ .builtin "type.__getattribute__")
 at_:PySem.W.findCls K (.ref C) (.type "type") m=δ (.val$ .ref f)
 kp:iu K (.ref f)=μ
noncomputable def Bp{pl:Sem Bool}(j:Gl X x)(l:X.mg x=↑C)(M:DI X.K C m f)(F:ah X.prog X.w X.K X.mg X.base CX k f fd ps sp)(n:bY k X.A)(q:aE X.K fd ps ds)(u:aD dvs ds)(v:dC CX X E)(y:PA X (e::es) t)
  (a:↥((x==("__debug__":ρ))=ν))
  (c:↥(Δ (e::es) X.env=(ν,eval e X.env)::Δ es X.env)) (d:↥((fy pos$ Δ es X.env).any (·.1)=ν))
  (z:↥(eval (.Call (.Attribute (.Name x p) m apos) (e::es) [] pos) X.env=(do
   let O <- eval (.Name x p) X.env
   standAt apos.atName
   let (f,first) <- lu [O] (getMethod O m pl)
   callWith pos f first (fy pos$ Δ (e::es) X.env) (backToKw pos$ keywordEach [] X.env)))):
  PE X (.Call (.Attribute (.Name x p) m apos) (e::es) [] pos) (eU sp dvs E t):=by
 intro P s g H Q I h;erw[Sw (pl:=pl) (zZ I j l ?_ a) z];erw[PySem.W.method_cls I.kIn M.ga$ PySem.W.cls_value I.kIn M.rd M.at_ Z ?_];let B:au X P g H { s with toks:=s.toks+1 }:=I.kept (h':=s.heap) λb o e=>e;erw[TH (h₀:=X.base) I.ok.mod.kin M.kp (aV (y pos P _ g H _ B h) λU S #[G,J,i,r,D]=>#[i.kIn,?_]) c d];exact Xe F n q u v i r D
end
abbrev gi(h:cJ)(z u v T:η)(f:Bool):Prop:=
 h.get? z=δ { cls:=.type "zip",dict:=θ,data:=.fields (ε [rawInt T,.bool f,.bool ν,.ref u,.ref v]),slots:=(ε []) }
section
variable {prog:ψ}{w:bF}{A:bU}{E:ζ->ι->Prop}{s:ι}
def uI{Q:tT ge->ι->Prop}(h:Q (s.heap.get? a) s):π M A (loadIfAlive a) Q E s:=λ_ _ _=>h
def HJ{Q:Bool->ι->Prop}(H:gi s.heap z u v T f)(a:∃o,s.heap.get? T=δ o)
  (q:∀h,gi h z u v T μ->ov z s.heap h->h.objs.size=s.heap.objs.size->Q ν { s with heap:=h }):π (χ prog w) A (bx$ .ref z) Q E s:=by
 unfold bx;erw[NJ$ Oo H Z (x:=rawInt T) Z ?_];show π _ _ (loadIfAlive ((T:Int).toNat) >>= _) _ _ s;erw[NJ$ uI ?_];let⟨o,c⟩:=a;rw[OM,c];simp only[UH,N9,Pg];erw[NJ$ Oo H Z (x:=.bool f) Z ?_];cases f with
 |true=>simp only[Pm,N9,Pg];exact NJ$ NN$ NN$ q s.heap H (λb o _ e=>e) Z
 |false=>rw[N0 WL];erw[NJ$ Ri H WN λh d S=>NN (q h d S.extBut S.1)]
def CC{Q:tT ζ->ι->Prop}(D:Ao z u v c d a b)
  (g:gi s.heap z u v T f) (p:∃o,s.heap.get? T=δ o) (q:IsPair s.heap u (.ref c) (.ref d)) (r:iw B s.heap c a k) (t:iw l s.heap d b k) (G:lH B s.heap a C) (F:lH l s.heap b Y) (I:C[k]?=δ x) (J:Y[k]?=δ y)
  (L:∀h,gi h z u v T μ->iw B h c a (k+1)->iw l h d b (k+1)->IsPair h s.heap.objs.size x y->h.objs.size=s.heap.objs.size+1->
   (∀e o,e≠z->e≠c->e≠d->s.heap.get? e=δ o->h.get? e=δ o)->Q (δ$ .ref s.heap.objs.size) { s with heap:=h }):π (χ prog w) A (pyNext$ .ref z) Q E s:=by
 let H:s.TypeIs (.ref z) "zip":=#[_,g,Z];unfold pyNext;refine NJ$ RG$ OA (name:=Str.ofString "__next__") H Pd$ Oy Pd H RE (show π _ _ (field (.ref z) 2 >>= _) _ _ _ from ?_)$ Ru _;refine NJ$ Oo g Z (x:=.bool ν) Z (show π _ _ (field (.ref z) 3 >>= _) _ _ _ from NJ$ Oo g Z (x:=.ref u) Z$ NJ$ OY q Z ?_);refine(show π _ _ (bx (.ref z) >>= _) _ _ _ from NJ$ HJ g p λO P i n=>?_);simp only[N9,Pg];erw[NJ ?_];simp only[UW,Ra,Sa];refine NJ$ NJ$ Oi (show π _ _ (Ω (.ref c) >>= _) _ _ _ from ?_);refine NJ$ qw (s:={ s with heap:=O }) (r.kp λo e=>i _ _ D.cz e) (G.kp λo e=>i _ _ D.az e) I λM R j=>NN (NN ?_);refine NJ$ NJ$ Oi (show π _ _ (Ω (.ref d) >>= _) _ _ _ from ?_);let K:∀e o,e≠z->e≠c->s.heap.get? e=δ o->M.get? e=δ o:=λe o n U w=>j.extBut _ _ U (i _ _ n w);refine NJ$ qw (s:={ s with heap:=M }) (t.kp λo e=>K _ _ D.dz D.cd.symm e) (F.kp λo e=>K _ _ D.bz D.bc e) J λm V S=>NN (NN$ NN ?_);show π _ _ (newTuple [x,y] >>= _) _ _ _;erw[NJ$ RT$ NN #[_,Z,NN ?_]];let N:m.objs.size=s.heap.objs.size:=by rwa[S.1,j.1]
 let W:gi m z u v T μ:=S.extBut _ _ D.dz.symm (j.extBut _ _ D.cz.symm P);show Q (δ$ .ref m.objs.size) _;rw[N];refine L _ (NM _ W) (R.kp λo e=>NM _ (S.extBut _ _ D.cd e)) (V.kp λo e=>NM _ e) (by rw[<- N];exact NV _ Z) (by rw[OL,N]) λe o X a2 a3 w=>NM _ (S.extBut _ _ a3$ K _ _ X a2 w)
def GK{b2:Bool}{ys:Array ζ}{Q:tT ζ->ι->Prop}(j:A.handled=θ)(D:Ao z u v c d a b)
  (H:gi s.heap z u v T f) (l:∃o,s.heap.get? T=δ o) (m:IsPair s.heap u (.ref c) (.ref d)) (p:iw B s.heap c a k) (G:lH B s.heap a q) (r:q[k]?=θ)
  (t:∀i,(∀e o,e≠z->e≠c->e≠d->s.heap.get? e=δ o->i.get? e=δ o)->Q θ { s with heap:=i }):π (χ prog w) A (pyNext$ .ref z) Q E s:=by
 let h:s.TypeIs (.ref z) "zip":=#[_,H,Z];unfold pyNext;refine NJ$ RG$ OA (name:=Str.ofString "__next__") h Pd$ Oy Pd h RE (show π _ _ (field (.ref z) 2 >>= _) _ _ _ from ?_)$ Ru _;refine NJ$ Oo H Z (x:=.bool ν) Z (show π _ _ (field (.ref z) 3 >>= _) _ _ _ from NJ$ Oo H Z (x:=.ref u) Z$ NJ$ OY m Z ?_);refine(show π _ _ (bx (.ref z) >>= _) _ _ _ from NJ$ HJ H l λM F g n=>?_);simp only[N9,Pg];erw[NJ ?_];simp only[UW,Ra,Sa];refine NJ$ NJ$ Oi (show π _ _ (Ω (.ref c) >>= _) _ _ _ from ?_);refine NJ$ Q3 (s:={ s with heap:=M }) (by simpa using j) (p.kp λo e=>g _ _ D.cz e) (G.kp λo e=>g _ _ D.az e) r λy e S C=>?_;exact NJ$ P9 (T:="StopIteration") (b:=μ) C Tn$ NN$ t y λe o n N I w=>S _ _ N (g _ _ n w)
end
def JW:typeLookup (.type "zip") "__getattr__"=pure θ:=by rw[Pk,OK];kernel_rfl
def YE:typeLookup (.type "zip") "keys"=pure θ:=by rw[Pk,OK];kernel_rfl
def XN:entryFor table "zip.__getattribute__"=δ dO.«object.__getattribute__»:=
 To (id':="object.__getattribute__") (by kernel_rfl) WO WO (by kernel_rfl)
def Qr(a:η)(x:Array ζ)(S:Array (tT ζ))(u:Tok):
  Meets (dO.«object.__getattribute__» #[[.ref a,.str "keys" u],[]]) (λA R s=>s.heap.get? a=δ { cls:=.type "zip",dict:=θ,data:=.fields x,slots:=S }/\raisesAttr (.ref a) "keys" A R s):=
 VU λp w A R s H=>by
  let⟨c,g,d,t,os⟩:=s;let⟨e,H⟩:=H;let f:(#[c,g,d,t,os]:ι).TypeIs (.ref a) "zip":=#[_,e,Z];let b:=YE;let h:(["__module__","__name__","__qualname__","__doc__","__annotations__"]:tz ρ).contains "keys"=ν:=by decide+kernel
  unfold dO.«object.__getattribute__»;repeat (any_goals (first |assumption |wp_step))
  try simp only[h,N9,Pg]
  repeat (any_goals (first |assumption |wp_step))
  exact wpAny_raiseAttrError H.1 H.2$ attrMsg_fits WO (by size_fits)
section
variable {prog:ψ}{w:bF}{A:bU}{E:ζ->ι->Prop}{s:ι}
def AT{Q:tT ζ->ι->Prop}(f:s.heap.get? a=δ { cls:=.type "zip",dict:=θ,data:=.fields x,slots:=j })(k:A.handled=θ)
  (h:∀c T,(∀b o,s.heap.get? b=δ o->c.get? b=δ o)->Q θ { s with heap:=c,toks:=T }):π (χ prog w) A (getAttr? (.ref a) "keys") Q E s:=by
 let⟨l,g,d,T,os⟩:=s;let i:∀t,(#[l,g,d,t,os]:ι).TypeIs (.ref a) "zip":=λ_=>#[_,f,Z];let m:=sub_AttributeError;let n:=ls.lookup;let p:=ls.bind (.ref a);let q:=JW;unfold getAttr? getAttrBy? getAttrBy;repeat (any_goals (first |assumption |exact i _ | ((with_reducible show π _ _ (call (Value.builtin "zip.__getattribute__") _ _) _ _ _);refine TF ls (i _) XN (PySem.F.args_zip_getattribute_2 _ _) (Qr a x j _) #[f,by simpa using k,λc t e H=>?_]) |wp_step))
 let⟨r,u,v⟩:=H.there;show π _ _ (getattributeRaised _ _ _ _ _ _ _) _ _ _;unfold getattributeRaised;repeat (any_goals (first |assumption |wp_step))
 exact h _ _ H.keeps
def DO(h:cJ)(z u v c d a b Dd:η)(x y:Array ζ)(i:Nat):Prop:=
 ((IsZip h z u v .none/\∃p q,IsPair h v p q)∨∃T f o,gi h z u v T f/\h.get? T=δ o/\T≠z/\T≠c/\T≠d/\T≠Dd)/\IsPair h u (.ref c) (.ref d)/\iw ν h c a i/\iw ν h d b i/\lH ν h a x/\lH ν h b y
def CG{Dd:η}{Q:tT ζ->ι->Prop}(D:Ao z u v c d a b)(l:Dd < s.heap.objs.size)(S:DO s.heap z u v c d a b Dd J Y k)(L:J[k]?=δ x)(M:Y[k]?=δ y)
  (N:∀h,DO h z u v c d a b Dd J Y (k+1)->IsPair h s.heap.objs.size x y->h.objs.size=s.heap.objs.size+1->(∀e o,e≠z->e≠v->e≠c->e≠d->s.heap.get? e=δ o->h.get? e=δ o)->Q (δ$ .ref s.heap.objs.size) { s with heap:=h }):π (χ prog w) A (pyNext$ .ref z) Q E s:=by
 let⟨H,g,j,m,G,i⟩:=S;let⟨oc,n,_⟩:=j.ob;let⟨od,r,_⟩:=m.ob;rcases H with ⟨H,p,q,U⟩ | ⟨T,f,o,H,O,t,P,R,V⟩
 .refine CD D H g U j m G i L M λh B v1 I C t F K=>N h #[.inr #[s.heap.objs.size,ν,_,B,t,OS$ NT H,OS$ NT n,OS$ NT r,OS l],K _ _ D.uz D.uv D.uc D.ud g,I,C,G.kp λo e=>K _ _ D.az D.av D.ac D.ad e,i.kp λo e=>K _ _ D.bz D.bv D.bc D.bd e] t F K
 .refine CC D H #[o,O] g j m G i L M λh B I C W F K=>N h #[.inr #[T,μ,o,B,K _ _ t P R O,t,P,R,V],K _ _ D.uz D.uc D.ud g,I,C,G.kp λo e=>K _ _ D.az D.ac D.ad e,i.kp λo e=>K _ _ D.bz D.bc D.bd e] W F λe o X n2 n3 n4 w=>K e o X n3 n4 w
def GQ{Dd:η}{Q:tT ζ->ι->Prop}(g:A.handled=θ)(D:Ao z u v c d a b)(n:DO s.heap z u v c d a b Dd x ys k)(i:x[k]?=θ)
  (j:∀H,(∀e o,e≠z->e≠v->e≠c->e≠d->s.heap.get? e=δ o->H.get? e=δ o)->Q θ { s with heap:=H }):π (χ prog w) A (pyNext$ .ref z) Q E s:=by
 let⟨h,l,m,B,G,C⟩:=n;rcases h with ⟨h,p,q,F⟩ | ⟨T,f,o,h,r,I,J,L,M⟩
 .exact GN (b2:=ν) (p:=p) (q:=q) (ys:=ys) g D h l m G i j
 .exact GK (b2:=ν) (ys:=ys) g D h #[o,r] l m G i λH K=>j H λe o N O t y w=>K e o N t y w
structure LY(D z u v c d a b:η):Prop where
 z:D≠z
 u:D≠u
 v:D≠v
 c:D≠c
 d:D≠d
 a:D≠a
 b:D≠b
def DO.keep{h j:cJ}{Dd:η}(F:LY Dd z u v c d a b)(k:∀e o,e≠Dd->h.get? e=δ o->j.get? e=δ o)(st:DO h z u v c d a b Dd x y i):DO j z u v c d a b Dd x y i:=by
 let⟨H,l,m,n,G,r⟩:=st;refine#[?_,k _ _ F.u.symm l,m.kp λo e=>k _ _ F.c.symm e,n.kp λo e=>k _ _ F.d.symm e,G.kp λo e=>k _ _ F.a.symm e,r.kp λo e=>k _ _ F.b.symm e];rcases H with ⟨H,p,q,B⟩ | ⟨T,f,o,H,g,C,D,I,t⟩
 .exact .inl #[k _ _ F.z.symm H,p,q,k _ _ F.v.symm B]
 .exact .inr #[T,f,o,k _ _ F.z.symm H,k _ _ t g,C,D,I,t]
def Qs{K:Type}[DecidableEq K]{knd:KeyKind prog w K}{R:Result->ι->Prop}{Dd:η}{x:Array ζ}(X:A.handled=θ)(D:Ao z u v c d a b)(F:LY Dd z u v c d a b)(m:tz (K×ζ))(Y:m.length=x.size)(h0:x.size<=τ)
  (hP:∀(i:Nat),i < x.size->∃f V k,x[i]?=δ f/\ys[i]?=δ V/\knd.is k f=μ/\m[i]?=δ (k,V)):
  ∀(j i:Nat) (s:ι) (n:Int),x.size - i=j->i<=x.size->DO s.heap z u v c d a b Dd x ys i->s.heap.DictOf knd Dd (merged []$ m.take i)->
   (∀h T,(∀e o,e≠Dd->e≠z->e≠v->e≠c->e≠d->s.heap.get? e=δ o->h.get? e=δ o)->h.DictOf knd Dd (merged [] m)->R (.ok$ .ret .none) { s with heap:=h,toks:=T })->
   kw (χ prog w) A (.builtin "dict.update.loop" #[[.ref Dd,.ref z,.int n 0,.none],[]]) R s:=by
 intro j;induction j with
 |zero=>
  intro i s n hj hi st q C;let e:i=x.size:=by omega
  subst e;erw[Pl J9 ?_];rw[OX qe];show π _ A.in1 (pyNext (.ref z) >>= _) _ _ s;refine NJ$ GQ (by simpa using X) D st WN λh g=>?_;show π _ A.in1 (Builtin.Dict.addKeywords Dd [] >>= λ_=>ret γ) _ _ { s with heap:=h };erw[NJ ?_];unfold Builtin.Dict.addKeywords;erw[NN$ NN$ C h s.toks (λe o _ N t y B w=>g e o N t y B w) ?_];rw[<- Y,OH]at q;let⟨o,es,ep,ho,r⟩:=q;exact#[o,es,ep,g _ _ F.z F.v F.c F.d ho,r]
 |succ j ih=>
  intro i s n hj hi st q C;let M:i < x.size:=by omega
  let⟨f,V,k,hx,hy,O,hm⟩:=hP i M;erw[Pl J9 ?_];rw[OX qe];show π _ A.in1 (pyNext (.ref z) >>= _) _ _ s;let⟨oD,G,I,H,rD⟩:=id q;let L:Dd < s.heap.objs.size:=NT H;erw[NJ$ CG D L st hx hy λl S P N g=>?_];let hb:Shared.TypeIs { s with heap:=l } (.ref s.heap.objs.size) "tuple":=#[_,P,Z];let J:l.DictOf knd Dd (merged []$ m.take i):=#[oD,G,I,g _ _ F.z F.v F.c F.d H,rD];dsimp only;erw[NJ$ Oi ?_];erw[NJ$ wpAny_tryCatch ?_];unfold Builtin.Dict.pairItems;erw[NJ$ PL hb ?_];rw[N0 WL];erw[NJ$ OY P Z$ NN ?_];show π _ A.in1 (lu [f,V]$ dictSet Dd f V) _ _ { s with heap:=l };unfold dictSet;erw[Oi$ Oi$ NJ$ knd.pyHash O ?_];let Q:(merged ([]:tz (K×ζ))$ m.take i).length<=i:=by let:=VZ ([]:tz (K×ζ)) (m.take i);rw[Oh]at this;simp only[TM]at this;omega
  refine wpAny_dictSetHashed_pairs (s:={ s with heap:=l,toks:=s.toks+1 }) O J (λh p sb=>?_) WM;rw[<- merged_take_succ [] m i (k,V) hm]at p;let U:∀e o,e≠Dd->l.get? e=δ o->h.get? e=δ o:=λe o ne w=>(sb.2 e ne).trans w;erw[NN #[P8 qe _,ih (i+1) _ (n+1) WM M (S.keep F U) p λh2 T k2 d2=>C h2 T (λe o W N t y B w=>k2 e o W N t y B (U _ _ W$ g e o N t y B w)) d2]]
def QE{K:Type}[DecidableEq K]{knd:KeyKind prog w K}{more:tz (K×ζ)}{Q:ζ->ι->Prop}(N:A.handled=θ)(D:Ao z u v c d a b)
  (j:IsZip s.heap z u v .none) (P:IsPair s.heap u (.ref c) (.ref d)) (m:∃p q,IsPair s.heap v p q) (U:iw ν s.heap c a 0) (V:iw ν s.heap d b 0) (W:lH ν s.heap a x) (X:lH ν s.heap b ys)
  (hn:more.length=x.size) (n:x.size<=τ) (hP:∀(i:Nat),i < x.size->∃Y vu k,x[i]?=δ Y/\ys[i]?=δ vu/\knd.is k Y=μ/\more[i]?=δ (k,vu))
  (h:∀l t,l.DictOf knd s.heap.objs.size (merged [] more)->(∀e o,e≠z->e≠v->e≠c->e≠d->s.heap.get? e=δ o->l.get? e=δ o)->Q (.ref s.heap.objs.size) { s with heap:=l,toks:=t }):
  π (χ prog w) A (call (.type "dict") [.ref z]) Q E s:=by
 refine WE (Q₁:=λO S=>O= .ref s.heap.objs.size/\S={ s with heap:=s.heap.push { cls:=.type "dict",data:=.dict (ε []) } }) PySem.F.kt_called_dict (PySem.F.kt_typeCall_dict_1 _) PySem.F.entry_dict_init (kt_code_dict_new _ #[Z,Z]) ?_;rintro O S ⟨rfl,rfl⟩;let f:(s.heap.push { cls:=.type "dict",data:=.dict (ε []) }).DictOf knd s.heap.objs.size []:=Uv s.heap;refine#[f.typeIs,PySem.F.args_dict_init_2 _ _,?_];unfold dO.«dict.__init__»;erw[NJ ?_];unfold Builtin.Dict.selfAndRest;erw[NJ$ wpAny_notOrdered_dict f.typeIs ?_];show π _ _ (pure (s.heap.objs.size,[Ξ z])) _ _ _;erw[NN ?_];show π _ _ (Builtin.Dict.updateFrom "dict.__init__" s.heap.objs.size (.ref z) [] .none) _ _ _;unfold Builtin.Dict.updateFrom;generalize hH:s.heap.push { cls:=.type "dict",data:=.dict (ε []) }=H at f ⊢;let G:∀b o,s.heap.get? b=δ o->H.get? b=δ o:=λb o e=>by rw[<- hH];exact NM _ e
 erw[NJ$ PL #[_,G _ _ j,Z] ?_];rw[N0 WL];refine NJ$ AT (s:={ s with heap:=H }) (G _ _ j) (by simpa using N) λM t k1=>?_;simp only[UJ,R4];erw[NJ$ PU ?_];let g:∀b o,s.heap.get? b=δ o->M.get? b=δ o:=λb o e=>k1 _ _ (G _ _ e);refine NJ$ wpAny_pyIter_zip (s:={ s with heap:=M,toks:=t }) (g _ _ j) ?_;let⟨oD,eD,y,B,rD⟩:=f;let⟨p,q,m⟩:=m;let⟨oc,C,_⟩:=U.ob;let⟨od,I,_⟩:=V.ob;let⟨oa,J,_⟩:=id W;let⟨ob,L,_⟩:=id X;let F:LY s.heap.objs.size z u v c d a b:=#[OS$ NT j,OS$ NT P,OS$ NT m,OS$ NT C,OS$ NT I,OS$ NT J,OS$ NT L];refine NN #[P8 qe _,Rx (Qs (knd:=knd) (A:=A.in1) (R:=λr s'=>r= .ok (.ret .none)/\Q (.ref s.heap.objs.size) s') (by simpa using N) D F more hn n hP x.size 0 { s with heap:=M,toks:=t } 0 Z (NY _)
  #[.inl #[g _ _ j,p,q,g _ _ m],g _ _ P,U.kp λo e=>g _ _ e,V.kp λo e=>g _ _ e,W.kp λo e=>g _ _ e,X.kp λo e=>g _ _ e] #[oD,eD,y,k1 _ _ B,rD] λl T k2 d2=>#[Z,?_]) λr s' q=>?_]
 .exact h l T d2 λe o n1 n2 n3 n4 w=>k2 e o (N8$ NT w) n1 n2 n3 n4 (g _ _ w)
 .let⟨rfl,q⟩:=q;exact#[Z,q]
end
section
variable {X:Cx}{e1 e2:dg}{ta:TA}{p p2 pos pos2:Pos}
inductive Lq(K:β)(Q:VK)(e:tz V)(c:Hp):Prop
 |mk(a b:η)(d:tz bV)(f:tz V)(_:e=[.ref a,.ref b])(_:aC K c a (d.map kV))(_:aC K c b f)(_:d.length=f.length)(_:∀l,c l=θ->Q (.ref l) (af c l (.dK (dE [] (d.zip f)))))
def Nx(K:β)(ta:TA):TE:=λa H Q=>ta a H (Lq K Q)
theorem ZV{P:ψ}{w:bF}:∀{K:tz bV} {U:tz ζ},aD (K.map kV) U->∀(i:Nat) (k:bV),K[i]?=δ k->∃u,U[i]?=δ u/\(aX P w).is k u=μ
 | [],_,_,i,k,h=>by simp at h
 |k0::K,_,.cons (b:=u) h t,0,k,e=>by
  let E:k0=k:=by simpa using e
  subst E;exact#[u,Z,Ky h]
 |k0::K,_,.cons h t,i+1,k,e=>by simpa using ZV (P:=P) (w:=w) t i k (by simpa using e)
theorem vY:∀{K:tz bV} {y:tz V} {u:tz ζ},aD y u->KV (K.zip y) (K.zip u)
 | [],_,_,_=>by simp only[List.zip_nil_left];exact .nil
 |_::_,_,_,.nil=>by simp only[List.zip_nil_right];exact .nil
 |k::K,_,_,.cons h t=>.cons #[Z,h] (vY t)
noncomputable def ZW(m:Gl X "dict")(n:X.mg "dict"=θ)(t:Gl X "zip")(v:X.mg "zip"=θ)(N:X.calm=μ)(O:PA X [e1,e2] ta)
  (T:↥(Δ [e1,e2] X.env=(ν,eval e1 X.env)::Δ [e2] X.env)) (U:↥((fy pos2$ Δ [e2] X.env).any (·.1)=ν))
  (f:↥(Δ [Expr.Call (.Name "zip" p2) [e1,e2] [] pos2] X.env=(ν,eval (.Call (.Name "zip" p2) [e1,e2] [] pos2) X.env)::Δ [] X.env)) (x:↥((fy pos$ Δ [] X.env).any (·.1)=ν)):
  PE X (.Call (.Name "dict" p) [.Call (.Name "zip" p2) [e1,e2] [] pos2] [] pos) (Nx X.K ta):=by
 intro P s V H Q I h;erw[OP$ zJ I m n WA ?_];erw[OF ?_ f x];rw[f];show π _ _ (spliced ((ν,eval _ X.env)::fy pos (Δ [] X.env))) _ _ s;erw[PH ?_];erw[OP$ zJ I t v Ww ?_];erw[OF (aV (O pos2 P s V H _ I h) λus S z=>?_) T U];let⟨vs,H1,d,W,Y⟩:=z;let⟨a,b,c,ys,e,gx,gy,hl,q⟩:=Y;subst e;cases W with
 |cons r rr=>
  cases rr with
  |cons r' y=>
   cases y;cases r;cases r';let⟨A,F,G,z1⟩:=d.tuple gx;let⟨j,R,C,z2⟩:=d.tuple gy;let l1:=F.length;let l2:=R.length;rw[NO]at l1 z1;let la:a < S.heap.objs.size:=by let⟨o,D,_⟩:=G;exact NT D
   let lb:b < S.heap.objs.size:=by let⟨o,D,_⟩:=C;exact NT D
   erw[GP (b1:=ν) (b2:=ν) (xs:=A.toArray) (ys:=j.toArray) G C λE J u' v' i1 i2 k=>?_];erw[Rh ?_];let Dz:=CF S.heap.objs.size a b la lb;refine QE (s:={ S with heap:=E }) (knd:=aX X.prog X.w) (more:=c.zip j) (d.ok.hd N) Dz J u' #[_,_,v'] i1 i2 (lH.kp (b:=ν) G λo e=>k _ _ e) (lH.kp (b:=ν) C λo e=>k _ _ e) (by rw[TK,NR];omega) (by rw[NR];omega) (λi hi=>?_) λh2 tk dd k2=>?_
   .rw[NR]at hi;let L:i < c.length:=by omega
    let M:i < j.length:=by omega
    let⟨u,hu,ku⟩:=ZV F i _ (NK L);refine#[u,j[i],c[i],by simpa using hu,by simp [M],ku,?_];rw[Ud];exact#[NK L,NK M]
   .let g:KV (dE []$ c.zip ys) (merged []$ c.zip j):=KV.merge (vY R) .nil;let zl:(dE []$ c.zip ys).length<=τ:=by rw[g.length];let:=VZ ([]:tz (bV×ζ)) (c.zip j);rw[TK]at this;simp only[TM]at this;omega
    let k3:∀e o,S.heap.get? e=δ o->h2.get? e=δ o:=λe o w=>by let l:=NT w;exact k2 e o (N8$ Oc l$ Rr _ _) (N8$ Oc l$ Rr _ _) (N8 l) (N8$ Oc l$ Rr _ _)$ k _ _ w
    let B:S.heap.objs.size<=E.objs.size:=P5 (Ph (Rr _ 4)$ NT J);exact#[.ref E.objs.size,_,d.laid k3 B$ Xf zl (beq_eq_false_iff_ne.mpr$ Ou$ N8$ Oc d.big B) g dd,Z,q _$ d.hok.fresh B]
end
section
variable {X:Cx}{st:cc}{ss:tz cc}{e:dg}{es:tz dg}
def Nw:TS:=λ_ _ _=>False
def xj:nF X ss Nw:=λ_ _ _ _ _ _ h=>False.elim h
end
end _L
namespace _L
open PySem PySem.Spec PyProof.Rows PySem.SeqAt
inductive IP(K:β)(x y:V)(H:Hp)(Q:VK):Prop
 |mk(a b d e:_)(_:x= .ref a)(_:y= .ref b)(_:aC K H a d)(_:aC K H b e)(_:(d.all du=μ/\e.all du=μ/\Q (.bl (vv d e)) H)∨∃(w:ρ) (c:η) (zs:tz V) (u:ρ) (i:Int),d=[.str w,.ref c]/\aC K H c zs/\e=[.str u,.int i]/\Q (.bl ν) H)
def Fs{X:Cx}(d:X.A.units+1 < cLine):fX X (compareOp .Eq) (IP X.K):=by
 intro p s m H x y v U Q I f g h;obtain⟨a,b,n,Y,rfl,rfl,k,l,h | ⟨w,c,M,u,i,rfl,o,rfl,q⟩⟩:=h
 .exact Fq (RN d) p s m H _ _ v U Q I f g #[a,b,n,Y,Z,Z,k,l,h]
 cases f;cases g;let⟨N,r,P,_⟩:=I.tuple k;let⟨O,R,t,_⟩:=I.tuple l;let⟨S,V,z,_⟩:=I.tuple o;cases r with
 |cons B r=>
  cases r with
  |cons C r=>
   cases r;cases R with
   |cons D R=>
    cases R with
    |cons E R=>
     cases R;let⟨T,rfl⟩:=B;cases C;let⟨F,rfl⟩:=D;let⟨G,rfl⟩:=E;refine eq_tupleAt (e:=λj=>if j=0 then w==u else ν) (show s.heap.IsTuple a _ from P) (show s.heap.IsTuple b _ from t) (RN d) (λj J L=>?_) ?_
     .match j,J,L with
      |0,_,_=>exact VW w T u F
      |1,_,_=>exact VG i G (show s.heap.IsTuple c _ from z) (by simpa [Around.in1,Around.units] using d)
     .let e:((dN$ min 2 2).all (λj=>if j=0 then w==u else ν)&&(2:Nat)==2)=ν:=by show((if 0=0 then w==u else ν)&&((if 1=0 then w==u else ν)&&μ)&&μ)=ν;simp
      exact#[.bl ν,H,I,O1 oS e,q]
end _L
namespace _L
open PySem PySem.Spec PyProof.Rows
def YF(l:η)(i:Array ζ)(n:Nat)(D:tT η)(S:Array (tT ζ)):
  Meets (dO.«enumerate.__new__» #[[.type "enumerate",.ref l],[]]) (λ_ R s=>s.heap.get? l=δ { cls:=.type "tuple",dict:=D,data:=.seq i n,slots:=S }/\
   R (.ok$ .ret$ .ref (s.heap.push { cls:=.type "tuple_iterator",data:=.fields (ε [.ref l,.int 0 0]) }).objs.size)
    { s with heap:=(s.heap.push { cls:=.type "tuple_iterator",data:=.fields (ε [.ref l,.int 0 0]) }).push { cls:=.type "enumerate",data:=.fields (ε [.none,.bool ν,.ref s.heap.objs.size,rawInt 0,.none,.none]) } }):=
 .of_wp λp w A R s h=>by
  let⟨e,g,d,t,os⟩:=s;let⟨H,h⟩:=h;let b:=sub_enumerate;let a:Heap.IsTuple (Shared.heap #[e,g,d,t,os]) l i:=#[_,H,Z,n,Z];wp_walk using Pp H;erw[wpAny_stack_any λst=>NN ?_];split
  .rename_i c _ _ _ _ _
   cases (c==fr "enumerate")
   .wp_walk using Pp H,RL a;exact#[_,Z,h]
   .wp_walk using Pp H,RL a;exact#[_,Z,h]
  .wp_walk using Pp H,RL a;exact#[_,Z,h]
section
variable {prog:ψ}{w:bF}{A:bU}{E:ζ->ι->Prop}{s:ι}
def Zn{Q:ζ->ι->Prop}(j:s.heap.IsTuple l i)
  (h:∀H,IsEnum H (s.heap.objs.size+1) s.heap.objs.size 0 .none->H.IsTupleIter s.heap.objs.size l 0->(∀b o,s.heap.get? b=δ o->H.get? b=δ o)->Q (.ref$ s.heap.objs.size+1) { s with heap:=H }):
  π (χ prog w) A (call (.type "enumerate") [.ref l]) Q E s:=by
 obtain⟨⟨c,d,D,S⟩,k,a,n,e⟩:=j;replace a:c= .type "tuple":=a;replace e:D= .seq i n:=e;subst a e;erw[U6 PySem.F.called_enumerate WL (PySem.F.typeCall_enumerate_1 _) (PySem.F.newCall_enumerate_1 _) (λO=>RZ O _) PySem.F.entry_enumerate_new (YF l i n d S) #[k,?_]];let f:(s.heap.push { cls:=.type "tuple_iterator",data:=.fields (ε [.ref l,.int 0 0]) }).objs.size=s.heap.objs.size+1:=OL ..;show _/\_;rw[f];let g:IsEnum ((s.heap.push { cls:=.type "tuple_iterator",data:=.fields (ε [.ref l,.int 0 0]) }).push { cls:=.type "enumerate",data:=.fields (ε [.none,.bool ν,.ref s.heap.objs.size,rawInt 0,.none,.none]) }) (s.heap.objs.size+1) s.heap.objs.size 0 .none:=by let:=NV (s.heap.push { cls:=.type "tuple_iterator",data:=.fields (ε [.ref l,.int 0 0]) }) (o:={ cls:=.type "enumerate",data:=.fields (ε [.none,.bool ν,.ref s.heap.objs.size,rawInt 0,.none,.none]) }) Z;rw[f]at this;exact this
 exact#[#[_,g,Z],h _ g #[_,NM _$ NV _ Z,Z,Z] λb o x=>NM _ (NM _ x)]
def yZ{c:Type}{Q:c->ι->Prop}(d:A.handled=θ)
  (h:∀H (e:η),(∀b o,s.heap.get? b=δ o->H.get? b=δ o)->Shared.TypeIs { s with heap:=H } (.ref e) "StopIteration"->E (.ref e) { s with heap:=H }):
  π (χ prog w) A (do raiseNew (<- newExc (.type "StopIteration") []):Sem c) Q E s:=by
 erw[NJ ?_];simp only[newExc,newTuple];refine NJ$ OB ?_ (by size_fits);erw[NJ (m:=firstArgMember _ _)$ SK (a:=γ) ?_ ?_]
 .first |rfl | (simp only[firstArgMember];rfl)
 refine OB ?_ (by size_fits);simp only[raiseNew];erw[NJ$ wpAny_handled ?_];rw[d];erw[NJ$ NN$ wpAny_throw$ h _ _ (λb o e=>NM _ (NM _ e)) ?_];exact#[_,NV _ Z,Z]
def Qg{J T:η}{i:Nat}{I:Array ζ}{Q:ζ->ι->Prop}(g:A.handled=θ)(H:s.heap.IsTupleIter J T i)(j:s.heap.IsTuple T I)(l:I[i]?=θ)
  (q:∀h (e:η),ov J s.heap h->Shared.TypeIs { s with heap:=h } (.ref e) "StopIteration"->E (.ref e) { s with heap:=h }):π (χ prog w) A (Ω$ .ref J) Q E s:=by
 let⟨o,a,p,c⟩:=id H;let⟨O,d,_,N,f⟩:=j;unfold Ω;refine NJ$ OA (name:=Str.ofString "__next__") H.typeIs O5$ Oy O5 H.typeIs Ry (show π _ _ (field (.ref J) 0 >>= _) _ _ s from ?_)$ Rs _;refine NJ$ Oo a c (x:=.ref T) Z (show π _ _ (if (Ξ T==γ)=μ then _ else _) _ _ s from ?_);rw[N7 (show ¬((Ξ T==γ)=μ) from N5)];refine(show π _ _ (field (.ref J) 1 >>= _) _ _ s from NJ$ Oo a c (x:=.int i 0) Z (show π _ _ (seqItems? (.ref T) >>= _) _ _ s from NJ$ OY d f ?_));simp only[OM,l];erw[NJ$ PU$ NJ$ ON a c WN ?_];refine yZ (by simpa using g) λh e k t=>q h e (λb o m n=>k b o ?_) t;exact(Of _ _$ Ou m).trans n
def sQ(m:A.handled=θ)(a l:η)(d:l≠a)(I:Array ζ):
  Draws prog w A a [a,l] I.size (λi v=>I[i]?=δ v) (λi h=>h.IsTupleIter a l i/\h.IsTuple l I) where
 live:=λ_ _ st=>let #[o,H,_]:=st.1;#[o,H]
 frame:=λ_ _ _ st g=>#[st.1.at λo e=>g a WN o e,let #[o,H,r]:=st.2;#[o,g l WN o H,r]]
 item:=λi s Q E j st n=>Qe st.1 st.2 (x:=I[i]) (by simp [j]) λf b c=>n _ f s.toks (by simp [j]) #[b,let #[o,H,r]:=st.2;#[o,c.extBut l o d H,r]] c
 done:=λs Q E st p=>Qg m st.1 st.2 WN λf e k t=>p f e k t
def Zo(c:A.handled=θ)(a l:η)(I:Array ζ)(i:Nat)(d:I[i]?=θ):
  Draws prog w A a [a,l] i (λ_ _=>True) (λj h=>j=i/\h.IsTupleIter a l i/\h.IsTuple l I) where
 live:=λ_ _ st=>let #[o,H,_]:=st.2.1;#[o,H]
 frame:=λ_ _ _ st b=>#[st.1,st.2.1.at λo e=>b a WN o e,let #[o,H,r]:=st.2.2;#[o,b l WN o H,r]]
 item:=λj s Q E f st n=>absurd st.1 (N8 f)
 done:=λs Q E st g=>Qg c st.2.1 st.2.2 d λm e k t=>g m e k t
end
noncomputable def DJ(K:β)(a:η):It:=
 #[λi H=>∃X x,aC K H a X/\X[i]?=δ x,λi H x h=>∃p v,x= .ref p/\H p=θ/\h=af H p (.tup [.int i,v])/\∀X,aC K H a X->X[i]?=δ v,λi H=>∃X,aC K H a X/\X.length<=i]
def Zp{P:ψ}{K:β}(a e g:η)(r:e≠g):oJ P w K (.Tuple e0 kx tp) (DJ K a) [e,g] e (λi h=>(∃O,IsEnum h e g i O)/\h.IsTupleIter g a i) where
 mem:=by simp
 obj:=λi h st b hb=>by
  obtain⟨⟨O,j⟩,⟨o,ei,c,d⟩⟩:=st;rcases Θ.mp hb with rfl |hb
  .exact#[_,j,λv z=>by cases (show Data.fields _=Data.cell v from z)]
  .let q:b=g:=by simpa using hb
   subst q;exact#[o,ei,λv z=>by rw[d]at z;cases z]
 keep:=λi h A st k=>#[let #[O,j]:=st.1;#[O,k e WN _ j],st.2.at λo q=>k g WN o q]
 item:=by
  intro X Q S T U i f s J H E I L st W;subst Q S T;obtain⟨⟨O,j⟩,l⟩:=st;let⟨xs,x,M,N⟩:=W;let⟨m,R,p,hz⟩:=I.tuple M;let⟨u,hu,ru⟩:=R.get N;let Y:e < s.heap.objs.size:=NT j;let l0:g < s.heap.objs.size:=by let⟨_,q,_⟩:=l;exact NT q
  let h0:a≠g:=λz=>by rw[z]at p;let⟨o1,e1,c1,_⟩:=l;let⟨o2,B,c2,_⟩:=p;rw[e1]at B;cases B;exact absurd (c1.symm.trans c2) WL
  let h1:e∉[g,a]:=λz=>by
   rcases Θ.mp z with z |z
   .exact r z
   .rw[υ.mp z]at j;let⟨o2,B,c2,_⟩:=p;unfold IsEnum at j;rw[j]at B;cases B;exact absurd (show fr "enumerate"=fr "tuple" from c2) WL
  refine wpAny_pyNext_enum_itemD (sQ (by simpa using I.ok.hd U) g a h0 m.toArray) j #[l,p] (by let:=R.length;let:=(ξ.mp N).1;simp;omega) r h1 λx' A t C ho y hT h4 hk=>#[_,Z,?_];let D:=y.1;let ex:u=x':=by
   let h2:m.toArray[i]?=δ u:=by simpa using hu
   rw[h2]at C;exact OG C
  subst ex;let hn:H s.heap.objs.size=θ:=I.hok.fresh (NQ _);let I1:au X f J H { s with heap:=A,toks:=t+1 }:=I.turnedN L λb o hb q=>hk b o (λz=>hb (by simp [z])) (λz=>hb (by simp [z])) q;let r2:aD [sn i,x] [ic i t,u]:=.cons #[_,Z] (.cons ru .nil);let I2:au X f J (af H s.heap.objs.size$ .tup [.int i,x]) { s with heap:=A,toks:=t+1 }:=
   I1.track (I.fpOk (NQ _) hn) I.sz #[by show 2<=τ;decide,_,r2,_,hT,Z,_,Z]
  let F:∀b∈[e,g],gw X f (af H s.heap.objs.size$ .tup [.int i,x]) b:=λb hb=>by
   let⟨f0,f1⟩:=L b hb;refine#[?_,f1];rw[jh]
   .exact f0
   .rcases Θ.mp hb with rfl |hb
    .exact N8 Y
    .let q:b=g:=by simpa using hb
     subst q;exact N8 l0
  refine wpAny_letOwnedTupleGo_enum (s:={ s with heap:=A,toks:=t+1 }) ho λG h3 n=>?_;replace n:fx e A G:=n;let I3:au X f J (af H s.heap.objs.size$ .tup [.int i,x]) { s with heap:=G,toks:=t+1 }:=I2.turnedN F λb o hb q=>(n.2 b λz=>hb (by simp [z])).trans q;refine#[.ref s.heap.objs.size,_,I3,Z,#[_,x,Z,hn,Z,λys hy=>by rw[I.tuple_inj hy M];exact N],#[#[u,by simpa using h3],D.at λo q=>(n.2 g r.symm).trans q],λb hb=>(F b hb).1]
 done:=by intro X Q S T U i f s J H E I L st W;subst Q S T;obtain⟨⟨O,j⟩,l⟩:=st;let⟨xs,M,N⟩:=W;let⟨m,R,p,hz⟩:=I.tuple M;let hl:=R.length;refine wpAny_pyNext_enum_endD (Zo (by simpa using I.ok.hd U) g a m.toArray i (by simp;omega)) j #[Z,l,p] λA eb=>#[Z,?_];exact I.turnedN (t':=s.toks) L λb o hb q=>eb b o (λz=>hb (by simp [z])) q
 self:=λ_ _ _ _ _ st h=>by obtain⟨⟨O,j⟩,_⟩:=st;exact VP j h
section
variable {X:Cx}{elts:tz dg}{kx:Nat}{tp:Pos}
inductive pM(K:β)(R:It->Hp->Prop)(c:tz V)(b:Hp):Prop
 |mk(a:_)(_:c=[.ref a])(_:∃xs,aC K b a xs)(_:R (DJ K a) b)
def Eg(K:β)(t:TA):TI:=λa H R=>t a H (pM K R)
noncomputable def Jr(g:Gl X "enumerate")(j:X.mg "enumerate"=θ)(k:PA X [a] t)(m:↥(Δ [a] X.env=[(ν,eval a X.env)])):PI X (.Tuple elts kx tp) (.Call (.Name "enumerate" p) [a] [] c) (Eg X.K t):=by
 intro P s n H R I h;erw[Call_$ zJ I g j Wz$ OF (aV (k c P s n H _ I h) λU S z=>?_) m Z];let⟨V,o,i,u,Q⟩:=z;obtain⟨l,e,⟨A,v⟩,q⟩:=Q;subst e;cases u with
 |cons r w=>
  cases w;cases r;let⟨x,B,p,C⟩:=i.tuple v;erw[Zn p λD f d y=>?_];erw[VP f ?_];refine#[S.heap.objs.size+1,[S.heap.objs.size+1,S.heap.objs.size],_,_,o,Z,i.kept (t':=S.toks) y,Zp l _ _$ OS$ Pb _,#[#[_,f],d],λb hb=>?_,q];rcases Θ.mp hb with rfl |hb
  .exact i.fpOk (OR _)$ i.hok.fresh$ OR _
  .let e:b=S.heap.objs.size:=by simpa using hb
   subst e;exact i.fpOk (NQ _)$ i.hok.fresh$ NQ _
end
def qx{K:β}{xs:tz V}{g:TG}{t:TS}{D:bh}(Pv:Nat->St->Hp->Prop)(j:Pv 0 b H)(k:∀i b H,i<=xs.length->Pv i b H->aC K H a xs)
  (l:∀E:bh,E.rt=D.rt->∀i x p b H,xs[i]?=δ x->H p=θ->(∀c e,Pv (i+1) c e->E.nx c e)->∀G:Prop,((g (.ref p) b (af H p$ .tup [.int i,x]) λf n=>t E f n)->G)->Pv i b H->G) (o:∀b H,Pv xs.length b H->D.nx b H):sj (DJ K a) g t D b H:=by
 refine#[λi m b H=>m=xs.length - i/\i<=xs.length/\Pv i b H,#[xs.length,WN,NY _,j],?_];rintro i m b H ⟨rfl,s,p⟩;let q:=k i b H s p;by_cases d:i < xs.length
 .refine .inr #[#[xs,xs[i],q,NK d],Pv$ i+1,λc e P=>#[xs.length - (i+1),WM,Z,d,P],λx e y=>?_];let⟨r,v,rfl,u,rfl,w⟩:=y;exact l { D with nx:=Pv (i+1),ct:=Pv (i+1),bk:=D.nx } Z i v r b H (w xs q) u (λ_ _ h=>h) _ (λz=>z) p
 .exact .inl #[#[xs,q,WM],o _ _ (by rwa[show xs.length=i by omega])]
abbrev Np(K:β)(i j:Nat):TG:=sV K 2 (dP (bp i)$ dP (bp j) vK)
def Iq{t:St}(h:t.length=2):∃a b,t=[a,b]:=by
 cases t with
 |nil=>cases h
 |cons a r=>
  cases r with
  |nil=>cases h
  |cons b R=>
   cases R with
   |nil=>exact#[a,b,Z]
   |cons _ _=>cases h
def YG{K:β}{X:tz V}{t:TE}{n:tz V->Hp->Prop}(f:Nat->V)(u:X.length<=τ)(b:aH K H a X)
  (p:∀(i:Nat) (x:V),X[i]?=δ x->∃q y z,x= .ref q/\aC K H q [y,z]/\∀Q:VK,Q (f i) H->t (δ y::δ z::c) H Q) (r:n ((dN X.length).map f) H):
  dY (y9 K a) 2 c (Np K 0 1) nB t n H:=by
 refine#[λi m o d=>m=X.length - i/\i<=X.length/\o=(dN i).map f/\d=H,#[X.length,WN,NY _,WN,Z],?_];rintro i m o d ⟨rfl,w,rfl,rfl⟩;by_cases h:i < X.length
 .refine .inr #[#[X,X[i],b,NK h],?_,λY g=>Y=(dN$ i+1).map f/\g=d,λY g #[P,s]=>#[X.length - (i+1),WM,Z,h,P,s],λv g T j y=>?_]
  .rw[NO,Si];omega
  let⟨e,y⟩:=y;subst e;let⟨q,A,B,rfl,k,l⟩:=p i v (y X b);let⟨C,D,rfl⟩:=Iq j;refine#[q,_,Z,k,Z,_,_,Z,_,_,Z,Z,#[[δ _,δ _],Z,Z],l _ #[?_,Z]];rw[List.range_succ,Ol];rfl
 .let e:i=X.length:=by omega
  subst e;exact .inl #[#[X,b,NQ _],r]
def DE(K:β)(A:η)(t:Me)(b:TS):TS:=λD a H=>t D (λx C d _ h=>mroIn K C (.ref A)=δ μ/\∀T,h T=θ->b D a (af (af h T$ g9 T) x$ iE C d T x)) a H
section
variable {X:Cx}{st a₀ b₀:cc}{as bs:tz cc}{tb:Me}{ta tc:TS}{ca cb:ρ}{np np' hp hp' pos:Pos}{A B:η}
noncomputable def Bu(a:X.stack=X.env::X.outer)(J:X.env.frame=δ X.env.locals)(hb:M' X st tb)(hg:Gl X ca)(hm:X.mg ca=↑A)(hA:clsIn X.K A≠θ)(tA:typeIn X.K (.ref A)=δ (.type "type"))(mA:mroIn X.K A (.type "BaseException")=δ μ)
  (hs:∀e,nF (X.mark e λ_ _=>False) (a₀::as) ta) (L:↥((ca==("__debug__":ρ))=ν)):
  PS X (.Try [st] [.ExceptHandler (δ$ .Name ca np) θ (a₀::as) hp] [] [] pos) (DE X.K A tb ta):=by
 intro p s M H D I h;erw[wpAny_Try_except$ T8$ O2 (hb p s M H D _ I h) (λf b q=>?_) λe b q=>?_]
 .cases f with
  |next=>exact RI (RI q)
  |ret v |brk |cont=>exact q
 let⟨x,C,d,T,N,rfl,l,Y,hT,m,q⟩:=q;obtain⟨⟨ox,vs,h1,h2,h3,h4,O,h6⟩,_⟩:=l.hok x _ Y;obtain⟨⟨oT,G,t1,t2,t3⟩,_⟩:=l.hok T _ hT;let o:=(bm.mp h6).1;let P:X.A.frames=δ (X.env::X.outer):=by rw[<- a];exact l.ok.frames
 let R:b.heap.FunFrames X.base (X.env::X.outer):=by rw[<- a];exact l.stack
 erw[QZ (base:=X.base) P R J h1 O h6 m t1 t2 t3 λg2 Nd=>?_];let u:(ff T b.heap).get? x=δ ox:=(Of _ _ m).trans h1;refine Eo (s:={ b with heap:=g2 }) Nd u O o λg3 U=>?_;let⟨t,hn,E,i⟩:=(l.cleared hT t1 t2 t3).noted (C:=C) (d:=d) (t':=b.toks) Y u h2 h4 O o (by unfold lO;rw[a];exact U);let i:au X p M (af (af N t$ g9 t) x$ iE C d t x) { b with heap:=g3 }:=i;obtain⟨⟨o1,v0,k1,k2,k3,k4,k5,k6⟩,_⟩:=i.hok x _ jc;let F:af (af N t$ g9 t) x (iE C d t x) t=δ (g9 t):=by rw[jh E,jc]
 obtain⟨⟨o2,t0,u1,u2,u3⟩,_⟩:=i.hok t _ F;let g:∀{E':ζ->ι->Prop} {c:cc} {V:tz cc} {G:TS} {hp:Pos},(∀e,nF (X.mark e λ_ _=>False) (c::V) G)->G D M (af (af N t$ g9 t) x$ iE C d t x)->kw (χ X.prog X.w) (X.A.mark$ ↑x) (Code.handlers (.ref x) [.ExceptHandler θ θ (c::V) hp] X.env) (λr S=>match r with | .ok f=>SP X p D f S | .error y=>cameBackBy (χ X.prog X.w) X.A X.env E' y S) { b with heap:=g3 }:=by
  intro E' c V G hp hz qz;erw[codeAny_handlers_suite ?_];unfold setFlight;erw[NJ$ Oo k1 k5 k6 ?_];rw[N0 (show(Ξ t != γ)=μ from by simp)];erw[ON u1 u2 (bm.mp u3).1 ?_];let I4:=i.cleared F u1 u2 u3;erw[O2 (hz (.ref x) p _ _ _ D (I4.mark (.ref x) λ_ _=>False) qz) (λf s6 Q=>?_) λ_ _ z=>z.elim];cases f with
  |next |brk |cont=>let⟨j,W,k,n⟩:=Q;exact#[_,_,k.unmark I.ok,n]
  |ret v=>let⟨y,j,W,k,rv,n⟩:=Q;exact#[y,_,_,k.unmark I.ok,rv,n]
 let⟨mC,q⟩:=q;refine wpAny_handleBy_cons (codeAny_handlers_test ?_) (by intro z;cases z);erw[zZ (i.mark (.ref x) λ_ _=>False) hg hm ?_ L];erw[Qw i.kIn k1 k2 hA tA mA mC _ _ _ _ (λ_ _ e=>e) ?_];exact g hs$ q t hn
end
section
variable {X:Cx}
def AQ:Hk X "dict.pop" (λx b H Q=>∃(a:η) (K:tz (bV×V)) (k:bV) (v:V),x= .ref a/\b=[kV k]/\H a=δ (.dK K)/\cq K k=δ v/\Q v (af H a$ .dK$ lN K k)):=by intro p s g H x b v U Q I r R h;let⟨a,K,k,c,rfl,rfl,e,l,q⟩:=h;let⟨u,rfl,d⟩:=aD.one R;cases r;exact HR I e d l (.inl Z) λw S i f=>#[c,_,i,f,q]
end
end _L
namespace _L
open PySem PySem.Spec PyProof.Rows PySem.SeqAt PySem.W
noncomputable def mh:tz Int->tz Int->Bool
 | [],[]=>ν
 | [],_::_=>μ
 |_::_,[]=>ν
 |a::p,b::q=>if a=b then mh p q else decide (a < b)
theorem X9:∀{p q:tz Int},mh p q=μ->mh q p=ν
 | [],[],h=>by cases h
 | [],_::_,_=>rfl
 |_::_,[],h=>by cases h
 |a::p,b::q,h=>by
  let h:(if a=b then mh p q else decide (a < b))=μ:=h;show(if b=a then mh q p else decide (b < a))=ν;by_cases e:a=b
  .rw[N0 e]at h;rw[N0 e.symm];exact X9 h
  .rw[N7 e]at h;rw[N7$ Ou e];let:=OQ h;exact NW WM
section
variable {prog:ψ}{w:bF}{A:bU}{E:ζ->ι->Prop}{s:ι}{Q:Bool->ι->Prop}
def ue(f:Bool)(h:Q (decide$ a < b) s):π (χ prog w) A (oneLt' f (.int a t)$ .int b u) Q E s:=by
 cases f with
 |true=>exact oneLt_int h
 |false=>exact kat_one _ _ (lt_int h)
theorem Ya:∀{p q:tz Int} {U v:tz ζ},aD (p.map sn) U->aD (q.map sn) v->∀i,f=decide (p.length < q.length)->Q (mh p q) s->KatLex prog w A b f Q (U.zip v) i s
 | [],[],_,_,.nil,.nil | [],_::_,_,_,.nil,.cons _ _ |_::_,[],_,_,.cons _ _,.nil=>λ_ e h=>by subst e;exact h
 |x::p,y::q,_,_,.cons #[t,c] r,.cons #[u,d] R=>λi e h=>by
  subst c;subst d;let h:Q (if x=y then mh p q else decide (x < y)) s:=h;erw[kat_cons$ VX x t y u prog w _ _ ?_];by_cases H:x=y
  .rw[N0 H]at h;rw[beq_iff_eq.mpr H];erw[kat_yes$ Ya r R (i+1) ?_ h];rw[e];show decide (p.length+1 < q.length+1)=_;by_cases a:p.length < q.length
   .rw[N4 a,N4 WM]
   .rw[NW a,NW WM]
  .rw[N7 H]at h;rw[beq_eq_false_iff_ne.mpr H];exact kat_no$ ue _ h
def CQ(h:cJ)(v:ζ)(p:tz Int):Prop:=∃a o u n,v= .ref a/\h.get? a=δ o/\o.cls= .type "tuple"/\o.data= .seq u n/\aD (p.map sn) u.toList
def Lu(c:CQ s.heap x p)(d:CQ s.heap y q)(h:Q (mh p q) s):π (χ prog w) A (keyLt' (tuples' b) x y) Q E s:=by let⟨a,o,U,n,rfl,e,_,f,H⟩:=c;let⟨i,O,u,N,rfl,K,_,g,k⟩:=d;erw[kat_lt e f K g$ Ya H k 0 ?_ h];let l:=H.length;let L:=k.length;rw[NO]at l L;rw[<- Om,<- Om,<- l,<- L]
def eX(l:Nat->Nat->Bool)(n:Nat){b:Type}(R:b->Prop):KasT b->Prop
 | .ret a=>R a
 | .ask i j k=>i < n/\j < n/\eX l n R (k (l i j))
theorem eX.bind{b c:Type}{R:b->Prop}{S:c->Prop}{f:b->KasT c}(H:∀a,R a->eX l n S (f a)):∀{t:KasT b},eX l n R t->eX l n S (t.bind f)
 | .ret _,h=>H _ h
 | .ask _ _ _,z=>by let⟨d,e,g⟩:=z;exact #[d,e,eX.bind H g]
theorem eX.wp{l:Nat->Nat->Bool}{n:Nat}{b:Type}{R:b->Prop}{c:Nat->Nat->(Bool->ι->Prop)->ι->Prop}(H:∀i j (C:Bool->ι->Prop),i < n->j < n->C (l i j) s->c i j C s){G:b->ι->Prop}(d:∀a,R a->G a s):∀{t:KasT b},eX l n R t->t.kasWp c G s
 | .ret _,h=>d _ h
 | .ask i j _,z=>by let⟨e,f,g⟩:=z;exact H i j _ e f (eX.wp H d g)
theorem ZX:∀{vs:tz ζ} {ps:tz (tz Int)},vs.length=ps.length->(∀(i:Nat) (v:ζ) (p:tz Int),vs[i]?=δ v->ps[i]?=δ p->CQ h v p/\p≠[])->∃F:tz ζ,F.length=vs.length/\(∀f∈F,∃i t,f= .int i t)/\KatTups h vs F
 | [],[],_,_=>#[[],Z,λ_ z=>(nomatch z),trivial]
 | [],_::_,e,_ |_::_,[],e,_=>by cases e
 |v::vs,p::ps,e,k=>by
  let⟨F,g,j,l⟩:=ZX (vs:=vs) (ps:=ps) (by simpa using e) λi v p b c=>k (i+1) v p (by simpa using b) (by simpa using c);obtain⟨⟨a,o,U,n,rfl,b,c,m,H⟩,q⟩:=k 0 v p Z Z;cases p with
  |nil=>exact absurd Z q
  |cons i p=>
   cases d:U.toList with
   |nil=>rw[d]at H;cases H
   |cons u r=>
    rw[d]at H;cases H with
    |cons R y=>
     let⟨t,rfl⟩:=(show ∃t,u=ic i t from R);let x:U[0]?=δ (ic i t):=by rw[<- Po,d];rfl
     exact#[ic i t::F,by simp [g],λf hf=>by
      rcases Θ.mp hf with rfl |hf
      .exact#[_,_,Z]
      .exact j f hf,KatTups.cons b c m x l]
def Zq{V:tz ζ}{d:tz (tz Int)}{P:Fin->ι->Prop}(u:s.heap.get? a=δ (seqObj "list" V.toArray n))(I:V.length=d.length)(N:2<=V.length)(y:V.length < 64)
  (O:∀(i:Nat) (v:ζ) (p:tz Int),V[i]?=δ v->d[i]?=δ p->CQ s.heap v p/\p≠[]/\v≠ .ref a) {R:Array Nat->Prop} (U:eX (λi j=>mh (d.getD i []) (d.getD j [])) d.length R (kas_sort d.length))
  (h:∀p,R p->P (.done$ .ret .none) { s with heap:=sortedHeap s.heap a V (p.toList.map λi=>V.getD i γ).toArray }):
  π (χ prog w) A (dO.«list.sort» #[[.ref a],[]]) P E s:=by
 rw[Uo];let la:a < s.heap.objs.size:=NT u;erw[NJ$ U2 u Z ?_];erw[NJ$ R3 u Z ?_];obtain⟨g,J⟩:∃g,(s.heap.update a$ ab λ_=>(ε [])).get? a=δ (seqObj "list" (ε []) g):=#[_,Up u (λ_=>(ε []))];erw[NJ$ SM J Z ?_];refine NJ$ RT ?_ (by show V.length<=_;rw[Rb];omega);erw[NJ$ RF ?_];erw[Oi ?_];let K:(((s.heap.update a$ ab λ_=>(ε [])).push$ seqObj "tuple" V.toArray 0).push$ seqObj "list" (ε []) 0).get? a=δ (seqObj "list" (ε []) g):=NM _ (NM _ J);let k:∀c v,c≠a->s.heap.get? c=δ v->(((s.heap.update a$ ab λ_=>(ε [])).push$ seqObj "tuple" V.toArray 0).push$ seqObj "list" (ε []) 0).get? c=δ v:=λc v W e=>
  NM _ (NM _ (by rwa[UR _ _ _ _ W]))
 show π (χ prog w) A _ P E { s with heap:=((s.heap.update a$ ab λ_=>(ε [])).push$ seqObj "tuple" V.toArray 0).push (seqObj "list" (ε []) 0) };dsimp only;let H:∀(i:Nat) (v:ζ) (p:tz Int),V[i]?=δ v->d[i]?=δ p->CQ (((s.heap.update a$ ab λ_=>(ε [])).push$ seqObj "tuple" V.toArray 0).push$ seqObj "list" (ε []) 0) v p/\p≠[]:=λi v p B x=>by obtain⟨⟨b,o,X,m,rfl,Y,b2,b3,b4⟩,l,D⟩:=O i v p B x;exact#[#[b,o,X,m,Z,k _ _ (λz=>D (by rw[z])) Y,b2,b3,b4],l]
 let⟨fs,f1,f2,f3⟩:=ZX I H;let q:¬V.toArray.size < 2:=by rw[NR];omega
 rw[N7 q,N7 q];erw[NJ$ kat_kind (T:=.type "int") f3 WM (λf hf=>?_) WL ?_]
 .let⟨i,t,rfl⟩:=f2 f hf;exact VB Z
 refine NJ (O2 (kat_run (Q:=λS r=>r={ s with heap:=((s.heap.update a$ ab λ_=>(ε [])).push$ seqObj "tuple" V.toArray 0).push (seqObj "list" (ε []) 0) }/\∃p,R p/\(arrOf S).map (·.2)=(p.toList.map λi=>V.getD i γ).toArray/\failedOf S=θ/\(arrOf S).size=V.length)
  (G:=λp r=>r={ s with heap:=((s.heap.update a$ ab λ_=>(ε [])).push$ seqObj "tuple" V.toArray 0).push (seqObj "list" (ε []) 0) }/\R p) Z N y (λp S r B x a3 L=>#[L.1,p,L.2,?_,a3,?_]) (eX.wp (n:=d.length) (R:=R) (λi j C F hj hC=>?_) (λp l=>#[Z,l]) (by rw[I];exact U))) ?_ λ_ _ e=>e)
 .rw[kat_snds Z x]
 .rw[x,Vw,B]
 .let M:∀i,i < d.length->CQ (((s.heap.update a$ ab λ_=>(ε [])).push$ seqObj "tuple" V.toArray 0).push$ seqObj "list" (ε []) 0) (V.getD i γ) (d.getD i []):=λi F=>by
   let g:V[i]?=δ (V.getD i γ):=by rw[OT,NK (by omega:i < V.length)];rfl
   let e2:d[i]?=δ (d.getD i []):=by rw[OT,NK F];rfl
   exact(H i _ _ g e2).1
  exact Lu (M i F) (M j hj) hC
 rintro ⟨⟨⟩,S⟩ r ⟨rfl,p,l,q1,q2,q3⟩;dsimp only;erw[NJ$ SM K Z ?_];refine NJ$ R3 K Z ?_ (hsz2:=by rw[Vw,q3,Rb];omega);rw[q2];simp only[Pm,N9,Pg];erw[NN ?_];rw[q1];exact h p l
theorem ZY{l:Nat->Nat->Bool}{p:Array Nat}(H:∀i,i < n->p.getD i 0=i)(h:∀i,i+1 < n->l (i+1) i=ν):∀f m,1<=m->m+f=n->eX l n (λr=>r=n) (kas_asc p f m)
 |0,m,_,e=>by show m=n;omega
 |f+1,m,d,e=>by let a:=H m WM;let b:=H (m - 1) WM;let c:=h (m - 1) WM;rw[show m - 1+1=m by omega]at c;refine#[by rw[a];omega,by rw[b];omega,?_];rw[a,b,c];exact ZY H h f (m+1) WM WM
def yv{l:Nat->Nat->Bool}(b:2<=n)(h:∀i,i+1 < n->l (i+1) i=ν):eX l n (λp=>p=ε (dN n)) (kas_sort n):=by
 refine eX.bind (R:=λr=>r=(n,ε$ dN n)) (λr H=>?_)$ eX.bind (R:=λr=>r=n) (λr H=>?_)$ ZY (p:=ε (dN n)) (λi a=>by simp [Array.getD,a]) h (n - 1) 1 (NQ 1) WM
 .subst H;show eX l n _ (if n < n then _ else _);rw[N7$ OV n];rfl
 .subst H;show eX l r _ (if (r==r)=μ then _ else _);rw[N0$ Sc r];rfl
end
section
variable {prog:ψ}{w:bF}{A:bU}{E:ζ->ι->Prop}{s:ι}
def Zr{P:Fin->ι->Prop}(H:s.heap.get? a=δ (seqObj "list" ([]:tz ζ).toArray n))
  (h:P (.done$ .ret .none) { s with heap:=sortedHeap s.heap a ([]:tz ζ) (ε []) }):π (χ prog w) A (dO.«list.sort» #[[.ref a],[]]) P E s:=by
 rw[Uo];erw[NJ$ U2 H Z ?_];erw[NJ$ R3 H Z ?_];obtain⟨e,b⟩:∃e,(s.heap.update a$ ab λ_=>(ε [])).get? a=δ (seqObj "list" (ε []) e):=#[_,Up H (λ_=>(ε []))];erw[NJ$ SM b Z ?_];erw[NJ$ RT ?_];erw[NJ$ RF ?_];erw[Oi ?_];let g:(((s.heap.update a$ ab λ_=>(ε [])).push$ seqObj "tuple" ([]:tz ζ).toArray 0).push$ seqObj "list" (ε []) 0).get? a=δ (seqObj "list" (ε []) e):=NM _ (NM _ b);show π (χ prog w) A _ P E { s with heap:=((s.heap.update a$ ab λ_=>(ε [])).push$ seqObj "tuple" ([]:tz ζ).toArray 0).push (seqObj "list" (ε []) 0) };dsimp only;let S:([]:tz ζ).toArray.size < 2:=by show 0 < 2;decide
 rw[N0 S,N0 S];erw[NJ$ NN ?_];rw[U7];erw[NJ$ NN ?_];dsimp only;erw[NJ$ SM g Z ?_];let c:(arrOf$ SortSt.mk' general' (([]:tz ζ).toArray.zip ([]:tz ζ).toArray) (ε []) 7 θ).map (·.2)=(ε []):=by show(([]:tz ζ).toArray.zip ([]:tz ζ).toArray).map (·.2)=(ε []);simp
 rw[c];refine NJ$ R3 g Z ?_ (hsz2:=by show 0<=τ+1;omega);simp only[Pm,N9,Pg];exact NN h
def Ci{vs:tz ζ}{ps:tz (tz Int)}{Q:ζ->ι->Prop}(q:s.heap.IsList l vs.toArray)(H:vs.length=ps.length)(r:2<=vs.length)(b:vs.length < 64)
  (t:∀(i:Nat) (v:ζ) (p:tz Int),vs[i]?=δ v->ps[i]?=δ p->CQ s.heap v p/\p≠[]) {R:Array Nat->Prop} (u:eX (λi j=>mh (ps.getD i []) (ps.getD j [])) ps.length R (kas_sort ps.length))
  (h:∀p,R p->Q (.ref$ s.heap.objs.size+1) { s with heap:=sortedAll s.heap vs (p.toList.map λi=>vs.getD i γ).toArray }):π (χ prog w) A (call (.builtin "sorted") [.ref l]) Q E s:=by
 erw[Ro Uf TU TW (TX _) ?_];unfold dO.«sorted»;erw[NJ (m:=checkCount "sorted" 1 1 _)$ NN ?_];refine NJ$ U4 q ?_ (by rw[Rb];omega);refine NJ$ RF ?_ (by rw[Rb];omega);let f:((s.heap.push$ seqObj "list" (ε []) 0).update s.heap.objs.size$ ab (·++vs.toArray)).objs.size=s.heap.objs.size+1:=by rw[TC,UB]
 let g:(((s.heap.push$ seqObj "list" (ε []) 0).update s.heap.objs.size$ ab (·++vs.toArray)).push$ seqObj "list" vs.toArray 0).get? (s.heap.objs.size+1)=δ (seqObj "list" vs.toArray 0):=by rw[<- f];exact NV _ Z
 let k:∀c v,s.heap.get? c=δ v->(((s.heap.push$ seqObj "list" (ε []) 0).update s.heap.objs.size$ ab (·++vs.toArray)).push$ seqObj "list" vs.toArray 0).get? c=δ v:=λc v e=>
  NM _ (by rw[UR _ _ _ _$ N8$ NT e];exact NM _ e)
 show π _ _ _ _ _ { s with heap:=((s.heap.push$ seqObj "list" (ε []) 0).update s.heap.objs.size$ ab (·++vs.toArray)).push (seqObj "list" vs.toArray 0) };rw[f];erw[NJ$ Oi$ Oy Tl #[_,g,Z] Ti (Zq g H r b (λi v p x y=>?_) u λp d=>#[_,Z,?_]) (Tq _)]
 .obtain⟨⟨a,o,U,n,rfl,B,C,D,F⟩,d⟩:=t i v p x y;exact#[#[a,o,U,n,Z,k _ _ B,C,D,F],d,λz=>by injection z with z;exact absurd z$ N8$ P0$ NT B]
 .exact NN #[_,Z,h p d]
def Cd{Q:ζ->ι->Prop}(H:s.heap.IsList l ([]:tz ζ).toArray)
  (h:Q (.ref$ s.heap.objs.size+1) { s with heap:=sortedAll s.heap [] (ε []) }):π (χ prog w) A (call (.builtin "sorted") [.ref l]) Q E s:=by
 erw[Ro Uf TU TW (TX _) ?_];unfold dO.«sorted»;erw[NJ (m:=checkCount "sorted" 1 1 _)$ NN ?_];erw[NJ$ U4 H ?_];erw[NJ$ RF ?_];let z:((s.heap.push$ seqObj "list" (ε []) 0).update s.heap.objs.size$ ab (·++([]:tz ζ).toArray)).objs.size=s.heap.objs.size+1:=by rw[TC,UB]
 let g:(((s.heap.push$ seqObj "list" (ε []) 0).update s.heap.objs.size$ ab (·++([]:tz ζ).toArray)).push$ seqObj "list" ([]:tz ζ).toArray 0).get? (s.heap.objs.size+1)=δ (seqObj "list" ([]:tz ζ).toArray 0):=by rw[<- z];exact NV _ Z
 show π _ _ _ _ _ { s with heap:=((s.heap.push$ seqObj "list" (ε []) 0).update s.heap.objs.size$ ab (·++([]:tz ζ).toArray)).push (seqObj "list" ([]:tz ζ).toArray 0) };rw[z];erw[NJ$ Oi$ Oy Tl #[_,g,Z] Ti (Zr g #[_,Z,?_]) (Tq _)];exact NN #[_,Z,h]
end
section
variable {X:Cx}
def GF(I:au X b f H s){p:tz Int}(h:H a=δ (.tup$ p.map sn)):CQ s.heap (.ref a) p:=by let⟨i,r,P,_⟩:=I.tuple (aC.of (K:=X.K) h);let⟨o,c,d,n,e⟩:=P;exact#[a,o,i.toArray,n,Z,c,d,e,r]
inductive xu(K:β)(d:tz V)(H:Hp)(Q:VK):Prop
 |mk(l:η)(c:tz V)(b:tz (tz Int))(_:d=[.ref l])(_:aH K H l c)(_:c.length=b.length)(_:c.length < 64)(_:∀(i:Nat) (v:V) (p:tz Int),c[i]?=δ v->b[i]?=δ p->(∃a,v= .ref a/\H a=δ (.tup (p.map sn)))/\p≠[])(_:∀(i:Nat) (p q:tz Int),b[i]?=δ p->b[i+1]?=δ q->mh p q=μ)(_:∀r,H r=θ->Q (.ref r) (af H r (.lst c)))
def XO:dM X (.builtin "sorted") (xu X.K):=by
 intro g s x H T U Q I r h;let⟨l,vs,ps,rfl,y,n,z,B,C,k⟩:=h;let⟨u,rfl,D⟩:=eW r;cases D;let⟨b,d,P,_⟩:=I.list y;let L:=d.length;let f:∀(o:Array ζ),o=b.toArray->EP X g x Q (.ref$ s.heap.objs.size+1) { s with heap:=sortedAll s.heap b o }:=λo E=>by subst E;let⟨c,F⟩:=sortedAll_at s.heap b b.toArray;exact#[.ref$ s.heap.objs.size+1,_,I.laid (t':=s.toks) (λ_ _ e=>sortedAll_old e) (OR _) (show aP X.prog X.w _ _ _ (.lst vs) from #[by rw[Rb];omega,b,c,d,F]),Z,k _$ I.hok.fresh$ OR _]
 match b,d,P,L,f with
 | [],d,P,L,f=>exact Cd (by simpa using P.isList) (f _ Z)
 | [v],d,P,L,f=>exact Ce (by simpa using P.isList) (f _ Z)
 |v1::V::R,d,P,L,f=>
  let W:(v1::V::R).length=R.length+2:=rfl;erw[Ci (vs:=v1::V::R) (ps:=ps) P.isList WM WM WM (λi v p A G=>?_) (yv WM λi j=>?_) λp m=>f _ ?_]
  .let j:i < vs.length:=by let:=(ξ.mp A).1;omega
   obtain⟨⟨a,J,M⟩,m⟩:=B i _ p (NK j) G;let⟨Y,q,t⟩:=d.get (NK j);rw[A]at q;cases q;rw[J]at t;cases t;exact#[GF I M,m]
  .let N:ps[i]?=δ (ps.getD i []):=by rw[OT,NK (by omega:i < ps.length)];rfl
   let O:ps[i+1]?=δ (ps.getD (i+1) []):=by rw[OT,NK j];rfl
   exact X9$ C i _ _ N O
  .subst m;congr 1;refine Ss (by simp;omega) λi h1 S=>?_;simp [NK S]
end
end _L
namespace _L
open PySem PySem.Spec PyProof.Rows
def bY.m(r:bY k A)(h:j<=k:=by omega):bY j A:=r.mono h
def bN{N P:tz ρ}{s:hY}(a:↥(s.kind=.function))(b:↥(s.isCoroutine=ν))(c:↥(s.isGenerator=ν))(d:autoParam N.Nodup WO._auto_1)(e:↥(N.take P.length=P))(f:autoParam (∀x∈P,s.names.lookup x=δ .local ∨ s.names.lookup x=δ .cell) WO._auto_1)(g:autoParam (∀y∈s.names,y.2≠.free) WO._auto_1):aj N P s:=#[a,b,c,d,e,f,g]
def oM{N:tz ρ}{s t:hY}{M:tz ρ}{i:tz Nat}(a:autoParam (∀y∈t.names,y.2≠.cell) WO._auto_1)(b:↥(t.kind=.function))(c:autoParam (∀y∈t.names,y.2=.local->t.names.lookup y.1=δ .local) WO._auto_1)(d:autoParam (∀y∈t.names,y.2=.free->s.names.lookup y.1=δ .cell) WO._auto_1)(e:autoParam (M.drop n=i.map (λi=>N.getD i Str.empty)) WO._auto_1)(f:↥(M.length=n+i.length))(g:autoParam (∀j∈i,t.names.lookup (N.getD j Str.empty)=δ .free) WO._auto_1):ba N s t M n i:=#[a,b,c,d,e,f,g]
end _L
local macro_rules|`(tactic|obtain $p:rcasesPat:=$t)=>`(tactic|(refine _L.aR λG k=>?_;rcases $t:term with $p:rcasesPat<;>(refine k ?_;clear k)))
local macro_rules|`(⇑$n)=>do{let i:=Lean.mkIdent;`(_L.ah $(i `P) $(i `w) $(i `K) $(i `mg) $(i `base) _L.aF $n)}
namespace _K
open PySem PySem.Spec PyProof.Rows _L
noncomputable abbrev z0z:tz ρ:=["_law_box_here","_law_wide"]
noncomputable abbrev z1z:tz ρ:=["term"]
noncomputable abbrev z2z:tz ρ:=["_law_box_here"]
noncomputable abbrev z3z:tz ρ:=["statement","behind"]
noncomputable abbrev z4z:tz ρ:=["self","old_path","old","new_path","new"]
noncomputable abbrev z5z:tz ρ:=["statement"]
noncomputable abbrev z6z:tz ρ:=["_law_box_here","_law_names_here","_law_heads","_law_spare","_law_deep"]
noncomputable abbrev z7z:tz ρ:=["path","what"]
noncomputable abbrev z8z:tz ρ:=["self","statement","behind"]
noncomputable abbrev z9z:tz ρ:=["term","held"]
noncomputable abbrev z10z:tz ρ:=["_law_box_here","_law_names_here","_law_deep"]
noncomputable abbrev z11z:tz ρ:=["self","body","behind"]
noncomputable abbrev z12z:tz ρ:=["part","n","held"]
noncomputable abbrev z13z:tz ρ:=["self","part","args","deep"]
noncomputable abbrev z14z:tz ρ:=["_law_chain","_law_at"]
noncomputable abbrev z15z:tz ρ:=["body","behind"]
noncomputable abbrev z16z:tz ρ:=["_law_box_here","_law_a","_law_b"]
noncomputable abbrev z17z:tz ρ:=["_law_old","_law_new","_law_old_at","_law_new_at","_law_found_here"]
noncomputable abbrev z18z:tz ρ:=["name","params","body"]
noncomputable abbrev z19z:tz ρ:=["_law_box_here","_law_f","_law_inner_here","_law_w"]
noncomputable abbrev z20z:tz ρ:=["self","deed","deep"]
noncomputable abbrev z21z:tz ρ:=["self","path","chain","begin","end"]
noncomputable abbrev z22z:tz ρ:=["_law_old","_law_new"]
noncomputable abbrev z23z:tz ρ:=["self","statement","place","behind"]
noncomputable abbrev z24z:tz ρ:=["sign","left","right"]
noncomputable abbrev z25z:tz ρ:=["self","cells","most"]
noncomputable abbrev z26z:tz ρ:=["self","parts","cells","most"]
noncomputable abbrev z27z:tz ρ:=["_law_box_here","_law_total"]
noncomputable abbrev z28z:tz ρ:=["_law_box_here","_law_names_here"]
noncomputable abbrev z29z:tz ρ:=["parts","f","args","cells","most"]
noncomputable abbrev z30z:tz ρ:=["_law_j","_law_old","_law_step"]
noncomputable abbrev z31z:tz ρ:=["_law_box_here","_law_total","_law_letters","_law_wide","_law_spot_here","_law_signs","_law_first","_law_form","_law_found_here","_law_k","_law_one","_law_word","_law_some","_law_odd"]
noncomputable abbrev z32z:tz ρ:=["_law_k","_law_box_here","_law_letters"]
noncomputable abbrev z33z:tz ρ:=["_law_j","_law_box_here","_law_letters"]
noncomputable abbrev z34z:tz ρ:=["num","var","op","go","ask","back","chain","sets","iff","ends","calls","reads","gives"]
noncomputable abbrev z35z:tz ρ:=["_law_one","_law_box_here","_law_names_here"]
noncomputable abbrev z36z:tz ρ:=["_law_box_here","_law_total","_law_room"]
noncomputable abbrev z37z:tz ρ:=["_law_box_here","_law_f","_law_g","_law_w"]
noncomputable abbrev z38z:tz ρ:=["_law_parts","_law_f","_law_args","_law_cells_here"]
noncomputable abbrev z39z:tz ρ:=["_law_old","_law_new","_law_old_at","_law_new_at","_law_found_here","_law_mark","_law_k","_law_step","_law_path","_law_j","_law_some","_law_lenders","_law_calls","_law_pair","_law_both"]
noncomputable abbrev z40z:tz ρ:=["_law_box_here","_law_names_here","_law_heads","_law_spare","_law_deep","_law_kind","_law_x","_law_f","_law_params","_law_body_here"]
noncomputable abbrev z41z:tz ρ:=["_law_box_here","_law_f","_law_inner_here","_law_w","_law_n","_law_i","_law_s","_law_x","_law_y","_law_body_here","_law_spot_here","_law_start","_law_loop"]
noncomputable abbrev z42z:tz ρ:=["_law_box_here","_law_f","_law_inner_here","_law_w","_law_n","_law_i","_law_s","_law_x","_law_y","_law_spot_here","_law_body_here","_law_kept","_law_some","_law_start","_law_loop"]
noncomputable abbrev z43z:tz ρ:=["_law_box_here","_law_program","_law_total","_law_f","_law_params","_law_body_here"]
variable {P:ψ}{w:bF}{K:β}{mg:ρ->tT ζ}{base:cJ}
noncomputable def bQ(i:Nat):cc:=PySem.Challenge.pw_againbook_k36_distance.main.body.getD i (.Pass #[0,0,0,0])
noncomputable abbrev FT:cc:=bQ 59
noncomputable abbrev xU:cc:=bQ 60
noncomputable abbrev iW:cc:=bQ 62
def aG(p:η)(H h:Hp):Prop:=∀b o,b≠p->H b=δ o->h b=δ o
def aG.refl:aG p H H:=λ_ _ _ h=>h
def aG.trans(a:aG p H d)(b:aG p d e):aG p H e:=λc o n h=>b c o n (a c o n h)
def aG.of_eq{H a:Hp}(h:∀b,b≠p->a b=H b):aG p H a:=λb o n e=>by rwa[h b n]
def aG.upd_new{o:HO}(a:aG p H h)(n:h r=θ):aG p H (af h r o):=λb u N e=>by let q:=a b u N e;rwa[jh$ jk q n]
def aG.upd_own(a:aG p H h)(n:H r=θ):aG p H (af h r o):=λb u N e=>by rw[jh$ jk e n];exact a b u N e
structure ax(H:Hp)(p:η):Prop where
 ob:∃a b:Int,0<=a/\1<=b/\b<=2147483646/\H p=δ (.lst [.int a,.int b])
def ax.eq{c:Hp}(B:ax H p)(e:c p=H p):ax c p:=by let⟨a,b,d,f,g,h⟩:=B.ob;exact#[a,b,d,f,g,by rwa[e]]
def ax.upd_new{o:HO}(B:ax H p)(n:H r=θ):ax (af H r o) p:=by let⟨a,b,c,d,e,h⟩:=B.ob;exact B.eq (by rw[jh$ jk h n])
def ax.ne(B:ax H p)(n:H r=θ):r≠p:=by let⟨a,b,c,d,e,h⟩:=B.ob;exact Ou$ jk h n
inductive a7(c:tz V)(H:Hp)(Q:VK)(a:XK):Prop
 |mk(p:η)(w:Int)(_:c=[.ref p,.int w])(_:ax H p)(_:0 < w)(_:w<=1000000000000000000)(_:∀(d:Int) (H':Hp),0<=d->d < w->ax H' p->(∀b,b≠p->H' b=H b)->Q (.int d) H')
inductive rM(K:β)(e:tz V)(H:Hp)(Q:VK)(c:XK):Prop
 |mk(a:η)(d:tz Int)(k:Int)(_:e=[.ref a,.int k])(_:aH K H a (d.map sn))(_:0<=k)(_:k < 1000)(_:∀(r:η) (H':Hp),H r=θ->ax H' r->(∀b,b≠r->H' b=H b)->Q (.ref r) H')
def se:(10:Int) ^ (18:Int).toNat=1000000000000000000:=by decide
def vV{ns:tz Int}{k:Int}(H:0<=k)(a:k < (ns.length:Int)):∃v:Int,eM (ns.map sn) k=δ (.int v):=by
 let h:k.toNat < ns.length:=by omega
 let e:k=((k.toNat:Nat):Int):=by omega
 let q:eM (ns.map sn) ((k.toNat:Nat):Int)=δ (.int ns[k.toNat]):=jK (by rw[Od,NK h];rfl);rw[<- e]at q;exact#[_,q]
structure Cl(P:ψ)(w:bF)(K:β)(mg:ρ->tT ζ)(base:cJ)(L:Nat)(f:η)(fd:fJ)(ps:tz ρ)(sp:Sp)(py:ρ):Prop where
 g:⇑L f fd ps sp
 b:aE K fd ps []
 k:iu K (.ref f)=μ
 m:mg py=↑f
def Cl.e{X:Cx}{e:dg}(c:Cl X.prog X.w X.K X.mg X.base L f o q s a)(i:bY L X.A)(j:PA X (e::E) t)(l:↥(Gl X a))(h:↥((a==("__debug__":ρ))=ν))(n:↥(Δ (e::E) X.env=(ν,eval e X.env)::Δ E X.env))(H:↥((fy d$ Δ E X.env).any (·.1)=ν)):PE X (.Call (.Name a p) (e::E) [] d) (eU s [] E0 t):=kW c.g i l c.m c.k c.b .nil bg j h n H
def jy{X:Cx}(h:PE X a t):PE X (.Subscript a (.Constant (.int i) j p) b) (eV (cR X.K) t$ tC$ .int i):=jr jL h jf λ_ _=>Z
def jA{X:Cx}{p:Pos}(i:Nat)(h:X.N.Nodup)(H:PE X e t)(b:↥(X.N[i]?=δ x))(c:uP X.env.scope x:=by exact ω Z)(d:↥(swapsWith e (δ$ .Name x a) p.line X.env=pure ν))(f:autoParam (X.fn x=μ∨X.env.scope.names.lookup x=δ .local) Wx._auto_1):PS X (.Assign [.Name x a] e p) (dJ t$ bp i):=zc h b c H d f
def ju{K:β}{H:Hp}{Q:VK}(h:H p=δ (.tup x))(a:eM x n=δ v)(q:Q v H)(e:↥(b[i]?=δ (↑p))):eV (cR K) (a9 i) (tC$ .int n) b H Q:=#[_,e,p,x,n,v,Z,Z,aC.of h,a,q]
def kh{X:Cx}(h:PE X a t):PT X (.Compare a [.Eq] [.Constant (.str x) j p] b) (l7$ eV IM t$ tC$ .str x):=jD qh h jm Z
def zk{X:Cx}(h:PE X a t):PT X (.Compare a [.Eq] [.Constant (.int x) j p] b) (l7$ eV IM t$ tC$ .int x):=jD qh h jf Z
def iZ:aj ["_law_box_here","_law_wide","_law_digit","_law_one","_law_mixed"] z0z (ae xU):=bN
def Bh(F:ti K "_law_take" xU f x):⇑1 f x z0z a7:=by
 erw[F.ok iZ λC A o s H V Q E z h=>?_]
 let⟨p,W,rfl,B,d,g,q⟩:=h;let⟨a,b,l,i,j,e⟩:=B.ob;refine#[_,jd (jz (jD JX (jr jv (pv 0) jf (λ_ _=>Z)) jf$ aI _)
   (jd (jA 2 iZ.nd$ jx zn (jr jv (pv 0) jf (λ_ _=>Z))$ pv 1)
   (jd (zA (jx KW (jr jv (pv 0) jf (λ_ _=>Z))$ pv 1)$ qY (pv 0) jf zQ)
   (jg$ jo$ pv 2))) jp)
  (jd (jA 3 iZ.nd$ jx zn (jx zK (jr jv (pv 0) jf (λ_ _=>Z)) jf) jf)
  (jd (zA (jx jW (jx zn (jx jW (jx zK (pv 3) jf) jf) jf) jf)$ qY (pv 0) jf zQ)
  (jd (jA 4 iZ.nd$ jx KW (jx jW (jx zK (pv 3) jf)$ jr jv (pv 0) jf (λ_ _=>Z)) jf)
  (jd (jz (jD JX (pv 1) (jx JI jf jf)$ aI _) (jg$ jA 4 iZ.nd$ jx zK (pv 4)$ pv 4) jp)
  (jg$ jo$ jx zn (pv 4)$ pv 1))))),?_]
 refine#[_,Z,p,_,_,_,Z,Z,aH.of e,Z,_,_,Z,Z,_,Z,?_];erw[cg (λc=>?_) (λc=>?_)]
 .let D:(0:Int) < a:=OQ c;refine#[_,Z,p,_,_,_,Z,Z,aH.of e,Z,_,Z,_,_,Z,Z,d,?_];refine#[_,Z,p,_,_,_,Z,Z,aH.of e,Z,_,Z,_,_,Z,Z,#[d,g],_,Z,p,_,_,0,Z,Z,e,Z,_,Z,?_];refine q (a % W) _ (O3 _ WM) (OJ _ d) #[a / W,b,VE l WM,i,j,jc] λb n=>jh n
 .let I:0<=b*69621 % 2147483647:=O3 _ WL;let J:b*69621 % 2147483647 < 2147483647:=OJ _ WL;refine#[_,Z,p,_,_,_,Z,Z,aH.of e,Z,_,_,Z,Z,.inr #[WL,WL],_,_,Z,Z,(by show(0:Int) < 2147483647;decide),?_];refine#[_,Z,_,_,Z,Z,.inr #[WL,WL],_,_,Z,Z,_,_,Z,Z,(by show(0:Int) < 2147483646;decide),_,_,Z,Z,_,Z,p,_,_,1,Z,Z,e,Z,?_];generalize m:b*69621 % 2147483647=one at*;let N:0<=(one*48271+30103) % 2147483646:=O3 _ WL;let L:(one*48271+30103) % 2147483646 < 2147483646:=OJ _ WL;generalize r:(one*48271+30103) % 2147483646=t at*;refine#[_,Z,_,_,Z,Z,.inr #[WL,WL],_,Z,p,_,_,_,Z,Z,aH.of jc,Z,_,_,Z,Z,_,_,Z,Z,#[WL,WL],?_];let X:0<=(one*2147483647+(t+1)) / 8191:=by omega
  let O:(one*2147483647+(t+1)) / 8191 < 18446744073709551616:=by omega
  generalize u:(one*2147483647+(t+1)) / 8191=M at*;refine#[_,Z,_,_,Z,Z,#[WL,WL,WL],_,_,Z,Z,_,Z,?_];let v:ax (af H p$ .lst [.int a,.int$ t+1]) p:=#[a,t+1,l,WM,WM,jc];erw[cg (λy=>?_) (λy=>?_)]
  .refine#[_,Z,_,Z,_,_,Z,Z,.inl #[WM,WM],?_];refine#[_,Z,_,Z,_,_,Z,Z,d,?_];exact q _ _ (O3 _ WM) (OJ _ d) v λb n=>jh n
  .refine#[_,Z,_,Z,_,_,Z,Z,d,?_];exact q _ _ (O3 _ WM) (OJ _ d) v λb n=>jh n
def nQ:aj ["_law_script","_law_k","_law_cell","_law_seed"] ["_law_script","_law_k"] (ae FT):=bN
def ES(F:ti K "_law_box" FT f I)(m:mg "len"=θ)(M:mg "int"=θ):⇑1 f I ["_law_script","_law_k"] (rM K):=by
 erw[F.ok nQ λJ A o s H W Q E X h=>?_]
 let⟨a,ns,k,rfl,d,i,L,q⟩:=h;refine#[_,jd (jA 2 nQ.nd$ jx jW (jx zK jf$ pv 1) jf)
  (jd (jz (jD QI (pv 1) (jM jG Z m OD$ ja (pv 0) jb)$ aI _)
   (jg$ jA 2 nQ.nd$ jr jv (pv 0) (pv 1) (λ_ _=>Z))
   (jg (jz (jD JX (jM jG Z m OD$ ja (pv 0) jb) jf$ aI _)
    (jg$ jA 2 nQ.nd$ jx jW (pv 2)$ jx zK (jx zn (jr jv (pv 0) (jx zn (pv 1)$ jM jG Z m OD$ ja (pv 0) jb) (λ_ _=>Z)) jf) jf) jp)))
  (jd (jA 3 nQ.nd$ jx jW (jx zn (jx jW (jx zK (jx zn (pv 2) jf) jf)$ jx zK jf$ pv 1) jf) jf)
  (jg$ jo$ jE$ ja (jx zK (pv 2)$ jN qQ Z M UC$ ja (z9 wQ (pv 2) (jx JI jf jf)$ aI _) jb)$ ja (pv 3) jb))),?_]
 let e:(ns.map sn).length=ns.length:=NO _;let T:∀c:Int,∃v:V,∃x:Int,v= .int x/\1<=x/\x<=2147483646/\v= .int ((c % 2147483629*48271+40692*k) % 2147483646+1):=λc=>by let N:0<=(c % 2147483629*48271+40692*k) % 2147483646:=O3 _ WL;let O:(c % 2147483629*48271+40692*k) % 2147483646 < 2147483646:=OJ _ WL;exact#[_,_,Z,WM,WM,Z]
 let j:∀(c:Int) (r:η),H r=θ->Q (.ref r) (af H r$ .lst [.int$ c*(if decide ((10:Int) ^ (18:Int).toNat<=c)=μ then 1 else 0),.int ((c % 2147483629*48271+40692*k) % 2147483646+1)]):=λc r R=>by
  refine q r _ R #[_,_,?_,?_,?_,jc] λb n=>jh n
  .rw[se];by_cases h:(1000000000000000000:Int)<=c
   .rw[N4 h,N0 Z];omega
   .rw[NW h,N7 N5];omega
  .let N:0<=(c % 2147483629*48271+40692*k) % 2147483646:=O3 _ WL;omega
  .let O:(c % 2147483629*48271+40692*k) % 2147483646 < 2147483646:=OJ _ WL;omega
 let B:∀c:Int,Ag c (if decide ((10:Int) ^ (18:Int).toNat<=c)=μ then 1 else 0):=λc=>.inr (by split<;>decide);erw[ai λF0 u=>#[_,Z,_,_,Z,Z,.inl #[WL,WL],_,_,Z,Z,u _ _ ?_]];erw[ai λS y=>?_];let l:∀c:Int,S [↑a,δ$ .int k,δ$ .int c,θ] H:=λc=>y _ _ (ai λF2 U=>#[_,Z,_,_,Z,Z,(by show(0:Int) < 2147483629;decide),_,_,Z,Z,.inr #[WL,WL],_,Z,_,_,Z,Z,.inl #[WL,WL],_,_,Z,Z,_,_,Z,Z,(by show(0:Int) < 2147483646;decide),_,_,Z,Z,U _ _ (#[_,Z,_,Z,_,_,Z,Z,#[WL,WL,WL],_,_,Z,Z,.inr #[_,Z,_,_,Z,Z,B c,_,Z,cj,j c]])]);erw[pP λG g=>#[_,Z,_,Z,a,_,Z,.inl d,_,_,Z,Z,_,Z,g _ _ ?_]];erw[cg (λc=>?_) (λc=>?_)]
 .let C:k < (((ns.map sn).length:Nat):Int):=OQ c;rw[e]at C;let⟨v,p⟩:=vV (ns:=ns) i C;exact#[_,Z,_,Z,a,_,_,_,Z,Z,d,p,l v]
 .let C:¬k < (((ns.map sn).length:Nat):Int):=SY (mL.mpr c);rw[e]at C;erw[pP λG g=>#[_,Z,a,_,Z,.inl d,_,_,Z,Z,_,Z,g _ _ ?_]];erw[cg (λz=>?_) (λz=>?_)]
  .let D:(0:Int) < (((ns.map sn).length:Nat):Int):=OQ z;let⟨v,p⟩:=vV (ns:=ns) (k:=k % (((ns.map sn).length:Nat):Int)) (O3 _ WM) (by let:=OJ k D;rw[e]at this;rw[e];exact this);exact#[_,Z,_,Z,_,Z,_,Z,a,_,Z,.inl d,_,_,Z,Z,D,a,_,_,_,Z,Z,d,p,_,_,Z,Z,(by show(0:Int) < 2147483629;decide),_,_,Z,Z,.inr #[WL,WL],_,_,Z,Z,l _]
  .exact l _
def pj(i j:ρ):(i++j).length=i.length+j.length:=by show(i.cps++j.cps).size=i.cps.size+j.cps.size;exact Ts
def zR:1000000<=τ:=by rw[Rb];decide
def aq{H:Hp}{o:HO}(h:H b=δ u)(n:H r=θ):af H r o b=δ u:=by rwa[jh$ jk h n]
def yz{z:ρ}{k:Int}(H:0<=k)(a:k < (z.length:Int)):∃c:Nat,eM z.cps.toList k=δ c:=by
 let b:z.cps.toList.length=z.length:=Om;let h:k.toNat < z.cps.toList.length:=by omega
 let e:k=((k.toNat:Nat):Int):=by omega
 let q:eM z.cps.toList ((k.toNat:Nat):Int)=δ z.cps.toList[k.toNat]:=jK (NK h);rw[<- e]at q;exact#[_,q]
def KM{ys:tz ρ}{k:Int}(H:0<=k)(a:k < (ys.length:Int)):∃y∈ys,eM (ys.map rz) k=δ (.str y):=by
 let h:k.toNat < ys.length:=by omega
 let e:k=((k.toNat:Nat):Int):=by omega
 let q:eM (ys.map rz) ((k.toNat:Nat):Int)=δ (.str ys[k.toNat]):=jK (by rw[Od,NK h];rfl);rw[<- e]at q;exact#[_,RQ h,q]
noncomputable def bH(s:tz ρ)(lo h:tT Int):tz ρ:=(s.drop$ HT.sIx s.length 0 lo).take (HT.sIx s.length s.length h - HT.sIx s.length 0 lo)
def zS(s:tz ρ)(lo h:tT Int):aW (s.map rz) lo h=(bH s lo h).map rz:=by unfold aW bH;rw[NO,RU,VN]
def qi{lo:tT Int}(h:y∈bH s lo H):y∈s:=UK (OZ h)
def qH(s:tz ρ)(lo h:tT Int):(bH s lo h).length<=s.length:=by unfold bH;rw[Oh,OE];omega
theorem Ji:∀{ys:tz ρ},(∀y∈ys,y.length<=1)->(ys.map (·.length)).sum<=ys.length
 | [],_=>NQ _
 |y::r,h=>by let a:=h y Oe;let b:=Ji (ys:=r) λz H=>h z (On _ H);rw[O8,VM,Oq];omega
def Jj{z:ρ}{ys:tz ρ}(H:z.length=0)(h:∀y∈ys,y.length<=1):(Txt.join z ys).length<=ys.length:=by show(Builtin.Str.glued z ys).length<=_;rw[size_glued,H,Nat.mul_zero,V9];exact Ji h
noncomputable def dQ:ρ:="abcdefghijklmnopqrstuvwxyz"
def Ka:dQ.length=26:=by decide+kernel
noncomputable def tE(d:Int)(k:Nat):Nat:=97+((d+5*(0+(k:Int))) % 26).toNat
def AN(H:i < 20)(a:j < 20)(h:tE d i=tE d j):i=j:=by unfold tE at h;omega
def Es(H:0<=k)(a:k < 26)(h:eM dQ.cps.toList k=δ c):c=97+k.toNat:=by
 let q:∀m:Fin 26,eM dQ.cps.toList (m.val:Int)=δ (97+m.val):=by decide+kernel
 let e:=q #[k.toNat,WM];let E:((k.toNat:Nat):Int)=k:=by omega
 dsimp only at e;rw[E,h]at e;injection e
def Sh(A S:ρ)(d:Int)(c:Nat)(w:ρ):Prop:=if d=2 then ∃R:ρ,w=R++#[(ε [c])] else w=A++#[(ε [c])]++S∨w=A++#[(ε [c])]++S++"z"∨w="qqqqqqq"++#[(ε [c])]
def kX(a b:ρ):(a++b).cps.toList=a.cps.toList++b.cps.toList:=by show(a.cps++b.cps).toList=_;exact Array.toList_append
def Yb{R:ρ}(h:R++(#[(ε [c])]:ρ)=r++#[(ε [C])]):c=C:=by let e:=O1 (mS ∘ Str.cps) h;let e:(R++(#[(ε [c])]:ρ)).cps.toList=(r++(#[(ε [C])]:ρ)).cps.toList:=e;rw[kX,kX]at e;let:=List.append_inj_right' e Z;injection this
def AO{S:ρ}(h:A++(#[(ε [c])]:ρ)++S=A++#[(ε [C])]++S):c=C:=by let e:=O1 (mS ∘ Str.cps) h;let e:(A++(#[(ε [c])]:ρ)++S).cps.toList=(A++(#[(ε [C])]:ρ)++S).cps.toList:=e;rw[kX,kX,kX,kX]at e;let:=Su (Sl e);injection this
def Ld{A S : ρ}{d : Int}{c C : Nat}{w : ρ}(i : A.length + S.length <= 5)(h : Sh A S d c w)(H : Sh A S d C w) : c = C := by
  unfold Sh at h H;let l : ∀ c : Nat, (#[(ε [c])] : ρ).length = 1 :=λ_ => Z;let L : (Str.ofString "z").length = 1 := by decide +kernel
  let f : (Str.ofString "qqqqqqq").length = 7 := by decide +kernel
  split at h
  · rename_i a
    rw [N0 a] at H;obtain ⟨R, rfl⟩ := h;obtain ⟨r, e⟩ := H;exact Yb e
  · rename_i a
    rw [N7 a] at H;rcases h with rfl | rfl | rfl <;> rcases H with e | e | e
    · exact AO e
    all_goals first
      | exact Yb e
      | (have g := O1 Str.length e
         simp only [pj, l, L, f] at g;omega)
      | skip
    let E := O1 (mS ∘ Str.cps) e;let E : (A ++ (#[(ε [c])] : ρ) ++ S ++ ("z" : ρ)).cps.toList = (A ++ (#[(ε [C])] : ρ) ++ S ++ ("z" : ρ)).cps.toList := E;rw [kX, kX (A ++ _ ++ S)] at E;let b := Sl E;rw [kX, kX, kX, kX] at b;let := Su (Sl b);injection this
def Yc{y:tz ρ}:y.Nodup↔∀i j:Nat,i < j->j < y.length->y[i]?≠y[j]?:=by
 unfold List.Nodup;rw[ry];refine#[λh i j H a e=>?_,λh i j b a H e=>h i j H a ?_]
 .rw[NK (by omega:i < y.length),NK a]at e;injection e with e;exact h i j WM a H e
 .rw[NK b,NK a,e]
def yr{A S:ρ}{d D:Int}{Y:tz ρ}(b:A.length+S.length<=5)(g:Y.length<=20)(h:∀j y,Y[j]?=δ y->Sh A S D (tE d j) y):Y.Nodup:=by rw[Yc];intro i j c H e;let a:=h i _ (NK (by omega:i < Y.length));let f:=h j _ (NK H);rw[NK (by omega:i < Y.length),NK H]at e;injection e with e;rw[e]at a;let:=AN WM WM (Ld b a f);omega
def tN{y:tz ρ}(h:y.Nodup)(b:a∉y):(y.set n a).Nodup:=by
 rw[Yc]at h ⊢;intro i j H c e;rw[SV]at c;by_cases d:n=i
 .rw[d,RJ WM,PZ WM]at e;exact b$ Og e.symm
 .by_cases f:n=j
  .rw[f,RJ WM,PZ WM]at e;exact b$ Og e
  .rw[PZ d,PZ f]at e;exact h i j H c e
def AW{y:tz ρ}(h:pQ (.str a) (y.map rz)=ν):a∉y:=λm=>by unfold pQ at h;rw[U9]at h;exact h (.str a) (dn.mpr #[a,m,Z]) (show(a==a)=μ from beq_self_eq_true _)
def Ax{ss:tz ρ}{d1 d2:Int}(h:ss.length=(1+d1).toNat)(a:0<=d2)(b:d2 < 1+d1):(bH ss θ$ δ d2).length+(bH ss (δ$ d2+1) θ).length<=d1.toNat:=by
 obtain⟨k,rfl⟩:∃k:Nat,d2=k:=#[d2.toNat,(UX a).symm];obtain⟨n,rfl⟩:∃n:Nat,d1=n:=#[d1.toNat,(UX WM).symm];let H:k<=n:=by omega
 let h:ss.length=n+1:=by rw[h];omega
 unfold bH;rw[show((k:Int)+1)=((k+1:Nat):Int) from Z,HT.sIx_nat,HT.sIx_nat,Oh,Oh,OE,h,Pw$ Pq H,Pw$ Nat.le_succ_of_le H];erw[N6 (Nat.add_le_add (S0 _ _)$ S0 _ _) ?_];show k - 0+(n+1 - (k+1))<=n;rw[SQ,Nat.add_sub_add_right,UT H];exact NQ _
def MH{S:ρ}:Sh A S d c ("qqqqqqq"++#[(ε [c])]):=by
 unfold Sh;split
 .exact#[_,Z]
 .exact .inr$ .inr Z
def MJ{A S:ρ}{d:Int}{c:Nat}{w:ρ}(h:if d=2 then ∃R:ρ,w=R++#[(ε [c])] else w=A++#[(ε [c])]++S∨w=A++#[(ε [c])]++S++"z"):Sh A S d c w:=by
 unfold Sh;split at h
 .rename_i e;rwa[N0 e]
 .rename_i e;rw[N7 e];exact h.elim .inl λz=>.inr (.inl z)
noncomputable def pre(s:tz ρ)(d:Int):ρ:=Txt.join "" (bH s θ$ δ d)
noncomputable def gq(s:tz ρ)(d:Int):ρ:=Txt.join "" (bH s (δ$ d+1) θ)
inductive gO(b:tz V)(H:Hp)(Q:VK)(a:XK):Prop
 |mk(p:η)(n:Int)(_:b=[.ref p,.int n])(_:ax H p)(_:1<=n)(_:n<=20)(_:∀(r:η) (ys:tz ρ) (H':Hp),H r=θ->H' r=δ (.lst (ys.map rz))->(ys.length:Int)=n->(∀y∈ys,y.length<=20)/\ys.Nodup->ax H' p->aG p H H'->Q (.ref r) H')
def bn:aj z31z z27z (ae iW):=bN
noncomputable def QF:hY:=#[.function,[(".0",.local),("_law_k",.local),("_law_take",.globalImplicit),("_law_box_here",.free),("_law_letters",.free)],ν,ν,[]]
def Zs:(z32z:tz ρ).Nodup:=by decide+kernel
def Zt:ba z31z (ae iW) QF z32z 1 [0,2]:=oM
noncomputable def QG:hY:=#[.function,[(".0",.local),("_law_j",.local),("_law_take",.globalImplicit),("_law_box_here",.free),("_law_letters",.free)],ν,ν,[]]
def Zu:(z33z:tz ρ).Nodup:=by decide+kernel
def Zv:ba z31z (ae iW) QG z33z 1 [0,2]:=oM
def JD{p:η}{Q:tz V->Hp->Prop}(o:n<=20)(B:ax f p)
  (q:∀(S:tz ρ) (H:Hp),S.length=n->(∀s∈S,s.length<=1)->ax H p->(∀b,b≠p->H b=f b)->Q (S.map rz) H):
  dY (uO 0 n) 1 [↑p,δ$ .str dQ] (bp 0) nB (eV Bz (a9 2)$ eU a7 [] E0$ ap (a9 1)$ ap (tC$ .int 26) aS) Q f:=by
 refine Yw (λi y H=>∃S:tz ρ,y=S.map rz/\S.length=i/\(∀s∈S,s.length<=1)/\ax H p/\∀b,b≠p->H b=f b)
  #[[],Z,Z,(λ_ h=>nomatch h),B,λ_ _=>Z] (N6 o WL) (λi y H #[S,e,l,_]=>by rw[e,NO,l];exact NQ _) ?_ ?_
 .intro i y H x a;let⟨S,rfl,g,j,m,E⟩:=a;refine#[_,Z,_,Z,p,26,Z,m,WL,WL,λd A D r t u=>?_];let⟨c,v⟩:=yz (z:=dQ) D (by rwa[Ka]);refine#[_,_,c,Z,Z,WL,v,S++[#[(ε [c])]],by rw[Ol];rfl,by rw[NP,g];rfl,λs hs=>?_,t,λb N=>(u b N).trans (E b N)];rcases Ψ.mp hs with hs |hs
  .exact j s hs
  .rw[υ.mp hs];exact NQ 1
 .intro y H a;let⟨S,rfl,g,j,m,E⟩:=a;exact q S H g j m E
def Rw(p g r:η)(n d D b e:Int)(i c:Nat)(s y:tz ρ)(H:Hp)(L:Nat)(Z:ρ->Prop):_L.St->Hp->Prop:=λa h=>∃W:ρ,(W.length<=L/\Z W)/\
 a=[↑p,δ$ .int n,δ$ .str dQ,δ$ .int (1+d),δ$ .int D,↑g,δ$ .int b,δ$ .int e,↑r,δ$ .int (0+(i:Int)),δ$ .str #[(ε [c])],δ$ .str W,θ,θ]/\
 h g=δ (.lst$ s.map rz)/\h r=δ (.lst$ y.map rz)/\ax h p/\aG p H h
def Rf(p r:η)(n:Int)(H:Hp):_L.St->Hp->Prop:=λa h=>a[8]?=δ (↑r)/\∃Y:tz ρ,h r=δ (.lst$ Y.map rz)/\(Y.length:Int)=n/\((∀y∈Y,y.length<=20)/\Y.Nodup)/\ax h p/\aG p H h
def Q4(Y:tz ρ):(Y.map rz).all du=μ:=by rw[Sv];intro v h;let⟨y,_,rfl⟩:=dn.mp h;rfl
def yo(Y:tz ρ)(j:Nat)(y:ρ):(Y.map rz).set j (rz y)=(Y.set j y).map rz:=(VV ..).symm
inductive NI(p g r:η)(n b c d e:Int)(v:tz ρ)(H:Hp)(i:Nat)(x:_L.St)(a:Hp):Prop
 |mk(s t u:tT V)(w:tz ρ)(f:x=[↑p,δ (.int n),δ (.str dQ),δ (.int (1+b)),δ (.int c),↑g,δ (.int d),δ (.int e),↑r,s,t,u,θ,θ])(h:a g=δ (.lst (v.map rz)))(k:a r=δ (.lst (w.map rz)))(l:w.length=i)(m:(∀y∈w,y.length<=20)/\∀j y,w[j]?=δ y->Sh (pre v c) (gq v c) e (tE d j) y)(o:ax a p)(q:aG p H a)
def wI(F:ti K "_law_names" iW f fd)(GT:⇑1 fT f4 z0z a7)(x:aE K f4 z0z [])(C:iu K (.ref fT)=μ)
  (M:mg "_law_take"=↑fT) (mr:mg "range"=θ):⇑2 f fd z27z gO:=by
 erw[F.ok bn λc1 A o1 s H vs Q E D h=>?_]
 let⟨p,n,rfl,B,a4,a5,q⟩:=h;refine#[_,(@jd _ _ _ _ _ (@zc _ _ (2) _ _ _ _ bn.nd Z (fR Z) (@jm _ _ _ _) WP$ .inl Z)$ @jd _ _ _ _ _ (@zc _ _ (3) _ _ _ _ bn.nd Z (ω Z) (@jx _ _ _ _ _ _ _ _ jW (@jf _ _ _ _)$ @kW _ _ _ _ _ _ _ _ _ _ _ _ _ _ _ _ GT D Z M C x .nil bg (@ja _ _ _ _ _ (@pv _ 0 _ _ WP (.inr$ .inl Z) WL WL) (@ja _ _ _ _ _ (@jf _ _ _ _) (@jb _) WP) WP) WL WP WP) WP$ .inl Z)$ @jd _ _ _ _ _ (@zc _ _ (4) _ _ _ _ bn.nd Z (ω Z) (@kW _ _ _ _ _ _ _ _ _ _ _ _ _ _ _ _ GT D Z M C x .nil bg (@ja _ _ _ _ _ (@pv _ 0 _ _ WP (.inr$ .inl Z) WL WL) (@ja _ _ _ _ _ (@pv _ 3 _ _ WP (.inl Z) WL WL) (@jb _) WP) WP) WL WP WP) WP$ .inl Z)$ @jd _ _ _ _ _ (@qN _ _ _ _ _ _ _ _ _ _ (5) (z32z) (1) ([0,2]) _ _ _ _ bn.nd Z (ω Z) Z (@zf _ _ _ _ _ _ Z mr (@ja _ _ _ _ _ (@pv _ 3 _ _ WP (by first |exact ω Z |exact fR (ω Z) |exact fR$ fR Z) WL WL) (@jb _) WP) WP) Zt (λ_ _ _ _ _=>(@jw _ _ (0) _ Zs Z (ω Z) (by first |exact .inl Z |exact .inr Z))) (λ_ _ _ _ _=>(@zM _)) (λ_ _ _ _ _=>(@jr _ _ _ _ _ _ _ KJ (@pv _ 2 _ _ WP (by first |exact ω Z |exact fR (ω Z) |exact fR$ fR Z) WL WL) (@kW _ _ _ _ _ _ _ _ _ _ _ _ _ _ _ _ GT D Z M C x .nil bg (@ja _ _ _ _ _ (@pv _ 1 _ _ WP (by first |exact ω Z |exact fR (ω Z) |exact fR$ fR Z) WL WL) (@ja _ _ _ _ _ (@jf _ _ _ _) (@jb _) WP) WP) WL WP WP) (λ_ _=>Z))) WP (by first |exact .inl Z |exact .inr Z) (by intro _;rfl))$ @jd _ _ _ _ _ (@zc _ _ (6) _ _ _ _ bn.nd Z (ω Z) (@kW _ _ _ _ _ _ _ _ _ _ _ _ _ _ _ _ GT D Z M C x .nil bg (@ja _ _ _ _ _ (@pv _ 0 _ _ WP (.inr$ .inl Z) WL WL) (@ja _ _ _ _ _ (@jf _ _ _ _) (@jb _) WP) WP) WL WP WP) WP$ .inl Z)$ @jd _ _ _ _ _ (@zc _ _ (7) _ _ _ _ bn.nd Z (ω Z) (@kW _ _ _ _ _ _ _ _ _ _ _ _ _ _ _ _ GT D Z M C x .nil bg (@ja _ _ _ _ _ (@pv _ 0 _ _ WP (.inr$ .inl Z) WL WL) (@ja _ _ _ _ _ (@jf _ _ _ _) (@jb _) WP) WP) WL WP WP) WP$ .inl Z)$ @jd _ _ _ _ _ (@zc _ _ (8) _ _ _ _ bn.nd Z (ω Z) (@jE _ _ _ _$ @jb _) WP$ .inl Z)$ @jd _ _ _ _ _ (@j6 _ _ _ _ _ _ _ _ Ot Z (@zf _ _ _ _ _ _ Z mr (@ja _ _ _ _ _ (@pv _ 1 _ _ WP (.inl Z) WL WL) (@jb _) WP) WP) (@jw _ _ (9) _ bn.nd Z (ω Z)$ .inl Z) (@jd _ _ _ _ _ (@zc _ _ (10) _ _ _ _ bn.nd Z (ω Z) (@jr _ _ _ _ _ _ _ KJ (@pv _ 2 _ _ WP (.inr$ .inl Z) WL WL) (@jx _ _ _ _ _ _ _ _ zn (@jx _ _ _ _ _ _ _ _ jW (@pv _ 6 _ _ WP (.inl Z) WL WL)$ @jx _ _ _ _ _ _ _ _ zK (@jf _ _ _ _)$ @pv _ 9 _ _ WP (.inl Z) WL WL)$ @jf _ _ _ _) (λ_ _=>Z)) WP$ .inl Z)$ @jd _ _ _ _ _ (@ki _ _ _$ @zc _ _ (11) _ _ _ _ bn.nd Z (ω Z) (@jx _ _ _ _ _ _ _ _ zX (@jx _ _ _ _ _ _ _ _ zX (@jZ _ _ _ _ _ _ _ _ _ _ _ _ So Sz Sx Xq (@jm _ _ _ _) (@ja _ _ _ _ _ (@jJ _ _ _ _ _ _ _ _ _ _ kJ (@pv _ 5 _ _ WP (.inl Z) WL WL) (@jT _)$ @jI _ _ _$ @pv _ 4 _ _ WP (.inl Z) WL WL) (@jb _) WP) WP WP WP WP WP)$ @pv _ 10 _ _ WP (.inl Z) WL WL)$ @jZ _ _ _ _ _ _ _ _ _ _ _ _ So Sz Sx Xq (@jm _ _ _ _) (@ja _ _ _ _ _ (@jJ _ _ _ _ _ _ _ _ _ _ kJ (@pv _ 5 _ _ WP (.inl Z) WL WL) (@jI _ _ _$ @jx _ _ _ _ _ _ _ _ jW (@pv _ 4 _ _ WP (.inl Z) WL WL)$ @jf _ _ _ _)$ @jT _) (@jb _) WP) WP WP WP WP WP) WP$ .inl Z)$ @jd _ _ _ _ _ (@ki _ _ _$ @jz _ _ _ _ _ _ _ _ (@PW.pt _ _ _$ @JH _ _ _ _ _ _ _ (zk$ @pv _ 7 _ _ WP (.inl Z) WL WL)$ @qM _ _ _ _$ zk$ @jx _ _ _ _ _ _ _ _ zn (@pv _ 9 _ _ WP (.inl Z) WL WL)$ @jf _ _ _ _) (@jg _ _ _$ @zc _ _ (11) _ _ _ _ bn.nd Z (ω Z) (@jx _ _ _ _ _ _ _ _ zX (@pv _ 11 _ _ WP (.inl Z) WL WL)$ @jm _ _ _ _) WP$ .inl Z)$ @jp _)$ @jd _ _ _ _ _ (@ki _ _ _$ @jz _ _ _ _ _ _ _ _ (zk$ @pv _ 7 _ _ WP (.inl Z) WL WL) (@jg _ _ _$ @zc _ _ (11) _ _ _ _ bn.nd Z (ω Z) (@jx _ _ _ _ _ _ _ _ zX (@jZ _ _ _ _ _ _ _ _ _ _ _ _ So Sz Sx Xq (@jm _ _ _ _) (@ja _ _ _ _ _ (@zp _ _ _ _ _ _ _ (z33z) (1) ([0,2]) _ _ _ _ Z (@zf _ _ _ _ _ _ Z mr (@ja _ _ _ _ _ (@kW _ _ _ _ _ _ _ _ _ _ _ _ _ _ _ _ GT D Z M C x .nil bg (@ja _ _ _ _ _ (@pv _ 0 _ _ WP (by first |exact ω Z |exact fR (ω Z) |exact fR$ fR Z) WL WL) (@ja _ _ _ _ _ (@jf _ _ _ _) (@jb _) WP) WP) WL WP WP) (@jb _) WP) WP) Zv (λ_ _ _ _ _=>(@jw _ _ (0) _ Zu Z (ω Z) (by first |exact .inl Z |exact .inr Z))) (λ_ _ _ _ _=>(@zM _)) (λ_ _ _ _ _=>(@jr _ _ _ _ _ _ _ KJ (@pv _ 2 _ _ WP (by first |exact ω Z |exact fR (ω Z) |exact fR$ fR Z) WL WL) (@kW _ _ _ _ _ _ _ _ _ _ _ _ _ _ _ _ GT D Z M C x .nil bg (@ja _ _ _ _ _ (@pv _ 1 _ _ WP (by first |exact ω Z |exact fR (ω Z) |exact fR$ fR Z) WL WL) (@ja _ _ _ _ _ (@jf _ _ _ _) (@jb _) WP) WP) WL WP WP) (λ_ _=>Z))) (by intro _;rfl)) (@jb _) WP) WP WP WP WP WP)$ @pv _ 10 _ _ WP (.inl Z) WL WL) WP$ .inl Z)$ @jp _)$ @jd _ _ _ _ _ (@ki _ _ _$ @jz _ _ _ _ _ _ _ _ (@jD _ _ _ _ _ _ _ _ zF (@pv _ 11 _ _ WP (.inl Z) WL WL) (@ji _ _ _ _ _$ @Xr _ _ WP) Z) (@jg _ _ _$ @zc _ _ (11) _ _ _ _ bn.nd Z (ω Z) (@jx _ _ _ _ _ _ _ _ zX (@jm _ _ _ _)$ @pv _ 10 _ _ WP (.inl Z) WL WL) WP$ .inl Z)$ @jp _)$ @jg _ _ _$ @jH _ _ _ _ (@jZ _ _ _ _ _ _ _ _ _ _ _ _ NZ Ob Oa jO (@pv _ 8 _ _ WP (.inl Z) WL WL) (@ja _ _ _ _ _ (@pv _ 11 _ _ WP (.inl Z) WL WL) (@jb _) WP) WP WP WP WP WP) WP) (by intro _;rfl))$ @jd _ _ _ _ _ (@ki _ _ _$ @jz _ _ _ _ _ _ _ _ (@jD _ _ _ _ _ _ _ _ qh (@kW _ _ _ _ _ _ _ _ _ _ _ _ _ _ _ _ GT D Z M C x .nil bg (@ja _ _ _ _ _ (@pv _ 0 _ _ WP (.inr$ .inl Z) WL WL) (@ja _ _ _ _ _ (@jf _ _ _ _) (@jb _) WP) WP) WL WP WP) (@jf _ _ _ _)$ aI _) (@jd _ _ _ _ _ (@zc _ _ (12) _ _ _ _ bn.nd Z (ω Z) (@jE _ _ _ _$ @Xr _ _ WP) WP$ .inl Z)$ @jd _ _ _ _ _ (@zc _ _ (13) _ _ _ _ bn.nd Z (ω Z) (@jr _ _ _ _ _ _ _ jv (@pv _ 12 _ _ WP (.inl Z) WL WL) (@kW _ _ _ _ _ _ _ _ _ _ _ _ _ _ _ _ GT D Z M C x .nil bg (@ja _ _ _ _ _ (@pv _ 0 _ _ WP (.inr$ .inl Z) WL WL) (@ja _ _ _ _ _ (@jf _ _ _ _) (@jb _) WP) WP) WL WP WP) (λ_ _=>Z)) WP$ .inl Z)$ @jg _ _ _$ @jz _ _ _ _ _ _ _ _ (@jD _ _ _ _ _ _ _ _ Jy (@pv _ 13 _ _ WP (.inl Z) WL WL) (@pv _ 8 _ _ WP (.inl Z) WL WL) Z) (@jg _ _ _$ @zA _ _ _ _ _ _ (@pv _ 13 _ _ WP (.inl Z) WL WL) (@qY _ _ _ _ _ _ _ (@pv _ 8 _ _ WP (.inl Z) WL WL) (@kW _ _ _ _ _ _ _ _ _ _ _ _ _ _ _ _ GT D Z M C x .nil bg (@ja _ _ _ _ _ (@pv _ 0 _ _ WP (.inr$ .inl Z) WL WL) (@ja _ _ _ _ _ (@pv _ 1 _ _ WP (.inl Z) WL WL) (@jb _) WP) WP) WL WP WP) zQ (by intro _;rfl)) WP WP WP)$ @jp _)$ @jp _)$ @jg _ _ _$ @jo _ _ _ _$ @pv _ 8 _ _ WP (.inl Z) WL WL),?_];erw[gp λE0 f0=>f0 _ _ ?_];erw[gp λG a=>#[_,Z,p,6,Z,B,WL,WL,λd1 H1 a' b0 U e1=>#[_,_,Z,Z,a _ _ ?_]]];erw[gp λE2 f2=>#[_,Z,_,Z,p,_,Z,U,WM,WM,λd2 H2 b1 b2 B2 e2=>f2 _ _ ?_]];erw[gp λG a=>#[_,Z,_,Z,WM,WM,?_]];erw[JD (p:=p) WM B2 λss H3 a3 e B3 e3 g hg=>a _ _ ?_];let k3:aG p H H3:=(aG.of_eq e1).trans ((aG.of_eq e2).trans$ aG.of_eq e3);let v:g≠p:=B3.ne hg;erw[gp λG a=>#[_,Z,p,26,Z,B3.upd_new hg,WL,WL,λW H4 b3 b4 B4 e4=>a _ _ ?_]];erw[gp λE2 f2=>#[_,Z,p,3,Z,B4,WL,WL,λI H5 b5 b7 B5 e5=>f2 _ _ ?_]];let h2:H5 g=δ (.lst$ ss.map rz):=by rw[e5 g v,e4 g v];exact jc
 let k5:aG p H H5:=(k3.upd_new hg).trans ((aG.of_eq e4).trans$ aG.of_eq e5);erw[gp λG a=>#[WL,λr u=>a _ _ ?_]];let m:r≠p:=B5.ne u;let h4:g≠r:=jk h2 u;let n3:H g=θ:=by
  cases z:H g with
  |none=>rfl
  |some o=>have:=k3 g o v z;rw[hg]at this;cases this
 let X:H r=θ:=by
  cases z:H r with
  |none=>rfl
  |some o=>have:=k5 r o m z;rw[u]at this;cases this
 let b8:=zR;erw[gp λG a=>dD λJ j=>#[_,Z,_,Z,WM,WM,j _ _ ?_]];erw[kH (lo:=0) (NI p g r n d1 d2 W I ss H) #[θ,θ,θ,[],Z,aq h2 u,jc,Z,#[(λ_ h=>nomatch h),(λ_ _ h=>nomatch h)],B5.upd_new u,k5.upd_new u] ?_ ?_]
 .intro E0 _ i σ H' hi fE Gq T b;let⟨ok,oo,ow,ys,rfl,L,Y,h0,d,B',k'⟩:=b;let⟨c,hc⟩:=yz (z:=dQ) (k:=(W+5*(0+(i:Int))) % 26) (O3 _ WL) (by rw[Ka];exact OJ _ WL);erw[T ?_];show dH (dJ _ _) _ E0 _ _;refine gp λG a=>#[_,Z,_,Z,_,Z,_,_,Z,Z,.inl #[WL,WL],_,_,Z,Z,_,_,Z,Z,(by show(0:Int) < 26;decide),_,_,c,Z,Z,WL,hc,a _ _ ?_];let b9:(#[(ε [c])]:ρ).length=1:=rfl;let h5:c=tE W i:=Es (O3 _ WL) (OJ _ WL) hc;erw[gp λG a=>eh (Rw p g r n d1 d2 W I i c ss ys H 13 (·=pre ss d2++#[(ε [c])]++gq ss d2)) (λE2 _ t=>?_) λO H1 b=>?_]
  .clear a fE;refine#[Z,_,Z,_,Z,_,Z,g,_,Z,aH.of L,λs1 n1=>?_];let z1:=Ji (ys:=bH ss θ (δ d2)) λy d=>e y (qi d);let z2:=qH ss θ (δ d2);refine#[_,s1,bH ss θ$ δ d2,Z,Z,aH.of (by rw[jc,zS]),WL,WM,?_];let j1:=Jj (z:="") (ys:=bH ss θ (δ d2)) WO λy d=>e y (qi d);refine#[_,Z,_,_,Z,Z,WM,?_];refine#[Z,_,Z,_,Z,_,_,Z,Z,_,Z,g,_,Z,aH.of$ aq L n1,λs2 n2=>?_];let z3:=Ji (ys:=bH ss (δ$ d2+1) θ) λy d=>e y (qi d);let z4:=qH ss (δ$ d2+1) θ;refine#[_,s2,bH ss (δ$ d2+1) θ,Z,Z,aH.of (by rw[jc,zS]),WL,WM,?_];let j2:=Jj (z:="") (ys:=bH ss (δ$ d2+1) θ) WO λy d=>e y (qi d);refine#[_,_,Z,Z,by rw[pj];omega,?_];exact t _ _ #[_,#[by show(Txt.join ("":ρ) (bH ss θ$ δ d2)++(#[(ε [c])]:ρ)++Txt.join ("":ρ) (bH ss (δ$ d2+1) θ)).length<=13;rw[pj,pj];omega,Z],Z,aq (aq L n1) n2,aq (aq Y n1) n2,(B'.upd_new n1).upd_new n2,(k'.upd_new n1).upd_new n2]
  obtain⟨w1,⟨b',z1⟩,rfl,g1,r1,U,k1⟩:=b;erw[a _ _ ?_];erw[gp λG a=>eh (Rw p g r n d1 d2 W I i c ss ys H 14 (λw=>w=pre ss d2++#[(ε [c])]++gq ss d2∨w=pre ss d2++#[(ε [c])]++gq ss d2++"z")) (λE2 _ t=>?_) λO H2 b=>?_]
  .clear a fE;refine#[_,Z,Z,_,Z,?_];erw[cg (λS=>?_) (λS=>?_)]
   .refine#[_,Z,_,_,Z,Z,(by show(0:Int) < 2;decide),Z,_,Z,?_];erw[cg (λcb=>?_) (λcb=>?_)]
    .let hz:(Str.ofString "z").length=1:=by decide+kernel
     refine#[_,Z,_,_,Z,Z,by rw[hz];omega,?_];exact t _ _ #[_,#[by rw[pj,hz];omega,.inr (by rw[z1])],Z,g1,r1,U,k1]
    .exact t _ _ #[w1,#[WM,.inl z1],Z,g1,r1,U,k1]
   .exact nL$ t _ _ #[w1,#[WM,.inl z1],Z,g1,r1,U,k1]
  obtain⟨w2,⟨c2,z2⟩,rfl,g2,r2,B2,k2⟩:=b;erw[a _ _ ?_];erw[gp λG a=>eh (Rw p g r n d1 d2 W I i c ss ys H 14 (λw=>if I=2 then ∃R:ρ,w=R++#[(ε [c])] else w=pre ss d2++#[(ε [c])]++gq ss d2∨w=pre ss d2++#[(ε [c])]++gq ss d2++"z")) (λE2 _ t=>?_) λO H3 b=>?_]
  .clear a fE;refine#[_,Z,Z,_,Z,?_];erw[cg (λS=>?_) (λS=>?_)]
   .refine#[Z,_,Z,p,8,Z,B2,WL,WL,λd6 H6 d0 d3 B6 e6=>?_];refine#[_,Z,WM,WM,?_];erw[JD (p:=p) WM B6 λtt H7 c3 h3 B7 e7 g7 n7=>?_];let jt:=Jj (z:="") (ys:=tt) WO h3;let zt:=Ji h3;refine#[_,g7,tt,Z,Z,aH.of jc,WL,WM,?_];refine#[_,Z,_,_,Z,Z,WM,?_];let g8:H7 g=δ (.lst$ ss.map rz):=by rw[e7 g v,e6 g v];exact g2
    let r8:H7 r=δ (.lst$ ys.map rz):=by rw[e7 r m,e6 r m];exact r2
    let e5:I=2:=by injection OQ S
    exact t _ _ #[_,#[by rw[pj];omega,(N0 e5).mpr #[_,Z]],Z,aq g8 n7,aq r8 n7,B7.upd_new n7,(k2.trans ((aG.of_eq e6).trans$ aG.of_eq e7)).upd_new n7]
   .let e5:I≠2:=λz=>S (by rw[z];exact N4 Z);exact t _ _ #[w2,#[WM,(N7 e5).mpr z2],Z,g2,r2,B2,k2]
  obtain⟨w3,⟨c4,z3⟩,rfl,g3,r3,B3,k3⟩:=b;erw[a _ _ ?_];erw[gp λG a=>eh (Rw p g r n d1 d2 W I i c ss ys H 14$ Sh (pre ss d2) (gq ss d2) I c) (λE2 _ t=>?_) λO H4 b=>?_]
  .clear a fE;refine#[_,Z,WL,λt0 N=>?_];refine#[t0,_,Z,.inr$ aC.of jc,Z,sS WP,_,Z,?_];erw[cg (λS=>?_) (λS=>?_)]
   .let hq:(Str.ofString "qqqqqqq").length=7:=by decide+kernel
    refine#[_,Z,_,_,Z,Z,by rw[hq];omega,?_];exact t _ _ #[_,#[by rw[pj,hq];omega,MH],Z,aq g3 N,aq r3 N,B3.upd_new N,k3.upd_new N]
   .exact t _ _ #[w3,#[WM,MJ z3],Z,aq g3 N,aq r3 N,B3.upd_new N,k3.upd_new N]
  obtain⟨w4,⟨c5,z4⟩,rfl,g4,r4,B4,k4⟩:=b;erw[a _ _ ?_];refine#[_,Z,.inl #[Z,_,aH.of r4],_,Z,r,_,_,Z,Z,r4,by rw[NO];omega,?_];refine fE _ _ #[_,_,_,ys++[w4],Z,by rw[jh h4];exact g4,by rw[jc,Ol];rfl,by rw[NP,h0];rfl,#[λy hm=>?_,λj y hj=>?_],B4.eq$ jh$ Ou m,k4.upd_own X]
  .rcases Ψ.mp hm with hm |hm
   .exact d.1 y hm
   .rw[υ.mp hm];omega
  .by_cases h6:j < ys.length
   .rw[PR h6]at hj;exact d.2 j y hj
   .let lj:=(ξ.mp hj).1;rw[NP,Rg]at lj;let ej:j=ys.length:=by omega
    rw[ej,PJ$ NQ _,R6]at hj;injection hj with hj;rw[<- hj,ej,h0,<- h5];exact z4
 .intro σ H' b;let⟨ok,oo,ow,ys,rfl,L,Y,h0,d,B',k'⟩:=b;let h1:(ys.length:Int)=n:=by omega
  let f5:=Ax (ss:=ss) (d1:=d1) (d2:=d2) WM WM WM;let j1:(pre ss d2).length<=_:=Jj (z:="") (ys:=bH ss θ (δ d2)) WO λy d=>e y (qi d);let j2:(gq ss d2).length<=_:=Jj (z:="") (ys:=bH ss (δ$ d2+1) θ) WO λy d=>e y (qi d);let nd:=yr WM WM d.2;let d:=d.1;erw[a _ _ ?_];erw[ai λF1 a=>eh (Rf p r n H) (λE2 _ t=>?_) λO H1 b=>?_]
  .clear a;erw[pP λG' g'=>#[_,Z,p,6,Z,B',WL,WL,λd6 H6 d0 d3 B6 e6=>#[Z,_,Z,g' _ _ ?_]]];let r6:H6 r=δ (.lst$ ys.map rz):=by rw[e6 r m];exact Y
   let k6:aG p H H6:=k'.trans (aG.of_eq e6);erw[cg (λS=>?_) (λS=>?_)]
   .refine gp λE3 f3=>#[WL,λt0 N=>f3 _ _ ?_];let t1:t0≠p:=B6.ne N;erw[gp λE4 f3=>#[_,Z,_,Z,p,13,Z,B6.upd_new N,WL,WL,λd7 H7 d' a0 B7 e7=>?_]];let t7:H7 t0=δ (.lst ((z34z:tz ρ).map rz)):=((e7 t0 t1).trans jc).trans (O1 (λl=>δ (HO.lst l)) WO);let r7:H7 r=δ (.lst$ ys.map rz):=by rw[e7 r m];exact aq r6 N
    let k7:aG p H H7:=(k6.upd_new N).trans (aG.of_eq e7);let⟨od,h7,h8⟩:=KM (ys:=(z34z:tz ρ)) d' (by simpa using a0);refine#[t0,_,_,_,Z,Z,aH.of t7,h8,f3 _ _ ?_];let h':od.length<=20:=by
     let:∀y∈(z34z:tz ρ),y.length<=20:=by decide+kernel
     exact this od h7
    erw[pP λG' g'=>#[_,Z,_,Z,r,_,Z,.inl$ aH.of r7,Z,Q4 _,_,Z,g' _ _ ?_]];erw[cg (λcb=>?_) (λcb=>?_)]
    .refine#[_,Z,_,Z,_,Z,_,Z,p,n,Z,B7,WM,WM,λd8 H8 a1 c6 B8 e8=>?_];let r8:H8 r=δ (.lst$ ys.map rz):=by rw[e8 r m];exact r7
     let k8:aG p H H8:=k7.trans (aG.of_eq e8);refine#[r,_,d8,d8.toNat,Z,Z,r8,?_,?_]
     .unfold oO;rw[N0 a1,NO,N0 WM]
     refine t _ _ #[Z,ys.set d8.toNat od,by rw[jc,yo],by rw[SV];exact h1,#[λy hm=>?_,tN nd$ AW (by let c0:(!pQ (.str od) (ys.map rz))=μ:=cb;rw[Vb]at c0;exact c0)],B8.eq$ jh$ Ou m,k8.upd_own X];rcases List.mem_or_eq_of_mem_set hm with hm |hm
     .exact d y hm
     .rw[hm];exact h'
    .exact t _ _ #[Z,ys,r7,h1,#[d,nd],B7,k7]
   .exact t _ _ #[Z,ys,r6,h1,#[d,nd],B6,k6]
  let⟨a2,y0,r1,l1,y1,U,k1⟩:=b;erw[a _ _ ?_];exact#[_,a2,q r y0 H1 X r1 l1 y1 U k1]
def am(H h:Hp):Prop:=∀b x,H b=δ (.tup x)->h b=δ (.tup x)
def aa.tm(a:aa H c):am H c:=λb x h=>a b _ h
def je{H:Hp}{o:HO}(n:H p=θ):aa H (af H p o):=λb u e=>aq e n
def c8{b:Bool}{A B:Prop}(h:b=μ)(x:A):if b=μ then A else B:=by rwa[N0 h]
def aY{b:Bool}{A B:Prop}(h:b=ν)(x:B):if b=μ then A else B:=by rwa[h,N7 N5]
def aK:τ=16777216:=by rw[Rb]
def ax.same(B:ax H p)(s:aa H c):ax c p:=by let⟨a,b,d,e,f,h⟩:=B.ob;exact#[a,b,d,e,f,s _ _ h]
def aG.of_same(s:aa H h):aG p H h:=λb o _ e=>s _ _ e
def aG.tm(k:aG p H h)(B:ax H p):am H h:=λb x e=>by let⟨a,c,_,_,_,f⟩:=B.ob;exact k b _ (jR e f (by intro w;cases w)) e
def aG.none(k:aG p H h)(B:ax h p)(n:h r=θ):H r=θ:=by
 cases z:H r with
 |none=>rfl
 |some o=>have:=k _ _ (B.ne n) z;rw[n]at this;cases this
def sL{K:β}{a:η}{xs:tz V}{t:TE}{Q:tz V->Hp->Prop}(u:xs.length<=τ)(Pv:Nat->tz V->Hp->Prop)(l:Pv 0 [] H)
  (n:∀i Y h,Pv i Y h->aH K h a xs/\Y.length<=i) (o:∀i x Y h,xs[i]?=δ x->Pv i Y h->t (δ x::d) h λy c=>Pv (i+1) (Y++[y]) c) (q:∀Y h,Pv xs.length Y h->Q Y h):
  dY (y9 K a) 1 d (bp 0) nB t Q H:=by
 refine#[λi m Y h=>m=xs.length - i/\i<=xs.length/\Pv i Y h,#[xs.length,WN,NY _,l],?_];intro i m Y h f;let⟨rfl,z,p⟩:=f;let⟨g,A⟩:=n i Y h p;by_cases b:i < xs.length
 .refine .inr #[#[xs,xs[i],g,NK b],WM,Pv$ i+1,λr c s=>#[xs.length - (i+1),WM,Z,b,s],λv c T j y=>?_];let⟨e,y⟩:=y;subst e;let⟨w,rfl⟩:=oQ j;exact#[#[[δ _],Z,Z],o i v Y c (y xs g) p]
 .let e:i=xs.length:=by omega
  subst e;exact .inl #[#[xs,g,NQ _],q Y h p]
def qR{K:β}{xs:tz V}{t:TE}{Q:tz V->Hp->Prop}(u:xs.length<=τ)(Pv:Nat->tz V->Hp->Prop)(l:Pv 0 [] H)
  (n:∀i Y h,Pv i Y h->aC K h a xs/\Y.length<=i) (o:∀i x Y h,xs[i]?=δ x->Pv i Y h->t (δ x::d) h λy c=>Pv (i+1) (Y++[y]) c) (q:∀Y h,Pv xs.length Y h->Q Y h):
  dY (Aa K a) 1 d (bp 0) nB t Q H:=by
 refine#[λi m Y h=>m=xs.length - i/\i<=xs.length/\Pv i Y h,#[xs.length,WN,NY _,l],?_];intro i m Y h f;let⟨rfl,z,p⟩:=f;let⟨g,A⟩:=n i Y h p;by_cases b:i < xs.length
 .refine .inr #[#[xs,xs[i],g,NK b],WM,Pv$ i+1,λr c s=>#[xs.length - (i+1),WM,Z,b,s],λv c T j y=>?_];let⟨e,y⟩:=y;subst e;let⟨w,rfl⟩:=oQ j;exact#[#[[δ _],Z,Z],o i v Y c (y xs g) p]
 .let e:i=xs.length:=by omega
  subst e;exact .inl #[#[xs,g,NQ _],q Y h p]
noncomputable abbrev mG:cc:=bQ 61
noncomputable abbrev rA:cc:=bQ 63
inductive Tm where
 |num (n:Int) |var (x:ρ) |op (i:Nat) (a b:Tm)
noncomputable def Tm.depth:Tm->Nat
 | .num _ | .var _=>0
 | .op _ a b=>max a.depth b.depth+1
noncomputable def mN:ρ:="+-*/<="
def yq:mN.length=6:=by decide+kernel
noncomputable def MG(i:Nat):ρ:=#[(ε [mN.cps.toList.getD i 0])]
def Go(H:0<=d)(a:d < 6):eM mN.cps.toList d=δ (mN.cps.toList.getD d.toNat 0):=by
 let b:mN.cps.toList.length=6:=by decide+kernel
 let h:d.toNat < mN.cps.toList.length:=by omega
 let e:d=((d.toNat:Nat):Int):=by omega
 let q:eM mN.cps.toList ((d.toNat:Nat):Int)=δ (mN.cps.toList.getD d.toNat 0):=jK (by rw[OT,NK h];rfl);rw[<- e]at q;exact q
def Tm.Good(y:tz ρ):Tm->Prop
 | .num n=>0<=n/\n < 1000000000000000000
 | .var x=>x∈y
 | .op i a b=>i < 6/\a.Good y/\b.Good y
def bG(H:Hp):Tm->η->Prop
 | .num n,p=>H p=δ (.tup [.str "num",.int n])
 | .var x,p=>H p=δ (.tup [.str "var",.str x])
 | .op i a b,p=>∃q r,H p=δ (.tup [.str "op",.str (MG i),.ref q,.ref r])/\bG H a q/\bG H b r
theorem bG.mono{H a:Hp}(h:∀b x,H b=δ (.tup x)->a b=δ (.tup x)):∀{t:Tm} {p:η},bG H t p->bG a t p
 | .num _,_,e | .var _,_,e=>h _ _ e
 | .op _ _ _,_,z=>by let⟨q,r,e,E,c⟩:=z;exact #[q,r,h _ _ e,bG.mono h E,bG.mono h c]
def bG.same(h:aa H a)(e:bG H t p):bG a t p:=e.mono λb x z=>h b _ z
def bG.but(B:ax H p)(k:aG p H h)(e:bG H t a):bG h t a:=e.mono λb X z=>by let⟨x,y,_,_,_,d⟩:=B.ob;exact k b _ (jR z d (by intro q;cases q)) z
def bG.new{H:Hp}{o:HO}(n:H r=θ)(e:bG H t a):bG (af H r o) t a:=e.mono λb x z=>aq z n
inductive iD(c:tz V)(H:Hp)(Q:VK)(a:XK):Prop
 |mk(p:η)(_:c=[.ref p])(_:ax H p)(_:∀(d:Int) (H':Hp),0<=d->d < 1000000000000000000->ax H' p->(∀b,b≠p->H' b=H b)->Q (.int d) H')
inductive dq(n:Nat)(b:tz V)(H:Hp)(Q:VK)(a:XK):Prop
 |mk(p g:η)(d:Int)(c:tz ρ)(_:b=[.ref p,.ref g,.int d])(_:ax H p)(_:H g=δ (.lst (c.map rz)))(_:1<=c.length)(_:c.length<=20)(_:0<=d)(_:d < (n:Int))(_:∀(r:η) (T:Tm) (H':Hp),bG H' T r->(T.depth:Int)<=d->T.Good c->ax H' p->aG p H H'->Q (.ref r) H')
def qE{Y:tz ρ}(B:ax H p)(h:H g=δ (.lst$ Y.map rz)):g≠p:=by
 let⟨x,y,_,_,_,b⟩:=B.ob;erw[jR h b λz=>?_];injection z with z
 match Y,z with
 |a::r,z=>injection z with c _;cases c
def yg:aj z2z z2z (ae mG):=bN
def tX(F:ti K "_law_number" mG f t)(C:Cl P w K mg base 1 I u z0z a7 "_law_take"):⇑2 f t z2z iD:=by
 erw[F.ok yg (λx A o s H v Q E a h=>?_)]
 let⟨p,rfl,B,q⟩:=h;refine#[_,(jd (jz (zk$ C.e a$ ja (pv 0)$ ja jf jb) (jg$ jo$ C.e a$ ja (pv 0)$ ja (jx JI jf jf) jb) jp)$ jg$ jo$ C.e a$ ja (pv 0)$ ja jf jb),?_];refine#[_,Z,p,4,Z,B,WL,WL,λL M y G m r=>#[Z,_,Z,?_]];erw[cg (λc=>?_) (λc=>?_)]
 .refine#[_,Z,_,_,Z,Z,#[WL,WL,WL],p,_,Z,m,WL,WL,λD g d i j k=>?_];let z:=se;exact q D g d WM j λb n=>(k b n).trans (r b n)
 .refine#[_,Z,p,9,Z,m,WL,WL,λD g d i j k=>?_];exact q D g d WM j λb n=>(k b n).trans (r b n)
def pi:aj ["_law_box_here","_law_names_here","_law_deep","_law_kind","_law_one"] z10z (ae rA):=bN
def Bi(F:ti K "_law_term" rA f fd)(cF:Cl P w K mg base (n+2) f fd z10z (dq n) "_law_term")(S:Cl P w K mg base 1 fT f0 z0z a7 "_law_take")(cN:Cl P w K mg base 2 fN f2 z2z iD "_law_number")(ml:mg "len"=θ):⇑(n+3) f fd z10z (dq$ n+1):=by
 erw[F.ok pi λc0 A T s H vs Q E u h=>?_]
 let⟨p,g,d,ys,rfl,B,hg,v,x,h1,h2,q⟩:=h;refine#[_,(jd (jA 3 pi.nd$ S.e u.m$ ja (pv 0)$ ja jf jb)$ jd (ki$ jz (PW.pt$ XQ (jD QI (pv 3) jf$ aI _)$ KI$ PW.pt$ JH (jD JX (pv 3) jf$ aI _)$ qM$ zk$ pv 2) (jg$ jo$ ji$ ja jm$ ja (cN.e u.m$ ja (pv 0) jb) jb) jp)$ jd (jz (jD QI (pv 3) jf$ aI _) (jg$ jo$ ji$ ja jm$ ja (jr jv (pv 1) (S.e u.m$ ja (pv 0)$ ja (jM jG Z ml OD$ ja (pv 1) jb) jb) (λ_ _=>Z)) jb) jp)$ jd (jA 4 pi.nd$ cF.e u$ ja (pv 0)$ ja (pv 1)$ ja (jx zd (pv 2) jf) jb)$ jg$ jo$ ji$ ja jm$ ja (jr KJ jm (S.e u.m$ ja (pv 0)$ ja jf jb) (λ_ _=>Z))$ ja (pv 4)$ ja (cF.e u$ ja (pv 0)$ ja (pv 1)$ ja (jx zd (pv 2) jf) jb) jb),?_];let b0:=zR;let j:g≠p:=qE B hg;erw[ai λF1 l=>#[_,Z,p,6,Z,B,WL,WL,λM O k0 k1 R e1=>l _ _ ?_]];let k:O g=δ (.lst$ ys.map rz):=by rw[e1 g j];exact hg
 let U:aG p H O:=aG.of_eq e1;let num:∀(D:Int) (a:Hp) (r:η),0<=D->D < 1000000000000000000->ax a p->(∀b,b≠p->a b=O b)->a r=θ->Q (.ref r) (af a r$ .tup [.str "num",.int D]):=λD a r C I i o N=>
  q r (.num D) _ jc (by show((0:Nat):Int)<=d;omega) #[C,I] (i.upd_new N) ((U.trans$ aG.of_eq o).upd_new N)
 erw[ai λF1 l=>eh (λJ H'=>J=[↑p,↑g,δ$ .int d,δ$ .int M,θ]/\H'=O/\(M<=3∨d≠0)) (λE2 eR fm=>?_) λJ H' W=>?_]
 .clear l;erw[pP λG' G=>#[_,Z,_,_,Z,Z,_,Z,?_]];erw[cg (λc=>?_) (λc=>?_)]
  .refine G _ _$ nM ?_;show gY _ E2 _ _;unfold gY;rw[eR];exact#[_,Z,p,Z,R,λD a C I i o=>#[cj,λr N=>num D a r C I i o N]]
  refine#[_,Z,_,_,Z,Z,_,Z,?_];erw[cg (λc2=>?_) (λc2=>?_)]
  .refine#[_,Z,Z,_,Z,G _ _ ?_];erw[cg (λc3=>?_) (λc3=>?_)]
   .show gY _ E2 _ _;unfold gY;rw[eR];exact#[_,Z,p,Z,R,λD a C I i o=>#[cj,λr N=>num D a r C I i o N]]
   .exact fm _ _ #[Z,Z,.inr λz=>c3 (by rw[z];rfl)]
  .let c1:¬(3:Int) < M:=SY (mL.mpr c2);exact G _ _$ nL$ fm _ _ #[Z,Z,.inl WM]
 let⟨rfl,eH,hk⟩:=W;rw[eH];erw[l _ _ ?_];erw[ai λF1 l=>pP λG' G=>#[_,Z,_,_,Z,Z,_,Z,G _ _ ?_]];erw[cg (λc=>?_) (λc=>l _ _ ?_)]
 .-- a variable
  refine#[_,Z,_,Z,_,Z,g,_,Z,.inl$ aH.of k,p,_,Z,R,by rw[NO];omega,by rw[NO];omega,λD a X L i o=>?_];rw[NO]at L;let⟨y,hy,Y⟩:=KM (ys:=ys) X L;let t:a g=δ (.lst$ ys.map rz):=by rwa[o g j]
  refine#[g,_,_,_,Z,Z,aH.of t,Y,cj,λr N=>?_];exact q r (.var y) _ jc (by show((0:Nat):Int)<=d;omega) hy (i.upd_new N) ((U.trans$ aG.of_eq o).upd_new N)
 .let c':¬M < (4:Int):=SY (mL.mpr c);let hd:d≠0:=hk.resolve_left WM;refine#[_,Z,_,Z,_,Z,_,_,Z,Z,p,g,d - 1,ys,Z,R,k,v,x,WM,WM,λr1 T1 a t1 d3 g0 i k2=>?_];let t:a g=δ (.lst$ ys.map rz):=k2 g _ j k;refine#[_,Z,p,6,Z,i,WL,WL,λs3 H3 s0 s1 B3 e3=>?_];let h0:H3 g=δ (.lst$ ys.map rz):=by rwa[e3 g j]
  let k3:aG p a H3:=aG.of_eq e3;refine#[mN,_,_,Z,Z,(by rw[yq];omega),Go s0 s1,?_];refine#[_,Z,_,Z,_,Z,_,Z,_,_,Z,Z,p,g,d - 1,ys,Z,B3,h0,v,x,WM,WM,λr2 T2 H4 t2 d4 g1 B4 k4=>?_];refine#[rY,λr N=>?_];let t0:bG H4 T1 r1:=(t1.but i k3).but B3 k4;erw[q r (.op s3.toNat T1 T2) _ #[r1,r2,jc,t0.new N,t2.new N] ?_ #[WM,g0,g1] (B4.upd_new N) (((U.trans k2).trans$ k3.trans k4).upd_new N)];show((max T1.depth T2.depth+1:Nat):Int)<=d;omega
def AV:⇑2 f e z10z (dq 0):=by
 let n:∀v H Q E,¬dq 0 v H Q E:=λv H Q E h=>by let⟨p,g,d,y,_,_,_,_,_,i,b,_⟩:=h;let c:d < ((0:Nat):Int):=b;omega
 exact#[λv H Q E h=>absurd h (n v H Q E),λA o s H a u v Q E _ _ _ _ h=>absurd h (n v H Q E)]
theorem DG(F:ti K "_law_term" rA f a)(b:aE K a z10z [])(m:mg "_law_term"=↑f)(c:Cl P w K mg base 1 g d z0z a7 "_law_take")(C:Cl P w K mg base 2 h e z2z iD "_law_number")(M:mg "len"=θ):
  ∀n:Nat,⇑(n+2) f a z10z (dq n)
 |0=>AV
 |n+1=>Bi F #[(DG F b m c C M n),b,F.kp,m] c C M
end _K
namespace _K
open PySem PySem.Spec PyProof.Rows _L
variable {P:ψ}{w:bF}{K:β}{mg:ρ->tT ζ}{base:cJ}
local macro_rules|`(‹$n›)=>do{let i:=Lean.mkIdent;`(_K.Cl $(i `P) $(i `w) $(i `K) $(i `mg) $(i `base) $n)}
noncomputable def Tm.vars:Tm->tz ρ
 | .num _=>[]
 | .var x=>[x]
 | .op _ a b=>a.vars++b.vars
theorem kK:∀{t:Tm},t.Good y->∀x∈t.vars,x∈y
 | .num _,_,_,h=>nomatch h
 | .var _,g,_,h=>by rwa[υ.mp h]
 | .op _ _ _,g,_,h=>(Ψ.mp h).elim (kK g.2.1 _) (kK g.2.2 _)
theorem kn:∀{l m:tz ρ},l.Nodup->(∀x∈l,x∈m)->l.length<=m.length
 | [],_,_,_=>NY _
 |x::l,m,n,h=>by rw[Vs]at n;let H:=h x Oe;let q:=kn (l:=l) (m:=m.erase x) n.2 λy a=>(List.mem_erase_of_ne (λe=>n.1 (by rwa[<- e]))).mpr (h y$ On _ a);rw[List.length_erase_of_mem H]at q;let:0 < m.length:=List.length_pos_of_mem H;rw[Oq];omega
theorem Qh:∀{l m:tz ρ},l.Nodup->m.Nodup->(∀x,x∈l↔x∈m)->l.Perm m
 | [],[],_,_,_=>.nil
 | [],y::m,_,_,h=>absurd ((h y).mpr Oe) WN
 |x::l,m,n,N,h=>by
  rw[Vs]at n;let a:x∈m:=(h x).mp Oe;refine(List.Perm.cons x$ Qh n.2 (N.erase x) λy=>?_).trans (List.perm_cons_erase a).symm;rw[N.mem_erase_iff];constructor
  .intro H;exact#[λe=>n.1 (by rw[<- e];exact H),(h y).mp$ On _ H]
  .rintro ⟨b,H⟩;exact(Θ.mp ((h y).mpr H)).resolve_left b
theorem Q5:∀{p:ρ} {l:tz ρ},risingS p l=μ->(p::l).Pairwise λa b=>a.cps.toList<=b.cps.toList
 |p,[],_=>by simp
 |p,x::r,h=>by
  let H:(!ltCps x.cps.toList p.cps.toList&&risingS x r)=μ:=h;rw[Pa]at H;let i:=Q5 H.2;let c:p.cps.toList<=x.cps.toList:=by let z:=H.1;rw[ltCps_eq]at z;simpa using z
  rw[kr]at i ⊢;refine#[λy hy=>?_,kr.mpr i];rcases Θ.mp hy with rfl |hy
  .exact c
  .exact List.le_trans c$ i.1 y hy
def Q6(h:sortedS l=μ):l.Pairwise λa b=>a.cps.toList<=b.cps.toList:=by
 cases l with
 |nil=>exact .nil
 |cons x r=>exact Q5 h
def YH{l:tz ρ}(p:l.Perm m)(h:sortedS l=μ)(H:sortedS m=μ):l=m:=by erw[List.Perm.eq_of_pairwise (λa b _ _ x y=>?_) (Q6 h) (Q6 H) p];let e:=List.le_antisymm x y;cases a;cases b;exact O1 Str.mk$ Array.toList_inj.mp e
inductive Lf where
 |rd (x:ρ) (t:η) (T:Tm)
 |st (x:ρ) (t:η) (T:Tm)
 |wr (t u:η) (T U:Tm)
 |cl (x f:ρ) (q:η) (ts:List (η×Tm))
 |gv (t:η) (T:Tm)
def Aj(H:Hp):Lf->tz V->Prop
 | .rd x t T,v=>v=[.str "read",.str x,.ref t]/\bG H T t
 | .st x t T,v=>v=[.str "set",.str x,.ref t]/\bG H T t
 | .wr t u T U,v=>v=[.str "write",.ref t,.ref u]/\bG H T t/\bG H U u
 | .cl x f q a,v=>v=[.str "call",.str x,.str f,.ref q]/\H q=δ (.tup (a.map λc=>tf c.1))/\∀c∈a,bG H c.2 c.1
 | .gv t T,v=>v=[.str "give",.ref t]/\bG H T t
theorem Aj.mono(k:am H a)(h:Aj H l v):Aj a l v:=by
 cases l with
 |rd x t T |st x t T |gv t T=>exact#[h.1,h.2.mono k]
 |wr t u T U=>exact#[h.1,h.2.1.mono k,h.2.2.mono k]
 |cl x f q d=>exact#[h.1,k _ _ h.2.1,λc b=>(h.2.2 c b).mono k]
inductive Bd where
 |nil
 |lf (p:η) (l:Lf) (r:Bd)
 |ite (p t:η) (T:Tm) (a b r:Bd)
 |loop (p t:η) (T:Tm) (a r:Bd)
noncomputable def Bd.app:Bd->Bd->Bd
 | .nil,s=>s
 | .lf p l r,s=>.lf p l (r.app s)
 | .ite p t T a b r,s=>.ite p t T a b (r.app s)
 | .loop p t T a r,s=>.loop p t T a (r.app s)
noncomputable def Bd.size:Bd->Nat
 | .nil=>0
 | .lf _ _ r=>r.size+1
 | .ite _ _ _ a b r=>a.size+b.size+r.size+1
 | .loop _ _ _ a r=>a.size+r.size+1
noncomputable def Bd.dep:Bd->Nat
 | .nil=>0
 | .lf _ _ r=>r.dep
 | .ite _ _ _ a b r=>max (max a.dep b.dep+1) r.dep
 | .loop _ _ _ a r=>max (a.dep+1) r.dep
def dI(y:tz ρ)(T:Tm):Prop:=T.Good y/\T.depth < 6
def Lf.Ok(y:tz ρ):Lf->Prop
 | .rd x _ T | .st x _ T=>x∈y/\dI y T
 | .wr _ _ T U=>dI y T/\dI y U
 | .cl x _ _ t=>x∈y/\t.length<=6/\∀c∈t,dI y c.2
 | .gv _ T=>dI y T
def Bd.Ok(y:tz ρ):Bd->Prop
 | .nil=>True
 | .lf _ l r=>l.Ok y/\r.Ok y
 | .ite _ _ T a b r=>dI y T/\a.Ok y/\b.Ok y/\r.Ok y
 | .loop _ _ T a r=>dI y T/\a.Ok y/\r.Ok y
abbrev iS:=tz (ρ×Nat)
def Lf.Cs(F:iS):Lf->Prop
 | .cl _ f _ t=>(f,t.length)∈F
 |_=>True
def Bd.Cs(F:iS):Bd->Prop
 | .nil=>True
 | .lf _ l r=>l.Cs F/\r.Cs F
 | .ite _ _ _ a b r=>a.Cs F/\b.Cs F/\r.Cs F
 | .loop _ _ _ a r=>a.Cs F/\r.Cs F
theorem KN{F:iS}:∀{a b:Bd},a.Cs F->b.Cs F->(a.app b).Cs F
 | .nil,_,_,h=>h
 | .lf _ _ _,_,h,k=>#[h.1,KN h.2 k]
 | .ite _ _ _ _ _ _,_,h,k=>#[h.1,h.2.1,KN h.2.2 k]
 | .loop _ _ _ _ _,_,h,k=>#[h.1,KN h.2 k]
theorem kL{F:iS}(k:∀f∈F,f∈G):∀{a:Bd},a.Cs F->a.Cs G
 | .nil,_=>trivial
 | .lf _ l _,h=>#[by cases l<;>first |exact k _ h.1 |trivial,kL k h.2]
 | .ite _ _ _ _ _ _,h=>#[kL k h.1,kL k h.2.1,kL k h.2.2]
 | .loop _ _ _ _ _,h=>#[kL k h.1,kL k h.2]
noncomputable def Lf.calls:Lf->iS
 | .cl _ f _ t=>[(f,t.length)]
 |_=>[]
noncomputable def Bd.calls:Bd->iS
 | .nil=>[]
 | .lf _ l r=>l.calls++r.calls
 | .ite _ _ _ a b r=>a.calls++(b.calls++r.calls)
 | .loop _ _ _ a r=>a.calls++r.calls
theorem zT:∀b:Bd,b.Cs b.calls
 | .nil=>trivial
 | .lf _ l r=>#[by cases l<;>first |exact mm _ List.mem_cons_self |trivial,kL (λ_ h=>ir _ h) (zT r)]
 | .ite _ _ _ a b r=>#[kL (λ_ h=>mm _ h) (zT a),kL (λ_ h=>ir _ (mm _ h)) (zT b),kL (λ_ h=>ir _ (ir _ h)) (zT r)]
 | .loop _ _ _ a r=>#[kL (λ_ h=>mm _ h) (zT a),kL (λ_ h=>ir _ h) (zT r)]
theorem zU{F:iS}:∀{b:Bd},b.Cs F->∀f∈b.calls,f∈F
 | .nil,_,_,h=>nomatch h
 | .lf _ l r,k,f,h=>(Ψ.mp h).elim (λh=>by cases l<;>first | (rw[υ.mp h];exact k.1) |exact nomatch h) (zU k.2 f)
 | .ite _ _ _ a b r,k,f,h=>(Ψ.mp h).elim (zU k.1 f) λh=>(Ψ.mp h).elim (zU k.2.1 f) (zU k.2.2 f)
 | .loop _ _ _ a r,k,f,h=>(Ψ.mp h).elim (zU k.1 f) (zU k.2 f)
theorem j9:∀(a b:Bd),(a.app b).size=a.size+b.size
 | .nil,b=>by show b.size=0+b.size;omega
 | .lf _ _ r,b=>by let:=j9 r b;show(r.app b).size+1=r.size+1+b.size;omega
 | .ite _ _ _ x y r,b=>by let:=j9 r b;show x.size+y.size+(r.app b).size+1=x.size+y.size+r.size+1+b.size;omega
 | .loop _ _ _ x r,b=>by let:=j9 r b;show x.size+(r.app b).size+1=x.size+r.size+1+b.size;omega
theorem zB:∀(a b:Bd),(a.app b).dep=max a.dep b.dep
 | .nil,b=>(Nat.zero_max b.dep).symm
 | .lf _ _ r,b=>zB r b
 | .ite _ _ _ x y r,b | .loop _ _ _ x r,b=>by show max _ (r.app b).dep=max (max _ r.dep) b.dep;rw[zB r b,VT]
theorem KO:∀{a b:Bd},a.Ok y->b.Ok y->(a.app b).Ok y
 | .nil,_,_,h=>h
 | .lf _ _ _,_,g,h=>#[g.1,KO g.2 h]
 | .ite _ _ _ _ _ _,_,g,h=>#[g.1,g.2.1,g.2.2.1,KO g.2.2.2 h]
 | .loop _ _ _ _ _,_,g,h=>#[g.1,g.2.1,KO g.2.2 h]
def dX(H:Hp):Bd->tz V->Prop
 | .nil,x=>x=[]
 | .lf p l r,x=>∃v y,x= .ref p::y/\H p=δ (.tup v)/\Aj H l v/\dX H r y
 | .ite p t T a b r,x=>∃q Q A B y,x= .ref p::y/\H p=δ (.tup [.str "if",.ref t,.ref q,.ref Q])/\bG H T t/\H q=δ (.tup A)/\H Q=δ (.tup B)/\dX H a A/\dX H b B/\dX H r y
 | .loop p t T a r,x=>∃q A y,x= .ref p::y/\H p=δ (.tup [.str "while",.ref t,.ref q])/\bG H T t/\H q=δ (.tup A)/\dX H a A/\dX H r y
theorem dX.mono(k:am H m):∀{x:tz V},dX H a x->dX m a x:=by
 induction a with
 |nil=>exactλh=>h
 |lf p l r n=>rintro x ⟨v,y,e,c,d,f⟩;exact#[v,y,e,k _ _ c,d.mono k,n f]
 |ite p t T a b r i o I=>rintro x ⟨q,Q,A,B,y,e,c,g,d,f,j,s,u⟩;exact#[q,Q,A,B,y,e,k _ _ c,g.mono k,k _ _ d,k _ _ f,i j,o s,I u]
 |loop p t T a r i I=>rintro x ⟨q,A,y,e,c,g,d,f,j⟩;exact#[q,A,y,e,k _ _ c,g.mono k,k _ _ d,i f,I j]
theorem dX.app(k:dX H b y):∀{x:tz V},dX H a x->dX H (a.app b) (x++y):=by
 induction a with
 |nil=>intro x h;let e:x=[]:=h;rwa[e]
 |lf p l r I=>rintro x ⟨v,z,e,c,d,f⟩;exact#[v,z++y,by rw[e];rfl,c,d,I f]
 |ite p t T a b r _ _ i=>rintro x ⟨q,Q,A,B,z,e,c,g,d,f,j,m,n⟩;exact#[q,Q,A,B,z++y,by rw[e];rfl,c,g,d,f,j,m,i n]
 |loop p t T a r _ i=>rintro x ⟨q,A,z,e,c,g,d,f,j⟩;exact#[q,A,z++y,by rw[e];rfl,c,g,d,f,i j]
def dX.len{a:Bd}:∀{xs:tz V},dX H a xs->xs.length<=a.size:=by
 induction a with
 |nil=>intro xs h;let e:xs=[]:=h;rw[e];exact NQ 0
 |lf p l r I=>rintro xs ⟨v,y,e,d,f,c⟩;rw[e];exact Pq (I c)
 |ite p t T a b r _ _ i=>rintro xs ⟨q,Q,A,B,y,e,d,j,f,c,g,m,k⟩;rw[e];exact Pq (N6 (i k) (VA _ _))
 |loop p t T a r _ i=>rintro xs ⟨q,A,y,e,d,j,f,c,g⟩;rw[e];exact Pq (N6 (i g) (VA _ _))
inductive iG(H:Hp):V->Bd->Prop
 |lf (p:η) (l:Lf) (vs:List V) (h1:H p=δ (.tup vs)) (h2:Aj H l vs):iG H (.ref p) (.lf p l .nil)
 |ite (p t:η) (T:Tm) (a b:Bd) (qa qb:η) (as bs:List V) (h1:H p=δ (.tup [.str "if",.ref t,.ref qa,.ref qb])) (h0:bG H T t) (h2:H qa=δ (.tup as)) (h3:H qb=δ (.tup bs)) (h4:dX H a as) (h5:dX H b bs):iG H (.ref p) (.ite p t T a b .nil)
 |loop (p t:η) (T:Tm) (a:Bd) (qa:η) (as:List V) (h1:H p=δ (.tup [.str "while",.ref t,.ref qa])) (h0:bG H T t) (h2:H qa=δ (.tup as)) (h3:dX H a as):iG H (.ref p) (.loop p t T a .nil)
def iG.bd(h:iG H v s):dX H s [v]:=by
 cases h with
 |lf p l V c d=>exact#[V,[],Z,c,d,Z]
 |ite p t T a b q Q A B c e d f g i=>exact#[q,Q,A,B,[],Z,c,e,d,f,g,i,Z]
 |loop p t T a q A c e d f=>exact#[q,A,[],Z,c,e,d,f,Z]
theorem iG.mono(k:am H g)(h:iG H v s):iG g v s:=by
 cases h with
 |lf p l V c d=>exact .lf p l V (k _ _ c) (d.mono k)
 |ite p t T a b q Q A B c e d f i j=>exact .ite p t T a b q Q A B (k _ _ c) (e.mono k) (k _ _ d) (k _ _ f) (i.mono k) (j.mono k)
 |loop p t T a q A c e d f=>exact .loop p t T a q A (k _ _ c) (e.mono k) (k _ _ d) (f.mono k)
def dX.last:∀{x:tz V},dX H a x->x=[]/\a= .nil∨∃z v b s,x=z++[v]/\a=b.app s/\dX H b z/\iG H v s:=by
 induction a with
 |nil=>exactλh=>.inl #[h,Z]
 |lf p l r i=>
  rintro x ⟨u,y,e,f,g,n⟩;rcases i n with ⟨E,d⟩ | ⟨z,v,b,s,E,d,j,k⟩
  .exact .inr #[[],.ref p,.nil,.lf p l .nil,by rw[e,E];rfl,by rw[d];rfl,Z,.lf p l u f g]
  .exact .inr #[.ref p::z,v,.lf p l b,s,by rw[e,E];rfl,by rw[d];rfl,#[u,z,Z,f,g,j],k]
 |ite p t T a b r _ _ i=>
  rintro x ⟨q,Q,A,B,y,e,f,m,g,n,G,C,o⟩;rcases i o with ⟨E,d⟩ | ⟨z,v,c,s,E,d,j,k⟩
  .exact .inr #[[],.ref p,.nil,.ite p t T a b .nil,by rw[e,E];rfl,by rw[d];rfl,Z,.ite p t T a b q Q A B f m g n G C]
  .exact .inr #[.ref p::z,v,.ite p t T a b c,s,by rw[e,E];rfl,by rw[d];rfl,#[q,Q,A,B,z,Z,f,m,g,n,G,C,j],k]
 |loop p t T a r _ i=>
  rintro x ⟨q,A,y,e,f,m,g,G,o⟩;rcases i o with ⟨E,d⟩ | ⟨z,v,c,s,E,d,j,k⟩
  .exact .inr #[[],.ref p,.nil,.loop p t T a .nil,by rw[e,E];rfl,by rw[d];rfl,Z,.loop p t T a q A f m g G]
  .exact .inr #[.ref p::z,v,.loop p t T a c,s,by rw[e,E];rfl,by rw[d];rfl,#[q,A,z,Z,f,m,g,G,j],k]
theorem qf:∀{a b:Bd},(a.app b).Ok y->a.Ok y/\b.Ok y
 | .nil,_,h=>#[trivial,h]
 | .lf _ _ _,_,h=>#[#[h.1,(qf h.2).1],(qf h.2).2]
 | .ite _ _ _ _ _ _,_,h=>#[#[h.1,h.2.1,h.2.2.1,(qf h.2.2.2).1],(qf h.2.2.2).2]
 | .loop _ _ _ _ _,_,h=>#[#[h.1,h.2.1,(qf h.2.2).1],(qf h.2.2).2]
structure Nm(ss:tz ρ)(M:ρ->Prop):Prop where
 nd:ss.Nodup
 so:sortedS ss=μ
 mem:∀x,x∈ss↔M x
def Nm.uniq(h:Nm a M)(g:Nm s M):a=s:=YH (Qh h.nd g.nd λx=>(h.mem x).trans (g.mem x).symm) h.so g.so
open Classical in
def canon(M:ρ->Prop):tz ρ:=if h:∃s,Nm s M then Classical.choose h else []
theorem Nm.canon(h:Nm s M):s=canon M:=by let e:∃s,Nm s M:=#[s,h];unfold _K.canon;rw[dif_pos e];exact h.uniq$ Classical.choose_spec e
def Nm.len{s y:tz ρ}{M:ρ->Prop}(h:Nm s M)(H:∀x,M x->x∈y):s.length<=y.length:=kn h.nd λx a=>H x ((h.mem x).mp a)
def Lf.use(M:ρ->Prop):Lf->ρ->Prop
 | .rd x _ T,y | .st x _ T,y=>(M y/\y≠x)∨y∈T.vars
 | .wr _ _ T U,y=>M y∨y∈T.vars∨y∈U.vars
 | .cl x _ _ t,y=>(M y/\y≠x)∨∃c∈t,y∈c.2.vars
 | .gv _ T,y=>y∈T.vars
def Bd.use:Bd->(ρ->Prop)->ρ->Prop
 | .nil,M=>M
 | .lf _ l r,M=>l.use (r.use M)
 | .ite _ _ T a b r,M=>λy=>(a.use (r.use M) y∨b.use (r.use M) y)∨y∈T.vars
 | .loop _ _ T a r,M=>λy=>(a.use (λ_=>False) y∨r.use M y)∨y∈T.vars
theorem Kj:∀(a b:Bd) (M:ρ->Prop),(a.app b).use M=a.use (b.use M)
 | .nil,_,_=>rfl
 | .lf _ l r,b,M=>by show l.use ((r.app b).use M)=l.use (r.use (b.use M));rw[Kj r b M]
 | .ite _ _ T x y r,b,M=>by show(λz=>(x.use ((r.app b).use M) z∨y.use ((r.app b).use M) z)∨z∈T.vars)=λz=>(x.use (r.use (b.use M)) z∨y.use (r.use (b.use M)) z)∨z∈T.vars;rw[Kj r b M]
 | .loop _ _ T x r,b,M=>by show(λz=>(x.use (λ_=>False) z∨(r.app b).use M z)∨z∈T.vars)=λz=>(x.use (λ_=>False) z∨r.use (b.use M) z)∨z∈T.vars;rw[Kj r b M]
def Lf.use_in{M:ρ->Prop}{l:Lf}(h:l.Ok Y)(a:∀x,M x->x∈Y):∀y,l.use M y->y∈Y:=by
 intro y H;cases l with
 |rd x t T |st x t T=>exact H.elim (λz=>a y z.1) (kK h.2.1 y)
 |wr t u T U=>exact H.elim (a y) λz=>z.elim (kK h.1.1 y) (kK h.2.1 y)
 |cl x f q d=>exact H.elim (λz=>a y z.1) λ#[c,b,z]=>kK (h.2.2 c b).1 y z
 |gv t T=>exact kK h.1 y H
theorem Bd.use_in:∀{b:Bd} {M:ρ->Prop},b.Ok Y->(∀x,M x->x∈Y)->∀y,b.use M y->y∈Y
 | .nil,_,_,H,y,c=>H y c
 | .lf _ l r,_,h,H,y,c=>Lf.use_in h.1 (Bd.use_in h.2 H) y c
 | .ite _ _ T a b r,_,h,H,y,c=>c.elim (λz=>z.elim (Bd.use_in h.2.1 (Bd.use_in h.2.2.2 H) y) (Bd.use_in h.2.2.1 (Bd.use_in h.2.2.2 H) y)) (kK h.1.1 y)
 | .loop _ _ T a r,_,h,H,y,c=>c.elim (λz=>z.elim (Bd.use_in h.2.1 (λ_ w=>w.elim) y) (Bd.use_in h.2.2 H y)) (kK h.1.1 y)
noncomputable abbrev fj:cc:=bQ 14
noncomputable abbrev Gb:cc:=bQ 40
noncomputable abbrev xV:cc:=bQ 41
noncomputable abbrev BS:cc:=bQ 42
noncomputable abbrev BR:cc:=bQ 43
inductive dG(n:Nat)(c:tz V)(H:Hp)(Q:VK)(b:XK):Prop
 |mk(a:η)(T:Tm)(d:tz ρ)(_:c=[.ref a])(_:bG H T a)(_:T.depth < n)(_:T.Good d)(_:d.length<=21)(_:∀(r:η) (ss:tz ρ) (H':Hp),H r=θ->H' r=δ (.lst (ss.map rz))->ss.Nodup->(∀x,x∈ss↔x∈T.vars)->sortedS ss=μ->aa H H'->Q (.ref r) H')
def yf:aj z1z z1z (ae fj):=bN
def A9{f:η}{o:fJ}(F:ti K "names_in" fj f o){n:Nat}(C:‹n+1› f o z1z (dG n) "names_in")(M:mg "set"=θ)(p:mg "sorted"=θ):⇑(n+2) f o z1z (dG$ n+1):=by
 erw[F.ok yf (λc0 A O s H vs Q E v h=>?_)]
 let⟨a,T,Y,rfl,t,dp,g,j,q⟩:=h;refine#[_,(jd (jz (kh$ jy$ pv 0) (jg$ jo$ jE jb) jp)$ jd (jz (kh$ jy$ pv 0) (jg$ jo$ jE$ ja (jy$ pv 0) jb) jp)$ jg$ jo$ jM (qA Z) Z p Tp$ ja (jN (Jc Z) Z M WF$ ja (jx qp (C.e v$ ja (jy$ pv 0) jb)$ C.e v$ ja (jy$ pv 0) jb) jb) jb),?_];cases T with
 |num m=>have b:H a=δ (.tup [.str "num",.int m]):=t;refine(ju b Z #[Z,_,Z,c8 WO ?_]);exact#[WL,λr N=>q r [] _ N jc Te (λx=>Tw) Z (je N)]
 |var x=>have b:H a=δ (.tup [.str "var",.str x]):=t;refine(ju b Z #[Z,_,Z,aY WO ?_]);refine(ju b Z #[Z,_,Z,c8 WO ?_]);exact(ju b Z #[iQ,λr N=>q r [x] _ N jc WN (λy=>Tw) Z (je N)])
 |op i B D=>let⟨p1,p2,b,h1,h2⟩:=t;let d0:max B.depth D.depth+1 < n+1:=dp;refine(ju b Z #[Z,_,Z,aY WO ?_]);refine(ju b Z #[Z,_,Z,aY WO ?_]);refine(ju b Z #[p1,B,Y,Z,h1,WM,g.2.1,j,λr1 S H1 n1 e1 d1 G o1 u=>?_]);refine(ju (u _ _ b) Z #[p2,D,Y,Z,h2.same u,WM,g.2.2,j,λr2 k H2 n2 e2 d2 I o2 J=>?_]);let l1:S.length<=21:=N6 (kn d1 λx d=>kK g.2.1 x ((G x).mp d)) j;let l2:k.length<=21:=N6 (kn d2 λx d=>kK g.2.2 x ((I x).mp d)) j;let b0:=zR;refine#[r1,r2,_,_,Z,Z,J _ _ e1,e2,(by rw[NO,NO];omega),λc nc=>?_];refine#[c,S++k,Z,aH.of (by rw[jc,Ol]),(λL nd hs=>Ph (Pq$ kn nd hs) (by rw[NP];show S.length+k.length+1 < 4096;omega)),λl L nl dL R=>?_];let lL:=kn dL λx d=>(R x).mp d;rw[NP]at lL;refine#[l,L,Z,jc,WM,λz ss U W dz oz=>?_];let X:aa H (af (af H2 c$ .lst$ S.map rz++k.map rz) l$ LM P w l L):=(u.trans J).trans ((je nc).trans$ je nl);erw[q z ss _ (X.free U) jc (W.nodup_iff.mpr dz) (λx=>?_) oz$ X.trans$ je U];rw[W.mem_iff,R x,PX,G x,I x];exact Ψ.symm
def AU:⇑1 f d z1z (dG 0):=by
 let n:∀v H Q E,¬dG 0 v H Q E:=λv H Q E h=>by let⟨a,T,y,_,_,c,_⟩:=h;exact absurd c$ R0 _
 exact#[λv H Q E h=>absurd h (n v H Q E),λA o s H b u v Q E _ _ _ _ h=>absurd h (n v H Q E)]
theorem Dm(F:ti K "names_in" fj f a)(b:aE K a z1z [])(c:mg "names_in"=↑f)(m:mg "set"=θ)(M:mg "sorted"=θ):
  ∀n:Nat,⇑(n+1) f a z1z (dG n)
 |0=>AU
 |n+1=>A9 F #[(Dm F b c m M n),b,F.kp,c] m M
noncomputable def Lf.own:Lf->tz (η×Tm)
 | .rd _ t T | .st _ t T=>[(t,T)]
 | .wr t u T U=>[(t,T),(u,U)]
 | .cl _ _ _ a=>a
 | .gv t T=>[(t,T)]
noncomputable def Bd.own:Bd->tz (η×Tm)
 | .nil=>[]
 | .lf _ l _=>l.own
 | .ite _ t T _ _ _ | .loop _ t T _ _=>[(t,T)]
noncomputable def rT(c:η×Tm):V:=.ref c.1
inductive oe(b:tz V)(H:Hp)(Q:VK)(a:XK):Prop
 |mk(v:V)(s:Bd)(_:b=[v])(_:iG H v s)(_:∀(r:η) (H':Hp),H' r=δ (.tup (s.own.map rT))->aa H H'->Q (.ref r) H')
def ZZ:aW (a::b::r) (δ 1) (δ 2)=[b]:=by
 unfold aW;let e:(1:Int)=((1:Nat):Int):=rfl;let E:(2:Int)=((2:Nat):Int):=rfl;rw[E,e,HT.sIx_nat,HT.sIx_nat,Oq,Oq];let c:min 1 (r.length+1+1)=1:=by omega
 let d:min 2 (r.length+1+1) - 1=1:=by omega
 rw[c,d];rfl
def Ds:aj ["statement","word"] z5z (ae Gb):=bN
def Ff{f:η}{j:fJ}(F:ti K "own_terms" Gb f j):⇑1 f j z5z oe:=by
 erw[F.ok Ds λC A o s H V Q E d h=>?_]
 let⟨v,st,rfl,m,q⟩:=h;refine#[_,(jd (jA 1 Ds.nd$ jy$ pv 0)$ jd (jz (jD zF (pv 1) (ji$ ja jm$ ja jm jb) Z) (jg$ jo$ jJ j8 (pv 0) (jI jf) jT) jp)$ jd (jz (kh$ pv 1) (jg$ jo$ jJ j8 (pv 0) (jI jf) jT) jp)$ jd (jz (kh$ pv 1) (jg$ jo$ jy$ pv 0) jp)$ jg$ jo$ jJ j8 (pv 0) (jI jf)$ jI jf),?_];cases m with
 |lf p l V c g=>
  cases l with
  |rd x t T |st x t T=>let⟨rfl,i⟩:=g;refine(ju c Z #[_,Z,cj,λl n=>#[l,_,Z,.inr$ aC.of jc,Z,Z,_,Z,c8 WO ?_]]);exact#[_,Z,_,Z,p,_,Z,aq c n,λr e d s=>q r e d ((je n).trans s)]
  |wr t u T U=>let⟨rfl,i,L⟩:=g;refine(ju c Z #[_,Z,cj,λl n=>#[l,_,Z,.inr$ aC.of jc,Z,Z,_,Z,aY WO ?_]]);refine#[_,Z,Z,_,Z,c8 WO ?_];exact#[_,Z,_,Z,p,_,Z,aq c n,λr e d s=>q r e d ((je n).trans s)]
  |cl x M y N=>let⟨rfl,z,i⟩:=g;refine(ju c Z #[_,Z,cj,λl n=>#[l,_,Z,.inr$ aC.of jc,Z,Z,_,Z,aY WO ?_]]);refine#[_,Z,Z,_,Z,aY WO ?_];refine#[_,Z,Z,_,Z,c8 WO ?_];exact(ju (aq c n) Z$ q y _ (aq z n)$ je n)
  |gv t T=>let⟨rfl,i⟩:=g;refine(ju c Z #[_,Z,cj,λl n=>#[l,_,Z,.inr$ aC.of jc,Z,Z,_,Z,aY WO ?_]]);refine#[_,Z,Z,_,Z,aY WO ?_];refine#[_,Z,Z,_,Z,aY WO ?_];exact#[_,Z,_,Z,_,Z,p,_,Z,aq c n,λr e d s=>q r e (by rw[ZZ]at d;exact d) ((je n).trans s)]
 |ite p t T a b B O D R c G g I S W |loop p t T a B D c G g I=>refine(ju c Z #[_,Z,cj,λl n=>#[l,_,Z,.inr$ aC.of jc,Z,Z,_,Z,aY WO ?_]]);refine#[_,Z,Z,_,Z,aY WO ?_];refine#[_,Z,Z,_,Z,aY WO ?_];exact#[_,Z,_,Z,_,Z,p,_,Z,aq c n,λr e d s=>q r e (by rw[ZZ]at d;exact d) ((je n).trans s)]
def Qi{K:β}{a:η}{Y:tz ρ}{t:TT}{T:TE}{q:tz V->Hp->Prop}{b:_L.St}{H:Hp}(f:ρ->Bool)(L:Y.length<=1000)(A:H a=δ (.lst$ Y.map rz))
  (B:∀y g (Q:Bool->Hp->Prop),y∈Y->aa H g->(∀j,aa g j->Q (f y) j)->t (δ (.str y)::b) g Q)
  (C:∀y g (Q:VK),y∈Y->Q (.str y) g->T (δ (.str y)::b) g Q) (D:∀c,aa H c->q ((Y.filter f).map rz) c):dY (y9 K a) 1 b (bp 0) t T q H:=by
 let F:=zR;refine#[λi m n c=>m=Y.length - i/\i<=Y.length/\n=((Y.take i).filter f).map rz/\aa H c,#[Y.length,WN,NY _,WN,aa.refl H],?_];rintro i m n c ⟨rfl,M,rfl,k⟩;let d:aH K c a (Y.map rz):=aH.of (k _ _ A);by_cases h:i < Y.length
 .let o:(Y.map rz)[i]?=δ (.str Y[i]):=by rw[Od,NK h];rfl
  erw[.inr #[#[_,_,d,o],?_,λz j=>z=((Y.take$ i+1).filter f).map rz/\aa H j,λz j #[G,I]=>#[Y.length - (i+1),WM,Z,h,G,I],λv j N l y=>?_]]
  .rw[NO];let:=RO f (Y.take i);rw[Oh]at this;omega
  let⟨e,y⟩:=y;subst e;let p:=y _ d;rw[o]at p;cases p;let⟨w,rfl⟩:=oQ l;let r:Y[i]∈Y:=RQ h;let s:Y.take (i+1)=Y.take i++[Y[i]]:=by rw[OU,NK h];rfl
  refine#[#[[δ _],Z,Z],B Y[i] _ _ r k λJ u=>?_];cases x:f Y[i] with
  |true=>
   erw[c8 Z$ C Y[i] J _ r #[?_,k.trans u]];rw[s,RC,Ol];let E:[Y[i]].filter f=[Y[i]]:=by simp [x]
   rw[E];rfl
  |false=>
   erw[aY Z #[?_,k.trans u]];rw[s,RC,Ol];let E:[Y[i]].filter f=[]:=by simp [x]
   rw[E];simp
 .let e:i=Y.length:=by omega
  subst e;erw[.inl #[#[_,d,WN],?_]];rw[O0$ NQ _];exact D c k
def Lf.bt(M:ρ->Prop):Lf->ρ->Prop
 | .rd x _ _,y | .st x _ _,y=>M y/\y≠x
 | .wr _ _ _ _,y=>M y
 | .cl x _ _ _,y=>M y/\y≠x
 | .gv _ _,_=>False
def Bd.bt(M:ρ->Prop):Bd->ρ->Prop
 | .nil,y=>M y
 | .lf _ l _,y=>l.bt M y
 | .ite _ _ _ a b _,y=>a.use M y∨b.use M y
 | .loop _ _ _ a _,y=>a.use (λ_=>False) y∨M y
def yR(h:iG H v s)(M:ρ->Prop)(y:ρ):s.use M y↔s.bt M y∨∃c∈s.own,y∈c.2.vars:=by
 cases h with
 |lf p l V _ _=>
  cases l with
  |rd x t T |st x t T=>exact#[λz=>z.elim .inl λw=>.inr #[_,υ.mpr Z,w],λz=>z.elim .inl λ#[c,hc,w]=>.inr (by rw[υ.mp hc]at w;exact w)]
  |wr t u T U=>
   refine#[λz=>z.elim .inl λw=>.inr (w.elim (λw=>#[_,Oe ..,w]) λw=>#[_,On _$ υ.mpr Z,w]),λz=>z.elim .inl λ#[c,hc,w]=>.inr ?_];rcases Θ.mp hc with e |hc
   .rw[e]at w;exact .inl w
   .rw[υ.mp hc]at w;exact .inr w
  |cl x f q d=>exact Tw
  |gv t T=>exact#[λw=>.inr #[_,υ.mpr Z,w],λz=>z.elim False.elim λ#[c,hc,w]=>by rw[υ.mp hc]at w;exact w]
 |ite p t T a b Q g A B _ _ _ _ _ _ |loop p t T a Q A _ _ _ _=>exact#[λz=>z.elim .inl λw=>.inr #[_,υ.mpr Z,w],λz=>z.elim .inl λ#[c,hc,w]=>.inr (by rw[υ.mp hc]at w;exact w)]
structure NL(H:Hp)(g:η)(ss:tz ρ)(M:ρ->Prop)(ys:tz ρ):Prop where
 at':H g=δ (.lst$ ss.map rz)
 nm:Nm ss M
 sub:∀x,M x->x∈ys
 y20:ys.length<=21
theorem NL.len{H:Hp}{g:η}{s:tz ρ}{M:ρ->Prop}{y:tz ρ}(h:NL H g s M y):s.length<=21:=N6 (h.nm.len h.sub) h.y20
def NL.same(h:NL H g a M y)(s:aa H b):NL b g a M y:=#[s _ _ h.at',h.nm,h.sub,h.y20]
structure NU(H:Hp)(g:η)(ss:tz ρ)(M:ρ->Prop)(ys:tz ρ):Prop where
 at':H g=δ (.lst$ ss.map rz)
 nd:ss.Nodup
 mem:∀x,x∈ss↔M x
 sub:∀x,M x->x∈ys
 y20:ys.length<=21
def NL.nu(h:NL H g s M y):NU H g s M y:=#[h.at',h.nm.nd,h.nm.mem,h.sub,h.y20]
inductive yx(n:Nat)(c:tz V)(H:Hp)(Q:VK)(a:XK):Prop
 |mk(v:V)(g:η)(s:Bd)(b:tz ρ)(M:ρ->Prop)(d:tz ρ)(_:c=[v,.ref g])(_:iG H v s)(_:NL H g b M d)(_:s.Ok d)(_:s.dep < n+1)(_:s.size<=10000000)(_:∀(r:η) (zs:tz ρ) (H':Hp),H' r=δ (.lst (zs.map rz))->(∀y,y∈zs↔s.bt M y)->zs.length<=50->aa H H'->Q (.ref r) H')
inductive gU(n:Nat)(c:tz V)(H:Hp)(Q:VK)(a:XK):Prop
 |mk(v:V)(g:η)(s:Bd)(b:tz ρ)(M:ρ->Prop)(d:tz ρ)(_:c=[v,.ref g])(_:iG H v s)(_:NL H g b M d)(_:s.Ok d)(_:s.dep < n+1)(_:s.size<=10000000)(_:∀(r:η) (zs:tz ρ) (H':Hp),H r=θ->NL H' r zs (s.use M) d->aa H H'->Q (.ref r) H')
inductive lF(n:Nat)(e:tz V)(H:Hp)(Q:VK)(c:XK):Prop
 |mk(a g:η)(b:Bd)(f:tz V)(d:tz ρ)(M:ρ->Prop)(h:tz ρ)(_:e=[.ref a,.ref g])(_:H a=δ (.tup f))(_:dX H b f)(_:NU H g d M h)(_:b.Ok h)(_:b.dep < n)(_:b.size<=10000000)(_:∀(r:η) (zs:tz ρ) (H':Hp),H r=θ->NL H' r zs (b.use M) h->aa H H'->Q (.ref r) H')
def Nm.empty:Nm [] (λ_=>False):=#[Te,Z,λx=>#[λh=>absurd h Ov,False.elim]]
def Dw:aj ["statement","behind","word"] z3z (ae xV):=bN
noncomputable def yn:hY:=#[.function,[(".0",.local),("name",.local),("statement",.free)],ν,ν,[]]
def Iu:(["name","statement"]:tz ρ).Nodup:=by decide+kernel
def HM:ba ["statement","behind","word"] (ae xV) yn ["name","statement"] 1 [0]:=oM
def wL{L n:Nat}(F:ti K "used_behind_terms" xV f fd)(J:‹L› fA f0 z15z (lF n) "used_ahead"):⇑(L+1) f fd z3z (yx n):=by
 erw[F.ok Dw λc0 A O s H vs Q E R h=>?_]
 let⟨v,g,st,G,M,Y,rfl,hs,c,W,hd,hz,q⟩:=h;refine#[_,(jd (jA 2 Dw.nd$ jy$ pv 0)$ jd (jz (jD zF (pv 2) (ji$ ja jm$ ja jm$ ja jm jb) Z) (jg$ jo$ @zp _ _ _ _ _ _ _ (["name","statement"]) (1) ([0]) _ _ _ _ Z (zj$ pv 1) HM (λ_ _ _ _ _=>(jw (i:=0) Iu Z$ ω Z)) (λ_ _ _ _ _=>(@KK _ _ _$ jD ZE (pv 0) (jr (r:=cR K) jL (pv 1) jf (λ_ _=>Z))$ aI _)) (λ_ _ _ _ _=>(pv 0)) (by intro _;rfl)) jp)$ jd (jz (kh$ pv 2) (jg$ jo$ jx qp (J.e R.m$ ja (jy$ pv 0)$ ja (pv 1) jb)$ J.e R.m$ ja (jy$ pv 0)$ ja (pv 1) jb) jp)$ jd (jz (kh$ pv 2) (jg$ jo$ jx qp (J.e R.m$ ja (jy$ pv 0)$ ja (jE jb) jb)$ pv 1) jp)$ jd (jz (kh$ pv 2) (jg$ jo$ jE jb) jp)$ jg$ jo$ pv 1),?_];let g0:=c.len;cases hs with
 |lf p l vs d B=>
  cases l with
  |rd x t T |st x t T=>
   let⟨rfl,X⟩:=B;refine(ju d Z #[_,Z,hZ,λl N=>#[l,_,Z,.inr$ aC.of jc,Z,Z,_,Z,c8 WO ?_]]);let S:aa H (af H l$ .tup [.str "set",.str "read",.str "call"]):=je N;refine#[_,Z,g,Z,#[_,aH.of$ S _ _ c.at'],Qi (λy=>!decide (rz y=rz x)) WM (S _ _ c.at') (λy I Q' hy k C=>?_) (λy I Q' hy C=>#[_,Z,C]) λH' k r j=>?_]
   .exact#[_,Z,ju (k _ _$ S _ _ d) Z #[Z,_,Z,C _$ aa.refl _]]
   .refine q r _ _ jc (λy=>?_) (N6 (RO ..) WM) ((S.trans k).trans$ je j);rw[Vu,c.nm.mem y];exact and_congr_right λ_=>by simp
  |wr t u T U=>let⟨rfl,X,hU⟩:=B;refine(ju d Z #[_,Z,hZ,λl N=>#[l,_,Z,.inr$ aC.of jc,Z,Z,_,Z,aY WO ?_]]);refine#[_,Z,Z,_,Z,aY WO ?_];refine#[_,Z,Z,_,Z,aY WO ?_];refine#[_,Z,Z,_,Z,aY WO ?_];exact#[_,Z,q g G _ (aq c.at' N) c.nm.mem WM$ je N]
  |cl x f' q' ts=>
   let⟨rfl,h8,X⟩:=B;refine(ju d Z #[_,Z,hZ,λl N=>#[l,_,Z,.inr$ aC.of jc,Z,Z,_,Z,c8 WO ?_]]);let S:aa H (af H l$ .tup [.str "set",.str "read",.str "call"]):=je N;refine#[_,Z,g,Z,#[_,aH.of$ S _ _ c.at'],Qi (λy=>!decide (rz y=rz x)) WM (S _ _ c.at') (λy I Q' hy k C=>?_) (λy I Q' hy C=>#[_,Z,C]) λH' k r j=>?_]
   .exact#[_,Z,ju (k _ _$ S _ _ d) Z #[Z,_,Z,C _$ aa.refl _]]
   .refine q r _ _ jc (λy=>?_) (N6 (RO ..) WM) ((S.trans k).trans$ je j);rw[Vu,c.nm.mem y];exact and_congr_right λ_=>by simp
  |gv t T=>let⟨rfl,X⟩:=B;refine(ju d Z #[_,Z,hZ,λl N=>#[l,_,Z,.inr$ aC.of jc,Z,Z,_,Z,aY WO ?_]]);refine#[_,Z,Z,_,Z,aY WO ?_];refine#[_,Z,Z,_,Z,aY WO ?_];refine#[_,Z,Z,_,Z,c8 WO ?_];exact#[fc,λr j=>q r [] _ jc (λy=>#[λh=>absurd h Ov,λh=>(show False from h).elim]) (NY _) ((je N).trans$ je j)]
 |ite p t T a b qa qb as bs d h0 B h3 h4 h5=>refine(ju d Z #[_,Z,hZ,λl N=>#[l,_,Z,.inr$ aC.of jc,Z,Z,_,Z,aY WO ?_]]);refine#[_,Z,Z,_,Z,c8 WO ?_];let S:aa H (af H l$ .tup [.str "set",.str "read",.str "call"]):=je N;let h6:max (max a.dep b.dep+1) 0 < n+1:=hd;let h7:a.size+b.size+0+1<=10000000:=hz;refine(ju (S _ _ d) Z #[_,Z,qa,g,a,as,G,M,Y,Z,S _ _ B,h4.mono$ aa.tm S,(c.same S).nu,W.2.1,WM,WM,λr1 z1 I _ D k1=>?_]);let z:=S.trans k1;refine(ju (z _ _ d) Z #[_,Z,qb,g,b,bs,G,M,Y,Z,z _ _ h3,h5.mono$ aa.tm z,(c.same z).nu,W.2.2.1,WM,WM,λr2 z2 H2 _ n2 k2=>?_]);let l1:=D.len;let l2:=n2.len;let b0:=zR;refine#[r1,r2,_,_,Z,Z,k2 _ _ D.at',n2.at',by rw[NO,NO];omega,λr j=>q r (z1++z2) _ (by rw[jc,Ol]) (λy=>?_) (by rw[NP];omega) ((z.trans k2).trans$ je j)];rw[PX,D.nm.mem y,n2.nm.mem y];exact Tw
 |loop p t T a qa as d h0 B h3=>refine(ju d Z #[_,Z,hZ,λl N=>#[l,_,Z,.inr$ aC.of jc,Z,Z,_,Z,aY WO ?_]]);refine#[_,Z,Z,_,Z,aY WO ?_];refine#[_,Z,Z,_,Z,c8 WO ?_];let S:aa H (af H l$ .tup [.str "set",.str "read",.str "call"]):=je N;let h6:max (a.dep+1) 0 < n+1:=hd;let h7:a.size+0+1<=10000000:=hz;refine(ju (S _ _ d) Z #[fc,λe ne=>?_]);let z:=S.trans (je (o:=.lst []) ne);refine#[qa,e,a,as,[],λ_=>False,Y,Z,z _ _ B,h3.mono$ aa.tm z,(NL.nu #[jc,Nm.empty,λ_ w=>w.elim,c.y20]),W.2.1,WM,WM,λr1 z1 I _ D k1=>?_];let l1:=D.len;let s3:=z.trans k1;let b0:=zR;refine#[_,Z,r1,g,_,_,Z,Z,D.at',s3 _ _ c.at',by rw[NO,NO];omega,λr j=>q r (z1++G) _ (by rw[jc,Ol]) (λy=>?_) (by rw[NP];omega) (s3.trans$ je j)];rw[PX,D.nm.mem y,c.nm.mem y];exact Tw
def Fu(h:iG H v s):∀c∈s.own,bG H c.2 c.1:=by
 cases h with
 |lf p l V _ d=>
  cases l with
  |rd x t T |st x t T |gv t T=>intro c hc;rw[υ.mp hc];exact d.2
  |wr t u T U=>
   intro c hc;rcases Θ.mp hc with e |hc
   .rw[e];exact d.2.1
   .rw[υ.mp hc];exact d.2.2
  |cl x f q i=>exact d.2.2
 |ite p t T a b Q j A B _ g _ _ _ _ |loop p t T a Q A _ g _ _=>intro c hc;rwa[υ.mp hc]
def Fv(h:iG H v s)(o:s.Ok y):s.own.length<=100/\∀c∈s.own,dI y c.2:=by
 let one:∀(t:η) (T:Tm),dI y T->[(t,T)].length<=100/\∀c∈[(t,T)],dI y c.2:=λt T h=>#[by show 1<=100;omega,λc hc=>by rwa[υ.mp hc]];cases h with
 |lf p l V _ g=>
  cases l with
  |rd x t T |st x t T=>exact one t T o.1.2
  |wr t u T U=>
   refine#[by show 2<=100;omega,λc hc=>?_];rcases Θ.mp hc with e |hc
   .rw[e];exact o.1.1
   .rw[υ.mp hc];exact o.1.2
  |cl x f q i=>exact#[N6 o.1.2.1 WL,o.1.2.2]
  |gv t T=>exact one t T o.1
 |ite p t T a b Q j A B _ d _ _ _ _ |loop p t T a Q A _ d _ _=>exact one t T o.1
theorem app_assoc:∀(a b c:Bd),(a.app b).app c=a.app (b.app c)
 | .nil,_,_=>rfl
 | .lf p l r,b,c=>by show Bd.lf p l ((r.app b).app c)=_;rw[app_assoc r b c];rfl
 | .ite p t T x y r,b,c=>by show Bd.ite p t T x y ((r.app b).app c)=_;rw[app_assoc r b c];rfl
 | .loop p t T x r,b,c=>by show Bd.loop p t T x ((r.app b).app c)=_;rw[app_assoc r b c];rfl
theorem app_nil:∀(a:Bd),a.app .nil=a
 | .nil=>rfl
 | .lf p l r=>by show Bd.lf p l (r.app .nil)=_;rw[app_nil r]
 | .ite p t T x y r=>by show Bd.ite p t T x y (r.app .nil)=_;rw[app_nil r]
 | .loop p t T x r=>by show Bd.loop p t T x (r.app .nil)=_;rw[app_nil r]
inductive OI(v:V)(g r k:η)(s:Bd)(M:ρ->Prop)(b:Hp)(i:Nat)(n:_L.St)(a:Hp):Prop
 |mk(l:tT V)(m:tz ρ)(d:n=[δ v,↑g,↑k,l])(e:a k=δ (.lst (m.map rz)))(f:∀y,y∈m↔s.bt M y∨∃c∈s.own.take i,y∈c.2.vars)(h:m.length<=50+21*i)(j:aG k b a)
def yj:aj ["statement","behind","names","term"] z3z (ae BS):=bN
def wM{L:Nat}(F:ti K "used_ahead_of" BS f fd)(cB:‹L+9› fB f0 z3z (yx n) "used_behind_terms")(cO:‹1› fO f2 z5z oe "own_terms")(cN:‹7› fN f3 z1z (dG 6) "names_in")(m0:mg "list"=θ)(m2:mg "set"=θ)(m3:mg "sorted"=θ):⇑(L+10) f fd z3z (gU n):=by
 erw[F.ok yj λc0 A o1 s H vs Q E t h=>?_]
 let⟨v,g,st,ss,M,Y,rfl,j,u,U,hd,hz,q⟩:=h;refine#[_,(jd (jA 2 yj.nd$ jN Jz Z m0 boot_list$ ja (cB.e t.m$ ja (pv 0)$ ja (pv 1) jb) jb)$ jd (j6 Ot Z (qo$ cO.e t.m$ ja (pv 0) jb) (jw (i:=3) yj.nd Z$ ω Z)$ jg$ jH$ jZ NZ Pf Pe zG (pv 2)$ ja (cN.e t.m$ ja (pv 3) jb) jb)$ jg$ jo$ jM (qA Z) Z m3 Tp$ ja (jN (Jc Z) Z m2 WF$ ja (pv 2) jb) jb),?_];erw[ai λF1 C=>#[_,Z,_,Z,v,g,st,ss,M,Y,Z,j,u,U,hd,hz,λr1 G H1 e1 m1 l1 k1=>#[r1,_,Z,.inl$ aH.of e1,λN I=>C _ _ ?_]]];let s2:aa H (af H1 N$ .lst$ G.map rz):=k1.trans (je I);let J:=j.mono (aa.tm s2);let⟨o2,O⟩:=Fv j U;let a:af H1 N (.lst$ G.map rz) N=δ (.lst$ G.map rz):=jc;let h0:H N=θ:=k1.free I;generalize af H1 N (.lst$ G.map rz)=H2 at s2 J a;erw[ai λF1 C=>?_];erw[dD λF kF=>#[_,Z,v,st,Z,J,λr H3 t W=>#[r,Z,#[_,aC.of t],kF _ _ ?_]]];let r0:r≠N:=jR t (W _ _ a) (by intro z;cases z);let s3:=s2.trans W;let b0:=zR;erw[KZ (K:=K) (xs:=st.own.map rT) (OI v g r N st M H3) #[_,G,Z,W _ _ a,λy=>?_,WM,aG.refl] (λi σ H' hi h=>?_) ?_ (λσ H' h=>C _ _ ?_)]
 .rw[m1 y];exact#[.inl,λz=>z.elim (λw=>w) λ#[c,p,_]=>absurd p Ov]
 .let⟨_,_,_,_,_,_,k⟩:=h;exact aC.of$ k _ _ r0 t
 .clear C;intro E _ i x σ H4 B fE Gq D h;let⟨o3,X,rfl,h1,R,h3,k4⟩:=h;rw[Od]at B;cases p:st.own[i]? with
  |none=>rw[p]at B;cases B
  |some c=>
   rw[p]at B;cases B;erw[D ?_];let cm:=Og p;let hi:i < st.own.length:=by
    rcases SR i st.own.length with z |z
    .exact z
    .rw[O6 z]at p;cases p
   let tm:am H3 H4:=λb xs e=>k4 b _ (jR e (W _ _ a) (by intro z;cases z)) e;show sd _ E [δ v,↑g,↑N,δ$ .ref c.1] H4;refine#[_,Z,.inl #[Z,_,aH.of h1],_,Z,c.1,c.2,Y,Z,((Fu j c cm).mono$ aa.tm s3).mono tm,(O c cm).2,(O c cm).1,u.y20,λr5 s5 H5 n5 e5 d5 m5 o5 k5=>?_];let l5:s5.length<=21:=N6 (kn d5 λx B=>kK (O c cm).1 x ((m5 x).mp B)) u.y20;refine#[N,r5,_,_,Z,Z,k5 _ _ h1,e5,by rw[NO,NO];omega,fE _ _ #[_,X++s5,Z,by rw[jc,Ol],λy=>?_,by rw[NP];omega,λb o nb e=>?_]]
   .rw[PX,R y,m5 y,OU,p];refine#[λz=>z.elim (λz=>z.elim .inl λ#[d,hd,w]=>.inr #[d,Pj _ hd,w]) λw=>.inr #[c,Oj _$ υ.mpr Z,w],λz=>z.elim (λw=>.inl (.inl w)) λ#[d,hd,w]=>?_];rcases Ψ.mp hd with hd |hd
    .exact .inl$ .inr #[d,hd,w]
    .let ed:d=c:=υ.mp hd;rw[ed]at w;exact .inr w
   .rw[jh nb];exact k5 _ _$ k4 b o nb e
 .let⟨o3,X,rfl,h1,R,h3,k4⟩:=h;rw[NO]at R h3;let s4:aa H H':=λb o e=>k4 b o (jk e h0) (s3 _ _ e);refine#[_,Z,N,X,Z,aH.of h1,(λL nd j=>Ph (Pq$ kn nd j) (by show X.length+1 < 4096;omega)),λl L S h4 hm=>?_];let sub:∀y∈L,y∈Y:=λy hy=>Bd.use_in U u.sub y ((yR j M y).mpr (by let:=(R y).mp ((hm y).mp hy);rwa [OH]at this));let lL:=N6 (kn h4 sub) u.y20;refine#[l,L,Z,jc,WM,λr' s0 T pm nd so=>?_];erw[q r' s0 _ ((s4.trans$ je S).free T) #[jc,#[pm.nodup_iff.mpr nd,so,λy=>?_],Bd.use_in U u.sub,u.y20] ((s4.trans$ je S).trans$ je T)];rw[pm.mem_iff,hm y,R y,yR j M y,OH]
def none_of(s:aa H h)(n:h r=θ):H r=θ:=by
 cases z:H r with
 |none=>rfl
 |some o=>have:=s _ _ z;rw[n]at this;cases this
inductive UI(a g:η)(b:Bd)(p:tz V)(M:ρ->Prop)(q:tz ρ)(H:Hp)(i:Nat)(s:_L.St)(d:Hp):Prop
 |mk(m:η)(o:tT V)(c n:Bd)(r:tz ρ)(e:s=[↑a,↑g,↑m,o])(f:b=c.app n)(h:dX H c (p.take (p.length - i)))(j:NL d m r (n.use M) q)(k:aa H d)(l:H m=θ)
def rH:aj ["body","behind","names","statement"] z15z (ae BR):=bN
def Fm{L:Nat}(F:ti K "used_ahead" BR f fd)(cU:‹L+10› fU f0 z3z (gU n) "used_ahead_of")(J:mg "sorted"=θ)(N:mg "reversed"=θ):⇑(L+11) f fd z15z (lF$ n+1):=by
 erw[F.ok rH λc0 A O s H vs Q E hr h=>?_]
 let⟨a,g,b,xs,R,M,Y,rfl,ha,hb,d,ho,hd,hz,q⟩:=h;refine#[_,(jd (jA 2 rH.nd$ jM XG Z J Tp$ ja (pv 1) jb)$ jd (j6 Ot Z (@wZ _ _ _ _ _ _ _ Z N UO (pv 0) WL WL WP WP) (jw (i:=3) rH.nd Z$ ω Z)$ jg$ jA 2 rH.nd$ cU.e hr.m$ ja (pv 3)$ ja (pv 2) jb)$ jg$ jo$ pv 2),?_];let g0:R.length<=21:=N6 (kn d.nd λx o=>d.sub x ((d.mem x).mp o)) d.y20;let b0:=aK;erw[ai λF1 t=>#[_,Z,g,R,Z,aH.of d.at',WM,λl c nl pm so=>t _ _ ?_]];let T:Nm c M:=#[pm.nodup_iff.mpr d.nd,so,λx=>pm.mem_iff.trans (d.mem x)];let U:aa H (af H l$ .lst$ c.map rz):=je nl;let u:NL (af H l$ .lst$ c.map rz) l c M Y:=#[jc,T,d.sub,d.y20];generalize af H l (.lst$ c.map rz)=H1 at U u;let xl:=hb.len;erw[ai λF1 t=>?_];erw[dD λF kF=>#[_,Z,a,xs,Z,aC.of$ U _ _ ha,kF _ _ ?_]];refine X8 (K:=K) (xs:=xs) (UI a g b xs M Y H) #[l,_,b,.nil,c,Z,(app_nil b).symm,by rw[SQ,OH];exact hb,u,U,nl] (λi σ H' hi h=>?_) ?_ (λσ H' h=>t _ _ ?_)
 .let⟨_,_,_,_,_,_,_,_,_,k,_⟩:=h;exact aC.of$ k _ _ ha
 .clear t;intro E _ i x σ H2 o fE Gq p h;let⟨I,o3,pre,gq,W,rfl,j,y,X,B,n2⟩:=h;let hi:i < xs.length:=by
   rcases SR i xs.length with z |z
   .exact z
   .rw[O6 (by simpa using z)]at o;cases o
  rw[RP hi]at o;let et:xs.take (xs.length - i)=xs.take (xs.length - (i+1))++[x]:=by
   let C:xs.length - i=(xs.length - 1 - i)+1:=by omega
   let e2:xs.length - (i+1)=xs.length - 1 - i:=by omega
   rw[C,e2,OU,o];rfl
  rw[et]at y;rcases y.last with ⟨e,_⟩ | ⟨ws,v,D,S,C,e2,h4,h5⟩
  .exact absurd e WN
  let⟨ew,ev⟩:=Vi C Z;cases ev;subst e2;let h0:=qf (j▸ho);let G:=qf h0.1;let a1:b.dep=max (D.app S).dep gq.dep:=by rw[j,zB]
  let a2:(D.app S).dep=max D.dep S.dep:=zB ..;let h6:S.dep<=b.dep:=by rw[a1,a2];exact N6 (Rq ..)$ RB ..
  let h7:S.size<=b.size:=by rw[j,j9,j9];omega
  erw[p ?_];show dJ _ _ E [↑a,↑g,↑I,δ x] H2;refine#[_,Z,_,Z,x,I,S,W,gq.use M,Y,Z,h5.mono$ aa.tm B,X,G.2,WM,WM,λr z H3 nr n3 k3=>fE _ _ #[r,_,D,S.app gq,z,Z,by rw[j,app_assoc],?_,by rw[Kj];exact n3,B.trans k3,none_of B nr]];rw[ew];exact h4
 .let⟨I,o3,pre,gq,W,rfl,j,y,X,B,n2⟩:=h;rw[R6]at y;let ep:pre= .nil:=by
   rcases y.last with ⟨_,e⟩ | ⟨ws,v,D,S,C,_⟩
   .exact e
   .exact absurd C WN
  rw[ep]at j;refine#[_,Z,q I W H' n2 ?_ B];rw[j];exact X
def EG:⇑k f e z15z (lF 0):=by
 let n:∀v H Q E,¬lF 0 v H Q E:=λv H Q E h=>by let⟨a,g,b,x,S,M,y,_,_,_,_,_,d,_⟩:=h;exact absurd d$ R0 _
 exact#[λv H Q E h=>absurd h (n v H Q E),λA o s H c u v Q E _ _ _ _ h=>absurd h (n v H Q E)]
theorem Lv(F:ti K "used_ahead" BR f e)(FB:ti K "used_behind_terms" xV r g)(d:ti K "used_ahead_of" BS o b)
  (B:aE K e z15z []) (i:mg "used_ahead"=↑f) (j:aE K g z3z []) (k:mg "used_behind_terms"=↑r) (p:aE K b z3z []) (q:mg "used_ahead_of"=↑o) (C:‹1› u s z5z oe "own_terms") (l:‹7› v t z1z (dG 6) "names_in") (M:mg "list"=θ) (a:mg "set"=θ) (m:mg "sorted"=θ) (c:mg "reversed"=θ):
  ∀n:Nat,⇑(3*n+8) f e z15z (lF n)/\⇑(3*n+10) o b z3z (gU n)
 |0=>by let h:⇑8 f e z15z (lF 0):=EG;let H:=wL (L:=8) (n:=0) FB #[h,B,F.kp,i];exact#[h,wM (L:=0) d #[H,j,FB.kp,k] C l M a m]
 |n+1=>by
  let I:=(Lv F FB d B i j k p q C l M a m c n).2;let h:=Fm (L:=3*n) F #[I,p,d.kp,q] m c;let E:3*n+11=3*(n+1)+8:=by omega
  rw[E]at h;let H:=wL (L:=3*(n+1)+8) (n:=n+1) FB #[h,B,F.kp,i];exact#[h,wM (L:=3*(n+1)) d #[H,j,FB.kp,k] C l M a m]
noncomputable abbrev FQ:cc:=bQ 45
noncomputable abbrev xN:cc:=bQ 48
noncomputable abbrev xF:cc:=bQ 49
noncomputable abbrev mK:cc:=bQ 50
noncomputable abbrev xP:cc:=bQ 51
noncomputable def Lf.cut:Lf->Nat
 | .st _ _ _ | .gv _ _=>0
 |_=>1
noncomputable def Bd.cuts:Bd->Nat
 | .nil=>0
 | .lf _ l r=>l.cut+r.cuts
 | .ite _ _ _ a b r=>1+a.cuts+b.cuts+r.cuts
 | .loop _ _ _ a r=>1+a.cuts+r.cuts
def Bd.inn:Bd->Bd
 | .ite _ _ _ a b _=>a.app b
 | .loop _ _ _ a _=>a
 |_=>.nil
theorem qj:∀(a b:Bd),(a.app b).cuts=a.cuts+b.cuts
 | .nil,b=>by show b.cuts=0+b.cuts;omega
 | .lf _ l r,b=>by let:=qj r b;show l.cut+(r.app b).cuts=l.cut+r.cuts+b.cuts;omega
 | .ite _ _ _ x y r,b=>by let:=qj r b;show 1+x.cuts+y.cuts+(r.app b).cuts=1+x.cuts+y.cuts+r.cuts+b.cuts;omega
 | .loop _ _ _ x r,b=>by let:=qj r b;show 1+x.cuts+(r.app b).cuts=1+x.cuts+r.cuts+b.cuts;omega
inductive nV(b:tz V)(H:Hp)(Q:VK)(a:XK):Prop
 |mk(v:V)(s:Bd)(_:b=[v])(_:iG H v s)(_:s.size<=10000000)(_:∀(r:η) (xs:tz V) (H':Hp),H' r=δ (.tup xs)->dX H' s.inn xs->aa H H'->Q (.ref r) H')
inductive ij(d:tz V)(H:Hp)(Q:VK)(c:XK):Prop
 |mk(a:η)(b:Bd)(e:tz V)(_:d=[.ref a])(_:H a=δ (.tup e))(_:dX H b e)(_:b.size<=10000000)(_:∀H',aa H H'->Q (.int (b.cuts:Int)) H')
def IX:aj z5z z5z (ae FQ):=bN
def EQ(F:ti K "bodies_in" FQ f y):⇑1 f y z5z nV:=by
 erw[F.ok IX λC A o s H V Q E j h=>?_]
 let⟨v,st,rfl,z,B,q⟩:=h;refine#[_,(jd (jz (kh$ jy$ pv 0) (jg$ jo$ jx jV (jy$ pv 0)$ jy$ pv 0) jp)$ jd (jz (kh$ jy$ pv 0) (jg$ jo$ jy$ pv 0) jp)$ jg$ jo$ ji jb),?_];let D:=aK;cases z with
 |lf p l V c d=>
  cases l with
  |rd x t T |st x t T |wr t u T U |cl x f R S |gv t T=>let⟨rfl,_⟩:=d;refine(ju c Z #[Z,_,Z,aY WO ?_]);refine(ju c Z #[Z,_,Z,aY WO ?_]);exact#[fc,λr N=>q r [] _ jc Z (je N)]
 |ite p t T a b e G g I c J d i m n=>refine(ju c Z #[Z,_,Z,c8 WO ?_]);let L:a.size+b.size+0+1<=10000000:=B;let W:=m.len;let X:=n.len;exact(ju c Z$ ju c Z #[e,G,g,I,Z,Z,d,i,WM,λr M j s=>q r _ M j ((n.mono$ aa.tm s).app$ m.mono$ aa.tm s) s])
 |loop p t T a e g c J d i=>refine(ju c Z #[Z,_,Z,aY WO ?_]);refine(ju c Z #[Z,_,Z,c8 WO ?_]);exact(ju c Z$ q e g H d i$ aa.refl H)
def Cm(h:iG H v s):s.inn.size < s.size/\∃(p:η) (w:ρ) (r:tz V),v= .ref p/\H p=δ (.tup (.str w::r))/\s.cuts=(if pQ (.str w) [.str "set",.str "give"]=μ then 0 else 1)+s.inn.cuts:=by
 cases h with
 |lf p l i c d=>
  refine#[Nat.zero_lt_succ _,?_];cases l with
  |rd x t T |wr t u T U |cl x f Q j=>let⟨rfl,_⟩:=d;exact#[p,_,_,Z,c,by rw[N7 WO];rfl]
  |st x t T |gv t T=>let⟨rfl,_⟩:=d;exact#[p,_,_,Z,c,by rw[N0 WO];rfl]
 |ite p t T a b q k A B c e d g m n=>refine#[by show(a.app b).size < a.size+b.size+0+1;rw[j9];omega,p,_,_,Z,c,?_];rw[N7 WO];show 1+a.cuts+b.cuts+0=1+(a.app b).cuts;rw[qj];omega
 |loop p t T a q A c e d g=>refine#[by show a.size < a.size+0+1;omega,p,_,_,Z,c,?_];rw[N7 WO];show 1+a.cuts+0=1+a.cuts;omega
def eY:eM (v::y) 0=δ v:=jK (j:=0) Z
inductive MI(a n:η)(b:Bd)(H:Hp)(m:Nat)(p:_L.St)(c:Hp):Prop
 |mk(l:tT V)(W:Bd)(o:tz V)(k:Nat)(d:m=W.size)(e:p=[↑a,δ (.int (k:Int)),↑n,l])(f:c n=δ (.lst o))(g:dX c W o)(h:k+W.cuts=b.cuts)(i:W.size<=10000000)(j:aG n H c)
def iY:aj ["body","many","todo","statement"] ["body"] (ae xN):=bN
def A8(F:ti K "many_cuts" xN f fd)(cB:‹1› fB f0 z5z nV "bodies_in")(m0:mg "list"=θ):⇑2 f fd ["body"] ij:=by
 erw[F.ok iY λc0 A o1 s H vs Q E hr h=>?_]
 let⟨a,b,xs,rfl,ha,hb,hz,q⟩:=h;refine#[_,(jd (jA 1 iY.nd jf)$ jd (jA 2 iY.nd$ jN Jz Z m0 boot_list$ ja (pv 0) jb)$ jd (XZ Ot (@xp _ _ _ (pv 2) (λ_=>Z))$ jd (jA 3 iY.nd$ FE NZ PySem.F.slot_list_pop PySem.F.type_list_pop Ew$ pv 2)$ jd (ki$ jz (jD Jy (jy$ pv 3) (ji$ ja jm$ ja jm jb) Z) (jg$ FJ (i:=1) iY.nd Z (ω Z) jf Ei) jp)$ jg$ jH$ jZ NZ Pf Pe Zm (pv 2)$ ja (cB.e hr.m$ ja (pv 3) jb) jb)$ jg$ jo$ pv 1),?_];let b0:=aK;erw[ai λU d=>d _ _ ?_];erw[ai λU d=>#[_,Z,a,_,Z,.inr$ aC.of ha,λt C=>d _ _ ?_]];let s0:aa H (af H t$ .lst xs):=je C;erw[ai λU d=>?_];erw[yX (MI a t b H) b.size #[_,b,xs,0,Z,Z,jc,hb.mono$ aa.tm s0,WM,hz,λc o N e=>s0 _ _ e] ?_];intro m σ D E _ fE F X Y Gq y h;let⟨o3,W,zs,k,rfl,rfl,x,h2,h3,h4,h5⟩:=h;erw[y #[_,Z,!zs.isEmpty,.inl #[zs,aH.of x,Z],?_]];rcases h2.last with ⟨e1,e2⟩ | ⟨g,v,B,n,e1,e2,g1,g2⟩
 .rw[e1];erw[Y _$ d _ _ #[_,Z,?_]];rw[e2]at h3;let e3:k=b.cuts:=by let:k+0=b.cuts:=h3;omega
  rw[e3];exact q _ λc o e=>h5 c o (jk e C) e
 .rw[e1];let ne:(!(g++[v]).isEmpty)=μ:=by cases g<;>rfl
  rw[ne];erw[X _ ?_];let h6:W.size=B.size+n.size:=by rw[e2,j9]
  let h7:W.cuts=B.cuts+n.cuts:=by rw[e2,qj]
  let⟨h8,p,w',r,rfl,hp,hc⟩:=Cm g2;rw[e1]at x;erw[ai λU d=>#[_,Z,.inl #[Z,_,aH.of x],t,_,.ref p,Z,Z,x,WN,d _ _ ?_]];rw[List.dropLast_concat];let T:am D (af D t$ .lst g):=λc ys e=>by rw[jh$ jR e x (by intro z;cases z)];exact e
  let t2:af D t (.lst g) t=δ (.lst g):=jc;let u:=g1.mono T;let I:=g2.mono T;let J:=T _ _ hp;let k2:aG t H (af D t$ .lst g):=λc o N e=>by rw[jh N];exact h5 c o N e
  generalize af D t (.lst g)=H2 at t2 u I J k2;let R:∀(j:Nat) (H3:Hp),aa H2 H3->j+B.cuts+n.inn.cuts=b.cuts->sd (ML K "list" (iU K) (a9 2)$ ap (eU nV [] E0$ ap (a9 3) aS) aS) E [↑a,δ$ .int (j:Int),↑t,↑p] H3:=λj H3 L hk=>by
   let g0:=I.mono (aa.tm L);refine#[_,Z,.inl #[Z,_,aH.of$ L _ _ t2],_,Z,.ref p,n,Z,g0,WM,λr' ys H4 h0 hy s4=>?_];let S:=L.trans s4;let l1:=u.len;let l2:=hy.len;refine#[t,r',g,ys,Z,Z,S _ _ t2,aC.of h0,WM,fE (B.app n.inn).size _ _ (by rw[j9];omega) #[_,B.app n.inn,g++ys,j,Z,Z,jc,?_,by rw[qj];omega,by rw[j9];omega,λc o N e=>?_]]
   .let M:am H4 (af H4 t$ .lst$ g++ys):=λc z0 e=>by rw[jh$ jR e (S _ _ t2) (by intro z;cases z)];exact e
    exact(hy.mono M).app ((u.mono$ aa.tm S).mono M)
   .rw[jh N];exact S _ _$ k2 c o N e
  erw[ai λU d=>eh (λO H'=>∃j:Nat,O=[↑a,δ$ .int (j:Int),↑t,↑p]/\aa H2 H'/\j+B.cuts+n.inn.cuts=b.cuts) (λE2 _ fm=>?_) λO H' h=>?_]
  .clear d fE;erw[me λG X Y=>(ju J eY #[cj,λl nl=>#[l,_,Z,.inr$ aC.of jc,Z,Z,_,Z,?_]])];cases hv:pQ (.str w') [.str "set",.str "give"] with
   |true=>rw[hv,N0 Z]at hc;exact Y _$ fm _ _ #[k,Z,je nl,WM]
   |false=>rw[hv,N7 N5]at hc;erw[X _ #[_,Z,_,_,Z,Z,fm _ _ #[k+1,?_,je nl,WM]]];show [_,δ$ sn ((k:Int)+1),_,_]=[_,δ$ sn ((k+1:Nat):Int),_,_];rfl
  .let⟨j,rfl,L,hk⟩:=h;exact d _ _$ R j H' L hk
inductive LH where
 |go (n:Int) |give (t:η)
structure Wy where
 sets:List (ρ×η)
 goal:LH
inductive Dd where
 |st (p:η) |ask (t:η)
structure Ct where
 M:ρ->Prop
 d:Dd
 ws:List Wy
structure Pc where
 M:ρ->Prop
 w:Wy
def aT(H:Hp):Tr->V->tz V->Prop
 | .lf v,x,_=>x=v/\Nv v=μ
 | .tp l,x,_=>l.isL=μ/\∃a X,x= .ref a/\H a=δ (.tup X)/\aT H l .non X
 | .nil,_,X=>X=[]
 | .cons h t,_,X=>h.isL=ν/\t.isL=μ/\∃y Y,X=y::Y/\aT H h y []/\aT H t .non Y
def aT.mono(k:am H d):∀{t:Tr} {x:V} {X:tz V},aT H t x X->aT d t x X:=by
 intro t;induction t with
 |lf v |nil=>exactλh=>h
 |tp l f=>rintro x X ⟨h,a,Y,e,b,c⟩;exact#[h,a,Y,e,k _ _ b,f c]
 |cons h t i I=>rintro x X ⟨E,g,y,Y,e,b,c⟩;exact#[E,g,y,Y,e,i b,I c]
noncomputable def aA:tz Tr->Tr
 | []=>.nil
 |t::T=>.cons t (aA T)
theorem Q7:∀t:tz Tr,(aA t).isL=μ
 | [] |_::_=>rfl
def aB(t:tz Tr):Tr:=.tp (aA t)
noncomputable def aL(x:ρ):Tr:=.lf (.str x)
noncomputable def uj(a:η):Tr:=.lf (.ref a)
noncomputable def ar(n:Int):Tr:=.lf (.int n)
section
variable {H:Hp}
def jC:aT H (aA []) .non []:=rfl
def jl{t:Tr}(h:t.isL=ν)(a:aT H t y [])(b:aT H (aA T) .non Y):aT H (aA (t::T)) .non (y::Y):=#[h,Q7 T,y,Y,Z,a,b]
def jF(h:H a=δ (.tup x))(b:aT H (aA t) .non x):aT H (aB t) (.ref a) []:=#[Q7 t,a,x,Z,h,b]
def jU:aT H (aL x) (.str x) []:=#[Z,Z]
def JJ:aT H (uj a) (.ref a) []:=#[Z,Z]
def jX:aT H (ar n) (.int n) []:=#[Z,Z]
theorem Kk(a:aT H (aA s) .non Y):∀{T:tz Tr} {x:tz V},aT H (aA T) .non x->aT H (aA$ T++s) .non (x++Y)
 | [],x,h=>by let e:x=[]:=h;rwa[e]
 |t::T,x,h=>by let⟨E,_,y,z,e,b,c⟩:=h;rw[e];exact jl E b (Kk a c)
theorem zq:∀{T:tz Tr} {x:tz V},aT H (aA T) .non x->x.length=T.length
 | [],x,h=>by let e:x=[]:=h;rw[e];rfl
 |t::T,x,h=>by let⟨_,_,y,z,e,_,a⟩:=h;rw[e,Oq,Oq,zq a]
theorem Yd:∀(S:tz ρ),aT H (aA$ S.map aL) .non (S.map rz)
 | []=>rfl
 |s::S=>jl Z jU (Yd S)
theorem Z0:∀{T:tz Tr} {x:tz V},aT H (aA T) .non x->aT H (aA T.reverse) .non x.reverse
 | [],x,h=>by let e:x=[]:=h;rw[e];rfl
 |t::T,x,h=>by let⟨E,_,y,z,e,a,b⟩:=h;rw[e,Sf,Sf];exact Kk (jl E a jC)$ Z0 b
theorem qZ:∀{T:tz Tr} {X:tz V},aT H (aA T) .non X->∀(i:Nat) (x:V),X[i]?=δ x->∃t,T[i]?=δ t/\aT H t x []
 | [],X,h,i,x,a=>by let e:X=[]:=h;rw[e]at a;simp at a
 |t::T,X,h,0,x,a=>by let⟨_,_,y,z,e,b,c⟩:=h;rw[e]at a;cases a;exact#[t,Z,b]
 |t::T,X,h,i+1,x,a=>by let⟨_,_,y,z,e,b,c⟩:=h;rw[e]at a;simpa using qZ c i x (by simpa using a)
end
noncomputable def setT(s:ρ×η):Tr:=aB [aL s.1,uj s.2]
noncomputable def AF:LH->Tr
 | .go n=>aB [aL "go",ar n]
 | .give t=>aB [aL "give",uj t]
noncomputable def iF(w:Wy):Tr:=aB [aB$ w.sets.map setT,AF w.goal]
noncomputable def LO:Dd->Tr
 | .st p=>uj p
 | .ask t=>aB [aL "ask",uj t]
def HN(c:Ct):Tr:=aB [aB ((canon c.M).map aL),LO c.d,aB$ c.ws.map iF]
def Ee(g:LH):(AF g).isL=ν:=by cases g<;>rfl
def HS(d:Dd):(LO d).isL=ν:=by cases d<;>rfl
def oy(H:Hp)(p:Pc)(v:V)(g:η)(y:tz ρ):Prop:=∃(r:η) (s:tz ρ) (W:V),v= .ref r/\H r=δ (.tup [.ref g,W])/\NL H g s p.M y/\aT H (iF p.w) W []
theorem oy.same(h:oy H p v g y)(s:aa H a):oy a p v g y:=by let⟨r,S,W,e,b,c,d⟩:=h;exact#[r,S,W,e,s _ _ b,c.same s,d.mono$ aa.tm s]
def oy.but(h:oy H p v g y)(k:aG f H c)(d:H f=δ (.lst C))(n:g≠f):oy c p v g y:=by let⟨r,s,W,e,i,a,j⟩:=h;let t:am H c:=λb x e=>k b _ (jR e d (by intro z;cases z)) e;exact#[r,s,W,e,t _ _ i,#[k _ _ n a.at',a.nm,a.sub,a.y20],j.mono t]
noncomputable def Lf.isCut:Lf->Bool
 | .st _ _ _ | .gv _ _=>ν
 |_=>μ
noncomputable def Bd.deed:Bd->Dd
 | .lf p _ _=>.st p
 | .ite _ t _ _ _ _ | .loop _ t _ _ _=>.ask t
 | .nil=>.st 0
inductive i8(b:tz V)(H:Hp)(Q:VK)(a:XK):Prop
 |mk(v:V)(s:Bd)(_:b=[v])(_:iG H v s)(_:∀(d:V) (H':Hp),aT H' (LO s.deed) d []->aa H H'->Q d H')
inductive gR(b:tz V)(H:Hp)(Q:VK)(a:XK):Prop
 |mk(t:η)(T:Tm)(c:tz ρ)(_:b=[.ref t])(_:bG H T t)(_:dI c T)(_:c.length<=21)(_:∀(v:V) (g:η) (H':Hp),oy H' #[λx=>x∈T.vars,#[[],.give t]] v g c->H g=θ->aa H H'->Q v H')
inductive rS(K:β)(c:tz V)(H:Hp)(Q:VK)(b:XK):Prop
 |mk(a:η)(_:c=[.ref a])(_:aC K H a [.str "num",.int 0])(_:∀(r:η),H r=θ->Q (.ref r) (af H r (.lst [])))
inductive rV(K:β)(b:tz V)(H:Hp)(Q:VK)(a:XK):Prop
 |mk(t:η)(c:tz ρ)(_:b=[.ref t])(_:aC K H t [.str "num",.int 0])(_:c.length<=21)(_:∀(v:V) (g:η) (H':Hp),oy H' #[λx=>x∈(Tm.num 0).vars,#[[],.give t]] v g c->H g=θ->aa H H'->Q v H')
open Classical in
def i6(x:ρ)(t:η)(p:Pc):Wy:=if p.M x then #[(x,t)::p.w.sets,p.w.goal] else p.w
inductive lv(d:tz V)(H:Hp)(Q:VK)(a:XK):Prop
 |mk(v b:V)(p t:η)(x:ρ)(T:Tm)(c:Pc)(g:η)(e:tz ρ)(_:d=[v,b])(_:iG H v (.lf p (.st x t T) .nil))(_:oy H c b g e)(_:x∈e)(_:dI e T)(_:c.w.sets.length<=10000000)(_:∀(v':V) (g':η) (H':Hp),oy H' #[(Lf.st x t T).use c.M,i6 x t c] v' g' e->H g'=θ->aa H H'->Q v' H')
def Gg:aj z5z z5z (ae xF):=bN
def A0(F:ti K "deed_of" xF f e):⇑1 f e z5z i8:=by
 erw[F.ok Gg λC A o s H V Q E z h=>?_]
 let⟨v,st,rfl,g,q⟩:=h;refine#[_,(jd (jz (jD zF (jy$ pv 0) (ji$ ja jm$ ja jm jb) Z) (jg$ jo$ ji$ ja jm$ ja (jy$ pv 0) jb) jp)$ jg$ jo$ pv 0),?_];cases g with
 |lf p l V c d=>
  cases l with
  |rd x t T |st x t T |wr t u T U |cl x f B D |gv t T=>let⟨rfl,_⟩:=d;refine(ju c Z #[cj,λl n=>#[l,_,Z,.inr$ aC.of jc,Z,Z,_,Z,aY WO ?_]]);exact#[_,Z,q _ _ JJ$ je n]
 |ite p t T a b i I j J c m d y L M |loop p t T a i j c m d y=>refine(ju c Z #[cj,λl n=>#[l,_,Z,.inr$ aC.of jc,Z,Z,_,Z,c8 WO ?_]]);refine(ju (aq c n) Z #[cj,λr N=>?_]);exact q _ _ (jF jc$ jl Z jU$ jl Z JJ jC) ((je n).trans$ je N)
def Fe{fN:η}{fdN:fJ}(F:ti K "names_in" fj f b)(c:‹n+1› f b z1z (dG n) "names_in")(m:mg "set"=θ)(M:mg "sorted"=θ):⇑(n+2) f b z1z (rS K):=by
 erw[F.ok yf (λC A o s H v Q E d h=>?_)]
 let⟨a,rfl,g,q⟩:=h;refine#[_,(jd (jz (kh$ jy$ pv 0) (jg$ jo$ jE jb) jp)$ jd (jz (kh$ jy$ pv 0) (jg$ jo$ jE$ ja (jy$ pv 0) jb) jp)$ jg$ jo$ jM (qA Z) Z M Tp$ ja (jN (Jc Z) Z m WF$ ja (jx qp (c.e d$ ja (jy$ pv 0) jb)$ c.e d$ ja (jy$ pv 0) jb) jb) jb),?_];refine#[_,Z,a,_,_,_,Z,Z,g,Z,Z,_,Z,c8 WO ?_];exact#[fc,λr N=>q r N]
def rG:aj z1z z1z (ae mK):=bN
def wJ(F:ti K "place_of_give" mK f d)(C:‹7› U i z1z (dG 6) "names_in"):⇑8 f d z1z gR:=by
 erw[F.ok rG λj A o s H V Q E l h=>?_]
 let⟨t,T,y,rfl,p,O,b,q⟩:=h;refine#[_,(jg$ jo$ ji$ ja (C.e l.m$ ja (pv 0) jb)$ ja (ji$ ja (ji jb)$ ja (ji$ ja jm$ ja (pv 0) jb) jb) jb),?_];refine#[_,Z,t,T,y,Z,p,O.2,O.1,b,λg v a z B D M G I=>?_];let J:NL a g v (λx=>x∈T.vars) y:=#[B,#[D,G,M],kK O.1,b];refine#[fc,λe L=>#[_,Z,cj,λu c=>#[cj,λx N=>#[cj,λr n=>?_]]]];let S:aa a (af (af (af (af a e$ .tup []) u$ .tup [.str "give",.ref t]) x$ .tup [.ref e,.ref u]) r$ .tup [.ref g,.ref x]):=(((je L).trans$ je c).trans$ je N).trans (je n);erw[q _ g _ #[r,_,.ref x,Z,jc,J.same S,?_] z (I.trans S)];exact jF (aq jc n)$ jl Z (jF (aq (aq (aq jc c) N) n) jC)$ jl Z (jF (aq (aq jc N) n)$ jl Z jU$ jl Z JJ jC) jC
def Fh(F:ti K "place_of_give" mK f j)(C:‹7› G l z1z (rS K) "names_in"):⇑8 f j z1z (rV K):=by
 erw[F.ok rG λp A o s H V Q E v h=>?_]
 let⟨t,y,rfl,z,B,q⟩:=h;refine#[_,(jg$ jo$ ji$ ja (C.e v.m$ ja (pv 0) jb)$ ja (ji$ ja (ji jb)$ ja (ji$ ja jm$ ja (pv 0) jb) jb) jb),?_];refine#[_,Z,t,Z,z,λg a=>?_];let b:aa H (af H g$ .lst []):=je a;let c:NL (af H g$ .lst []) g [] (λx=>x∈(Tm.num 0).vars) y:=#[jc,#[Te,Z,λx=>Tw],λx h=>absurd h Ov,B];generalize af H g (.lst [])=d at b c;refine#[fc,λe D=>#[_,Z,cj,λu i=>#[cj,λx N=>#[cj,λr n=>?_]]]];let S:aa d (af (af (af (af d e$ .tup []) u$ .tup [.str "give",.ref t]) x$ .tup [.ref e,.ref u]) r$ .tup [.ref g,.ref x]):=(((je D).trans$ je i).trans$ je N).trans (je n);erw[q _ g _ #[r,_,.ref x,Z,jc,c.same S,?_] a (b.trans S)];exact jF (aq jc n)$ jl Z (jF (aq (aq (aq jc i) N) n) jC)$ jl Z (jF (aq (aq jc N) n)$ jl Z jU$ jl Z JJ jC) jC
def AG{Y:tz ρ}:pQ (.str x) (Y.map rz)=decide (x∈Y):=by
 by_cases h:x∈Y
 .rw[N4 h];unfold pQ;rw[Vj];exact#[.str x,dn.mpr #[x,h,Z],show(x==x)=μ from beq_self_eq_true _]
 .rw[NW h];unfold pQ;rw[Vc];intro z;rw[Vj]at z;let⟨v,a,e⟩:=z;let⟨y,H,rfl⟩:=dn.mp a;let E:x=y∨y=x:=.inr$ beq_iff_eq.mp (show(y==x)=μ from e)
  rcases E with rfl |rfl
  .exact h H
  .exact h H
def GJ{H:Hp}{w:Wy}{v:V}(h:aT H (iF w) v []):∃(W s:η) (S:tz V) (y:V),v= .ref W/\H W=δ (.tup [.ref s,y])/\H s=δ (.tup S)/\aT H (aA$ w.sets.map setT) .non S/\aT H (AF w.goal) y []:=by obtain⟨_,W,x,rfl,a,_,_,l,b,e,⟨_,s,S,c,d,f⟩,_,_,g,Y,E,i,j⟩:=h;let k:Y=[]:=j;rw[k]at E;rw[E]at e;rw[e,c]at a;exact#[W,s,S,g,Z,a,d,f,i]
def ph:aj ["statement","behind","way"] z3z (ae xP):=bN
def Bf(F:ti K "place_of_set" xP f fd)(cU:‹10› fU f0 z3z (gU 0) "used_ahead_of"):⇑11 f fd z3z lv:=by
 erw[F.ok ph λc0 A O s H vs Q E hr h=>?_]
 let⟨v,bv,p,t,x,T,C,g,Y,rfl,X,hp,hx,ok,hl,q⟩:=h;refine#[_,(jd (jA 2 ph.nd$ jy$ pv 1)$ jd (ki$ jz (jD zF (jy$ pv 0) (jy$ pv 1) Z) (jg$ jA 2 ph.nd$ ji$ ja (jx jV (ji$ ja (jJ j8 (pv 0) (jI jf) jT) jb)$ jy$ pv 2)$ ja (jy$ pv 2) jb) jp)$ jg$ jo$ ji$ ja (cU.e hr.m$ ja (pv 0)$ ja (jy$ pv 1) jb)$ ja (pv 2) jb),?_];let b0:=aK;let⟨r,ss,wv,rfl,b,B,hW⟩:=hp;let h0:=X;cases X with
 |lf _ _ vs h1 h2=>
  let⟨rfl,hT⟩:=h2;let⟨wa,sa,sx,y,rfl,i,D,j,hy⟩:=GJ hW;erw[ai λF1 d=>(ju b Z$ d _ _ ?_)];let sl:=zq j;rw[NO]at sl;erw[ai λF1 d=>eh (λl I=>∃W:V,l=[↑p,↑r,δ W]/\aT I (iF$ i6 x t C) W []/\aa H I) (λE2 _ fm=>?_) λl I h=>?_]
  .clear d;erw[me λG kT kF=>(ju h1 Z$ ju b Z #[g,_,Z,.inl$ aH.of B.at',Z,Q4 _,_,Z,?_])];rw[AG];by_cases a:x∈ss
   .rw[N4 a];erw[kT _ #[_,Z,_,Z,p,_,Z,h1,λs1 H1 J k1=>#[iQ,λu nu=>?_]]];let L:=k1.trans (je (o:=.tup [.ref s1]) nu);refine(ju (L _ _ i) Z #[u,sa,_,_,Z,Z,jc,L _ _ D,by show 1+sx.length<=_;omega,λc H2 hc z=>?_]);let R:=L.trans z;refine(ju (R _ _ i) Z #[cj,λnw n=>fm _ _ #[.ref nw,Z,?_,R.trans$ je n]]);let tm:=aa.tm (R.trans$ je (o:=.tup [.ref c,y]) n);unfold i6;rw[N0 ((B.nm.mem x).mp a)];erw[jF jc$ jl Z (jF (aq hc n)$ jl Z ?_$ j.mono tm)$ jl (Ee _) (hy.mono tm) jC];exact jF (aq (z _ _$ aq J nu) n)$ jl Z jU$ jl Z JJ jC
   .rw[NW a];erw[kF _$ fm _ _ #[_,Z,?_,aa.refl _]];unfold i6;rw[N7 λw=>a ((B.nm.mem x).mpr w)];exact hW
  .let⟨W,rfl,S,k⟩:=h;erw[d _ _ ?_];refine#[_,Z,ju (k _ _ b) Z #[.ref p,g,.lf p (.st x t T) .nil,ss,C.M,Y,Z,h0.mono$ aa.tm k,B.same k,#[#[hx,ok],trivial],(by show 0 < 1;decide),(by show 0+1<=10000000;decide),λg' zs H3 n3 N3 z=>?_]];refine#[_,Z,cj,λr' N=>q _ g' _ #[r',zs,W,Z,jc,N3.same$ je N,S.mono$ aa.tm$ z.trans$ je N] (k.free n3) ((k.trans z).trans$ je N)]
abbrev BJ:cc:=bK (bQ 52) 1
abbrev BQ:cc:=bK (bQ 52) 2
abbrev BK:cc:=bK (bQ 52) 3
abbrev BU:cc:=bK (bQ 52) 4
abbrev xH:cc:=bK (bQ 52) 0
def pL(m:Int)(p:η)(l:Lf)(q:Pc×tz Ct):Pc×tz Ct:=match l with
 | .gv t T=>(#[λx=>x∈T.vars,#[[],.give t]],q.2)
 | .st x t T=>(#[(Lf.st x t T).use q.1.M,i6 x t q.1],q.2)
 | .rd x t T=>(#[(Lf.rd x t T).use q.1.M,#[[],.go (m - (q.2.length:Int) - 1)]],q.2++[#[(Lf.rd x t T).use q.1.M,.st p,[q.1.w]]])
 | .wr t u T U=>(#[(Lf.wr t u T U).use q.1.M,#[[],.go (m - (q.2.length:Int) - 1)]],q.2++[#[(Lf.wr t u T U).use q.1.M,.st p,[q.1.w]]])
 | .cl x f a b=>(#[(Lf.cl x f a b).use q.1.M,#[[],.go (m - (q.2.length:Int) - 1)]],q.2++[#[(Lf.cl x f a b).use q.1.M,.st p,[q.1.w]]])
def pB(m:Int):Bd->Pc->tz Ct->Pc×tz Ct
 | .nil,c,f=>(c,f)
 | .lf p l r,c,f=>pL m p l (pB m r c f)
 | .ite p t T a b r,c,f=>
  let q:=pB m r c f
  let o:=pB m b q.1 q.2
  let s:=pB m a q.1 o.2
  (#[(Bd.ite p t T a b .nil).use q.1.M,#[[],.go$ m - (q.2.length:Int) - ((Bd.ite p t T a b .nil).cuts:Int)]],s.2++[#[(Bd.ite p t T a b .nil).use q.1.M,.ask t,[s.1.w,o.1.w]]])
 | .loop p t T a r,c,f=>
  let q:=pB m r c f
  let d:Pc:=#[(Bd.loop p t T a .nil).use q.1.M,#[[],.go$ m - (q.2.length:Int) - ((Bd.loop p t T a .nil).cuts:Int)]]
  let s:=pB m a d q.2
  (d,s.2++[#[(Bd.loop p t T a .nil).use q.1.M,.ask t,[s.1.w,q.1.w]]])
theorem KP(m:Int):∀(a b:Bd) (c:Pc) (f:tz Ct),pB m (a.app b) c f=pB m a (pB m b c f).1 (pB m b c f).2
 | .nil,_,_,_=>rfl
 | .lf p l r,b,c,f=>by show pL m p l (pB m (r.app b) c f)=pL m p l (pB m r _ _);rw[KP m r b c f]
 | .ite p t T x y r,b,c,f=>by let e:=KP m r b c f;show pB m (.ite p t T x y$ r.app b) c f=_;unfold pB;rw[e]
 | .loop p t T x r,b,c,f=>by let e:=KP m r b c f;show pB m (.loop p t T x$ r.app b) c f=_;unfold pB;rw[e]
theorem ky(m:Int):∀(b:Bd) (c:Pc) (F:tz Ct),(pB m b c F).2.length=F.length+b.cuts
 | .nil,_,_=>rfl
 | .lf p l r,c,F=>by
  let e:=ky m r c F;show(pL m p l$ pB m r c F).2.length=F.length+(l.cut+r.cuts);cases l with
  |rd x t T |wr t u T U |cl x f a d=>show((pB m r c F).2++[_]).length=F.length+(1+r.cuts);rw[NP,e];show _+1=_;omega
  |st x t T |gv t T=>show(pB m r c F).2.length=F.length+(0+r.cuts);omega
 | .ite p t T x y r,c,F=>by let e:=ky m r c F;show((pB m x _ (pB m y _ _).2).2++[_]).length=_;rw[NP,ky m x,ky m y,e];show _+1=F.length+(1+x.cuts+y.cuts+r.cuts);omega
 | .loop p t T x r,c,F=>by let e:=ky m r c F;show((pB m x _ _).2++[_]).length=_;rw[NP,ky m x,e];show _+1=F.length+(1+x.cuts+r.cuts);omega
def Ye(x:ρ)(t:η)(p:Pc):(i6 x t p).sets.length<=p.w.sets.length+1:=by
 unfold i6;split
 .exact NQ _
 .exact OR _
theorem Z1(m:Int):∀(b:Bd) (a:Pc) (f:tz Ct),(pB m b a f).1.w.sets.length<=a.w.sets.length+b.size
 | .nil,_,_=>NQ _
 | .lf p l r,a,f=>by
  let e:=Z1 m r a f;show(pL m p l$ pB m r a f).1.w.sets.length<=a.w.sets.length+(r.size+1);cases l with
  |st x t T=>have:=Ye x t (pB m r a f).1;show(i6 x t (pB m r a f).1).sets.length<=_;omega
  |_=>exact NY _
 | .ite p t T x y r,a,f | .loop p t T x r,a,f=>NY _
theorem kY:∀b:Bd,b.cuts<=b.size
 | .nil=>NQ _
 | .lf _ l r=>by
  let:=kY r;let h:l.cut<=1:=by cases l<;>first |exact NQ _ |exact NY _
  show l.cut+r.cuts<=r.size+1;omega
 | .ite _ _ _ a b r=>by let:=kY a;let:=kY b;let:=kY r;show 1+a.cuts+b.cuts+r.cuts<=a.size+b.size+r.size+1;omega
 | .loop _ _ _ a r=>by let:=kY a;let:=kY r;show 1+a.cuts+r.cuts<=a.size+r.size+1;omega
structure CK(K:β)(C:η):Prop where
 cl:pw K C
 nm:be K C "many"
 nf:be K C "found"
structure Cg(H:Hp)(C ia dx fa:η)(m:Int)(cts:tz Ct)(cs:tz V):Prop where
 ins:H ia=δ (.ins C dx [("many",.int m),("found",.ref fa)])
 fd:H fa=δ (.lst cs)
 tr:aT H (aA$ cts.map HN) .non cs
def Cg.same(h:Cg H C i d f m c a)(s:aa H b):Cg b C i d f m c a:=#[s _ _ h.ins,s _ _ h.fd,h.tr.mono$ aa.tm s]
def Cg.len(h:Cg H C i d f m c a):a.length=c.length:=by rw[zq h.tr,NO]
def Cg.tm(h:Cg H C i d f m c g)(k:aG f H a):am H a:=λb x e=>k b _ (jR e h.fd (by intro z;cases z)) e
structure Ai(H:Hp)(C ia dx fa:η)(m:Int)(cts:tz Ct)(cs:tz V)(pc:Pc)(bv:V)(g:η)(ys:tz ρ)(b:Bd):Prop where
 c:Cg H C ia dx fa m cts cs
 p:oy H pc bv g ys
 ng:g≠fa
 ok:b.Ok ys
 sz:cts.length+pc.w.sets.length+b.size<=10000000
def uQ(H:Hp)(C i d f:η)(m:Int)(y:tz ρ)(q:Pc×tz Ct)(Q:VK):Prop:=∀(v:V) (g:η) (c:tz V) (h:Hp),oy h q.1 v g y->g≠f->Cg h C i d f m q.2 c->aG f H h->Q v h
inductive og(C:η)(n:Nat)(l:tz V)(H:Hp)(Q:VK)(c:XK):Prop
 |mk(j h i a g:η)(m:Int)(d:tz Ct)(f o:tz V)(k:Pc)(e:V)(p:tz ρ)(b:Bd)(_:l=[.ref j,.ref a,e])(_:Ai H C j h i m d f k e g p b)(_:H a=δ (.tup o))(_:dX H b o)(_:b.dep < n)(_:uQ H C j h i m p (pB m b k d) Q)
inductive Gr(C:η)(n:Nat)(j:tz V)(H:Hp)(Q:VK)(a:XK):Prop
 |mk(h e f g:η)(m:Int)(b:tz Ct)(d:tz V)(i:Pc)(v c:V)(k:tz ρ)(s:Bd)(_:j=[.ref h,v,c])(_:Ai H C h e f m b d i c g k s)(_:iG H v s)(_:s.dep < n+1)(_:uQ H C h e f m k (pB m s i b) Q)
noncomputable def Bd.isCut:Bd->Bool
 | .lf _ l _=>l.isCut
 | .nil=>ν
 |_=>μ
inductive Cj(C:η)(n:Nat)(j:tz V)(H:Hp)(Q:VK)(a:XK):Prop
 |mk(h e f g:η)(m:Int)(b:tz Ct)(d:tz V)(i:Pc)(v c:V)(k:tz ρ)(s:Bd)(_:j=[.ref h,v,c])(_:Ai H C h e f m b d i c g k s)(_:iG H v s)(_:s.dep < n+1)(_:s.isCut=μ)(_:uQ H C h e f m k (pB m s i b) Q)
def io(m:Int)(c:Pc)(p:Pc)(f:tz Ct):Bd->tz Wy×tz Ct
 | .ite _ _ _ a b _=>([(pB m a p (pB m b p f).2).1.w,(pB m b p f).1.w],(pB m a p (pB m b p f).2).2)
 | .loop _ _ _ a _=>([(pB m a c f).1.w,p.w],(pB m a c f).2)
 |_=>([p.w],f)
inductive Gs(C:η)(n:Nat)(o:tz V)(H:Hp)(Q:VK)(a:XK):Prop
 |mk(i e f g h:η)(m:Int)(b:tz Ct)(d:tz V)(j k:Pc)(v c l:V)(p:tz ρ)(s:Bd)(_:o=[.ref i,v,l,c])(_:Ai H C i e f m b d j c g p s)(_:oy H k l h p)(_:h≠f)(_:k.w.sets=[])(_:iG H v s)(_:s.dep < n+1)(_:∀(wv:V) (cs':tz V) (H':Hp),aT H' (aB ((io m k j b s).1.map iF)) wv []->Cg H' C i e f m (io m k j b s).2 cs'->aG f H H'->Q wv H')
def YN(h:iG H v s)(g:s.isCut=μ)(m:Int)(c:Pc)(F:tz Ct):
  pB m s c F=(#[s.use c.M,#[[],.go$ m - (F.length:Int) - (s.cuts:Int)]],(io m #[s.use c.M,#[[],.go$ m - (F.length:Int) - (s.cuts:Int)]] c F s).2++[#[s.use c.M,s.deed,(io m #[s.use c.M,#[[],.go$ m - (F.length:Int) - (s.cuts:Int)]] c F s).1]]):=by
 cases h with
 |lf p l V d e=>
  cases l with
  |rd x t T |wr t u T U |cl x f a k=>rfl
  |st x t T |gv t T=>cases g
 |ite p t T a b q Q A B d i e j n o |loop p t T a q A d i e j=>rfl
def yW(h:oy H p v g y):∃(r:η) (W:V),v= .ref r/\H r=δ (.tup [.ref g,W])/\aT H (iF p.w) W []:=by let⟨r,s,W,e,a,c,b⟩:=h;exact#[r,W,e,a,b]
def J':aj ["self","statement","place","behind","other"] z23z (ae BU):=bN
def IC(F:aO K "ways_of" "Cutting.ways_of" BU f fd)(X:CK K C)(GB:⇑(4*n+31) fB f0 z11z (og C n))(bB:aE K f0 z11z [])(hB:bu K C "place_of_body" fB):⇑(4*n+32) f fd z23z (Gs C n):=by
 erw[F.ok J' λc3 A o1 s H vs Q E hr h=>?_]
 let⟨i,D,R,g,g2,m,d,S,y,pl,v,bv,G,Y,st,rfl,I,h6,n0,h7,hs,hd,q⟩:=h;refine#[_,(jd (jz (kh$ jy$ pv 1) (jd (jA 4 J'.nd$ kf (pv 0) X.cl hB GB hr.m bB .nil bg$ ja (jy$ pv 1)$ ja (pv 3) jb)$ jg$ jo$ ji$ ja (jr jL (kf (pv 0) X.cl hB GB hr.m bB .nil bg$ ja (jy$ pv 1)$ ja (pv 3) jb) jf (λ_ _=>Z))$ ja (jy$ pv 4) jb) jp)$ jd (jz (kh$ jy$ pv 1) (jg$ jo$ ji$ ja (jr jL (kf (pv 0) X.cl hB GB hr.m bB .nil bg$ ja (jy$ pv 1)$ ja (pv 2) jb) jf (λ_ _=>Z))$ ja (jy$ pv 3) jb) jp)$ jg$ jo$ ji$ ja (jy$ pv 3) jb),?_];let b0:=aK;let⟨br,bw,rfl,J,L⟩:=yW I.p;cases hs with
 |lf p l vs e M=>
  let f2:gY (cp$ ap (eV (cR K) (a9 3)$ tC$ sn 1) aS) { nx:=λx H'=>Q V.non H',rt:=Q } [↑i,↑p,δ G,↑br,θ] H:=by refine(ju J Z #[iQ,λr N=>q (.ref r) S _ (jF jc$ jl Z (L.mono$ aa.tm$ je N) jC) (I.c.same$ je N) (aG.of_same$ je N)])
  cases l with
  |rd x t T |st x t T |wr t u T U |cl x f q2 ts |gv t T=>let⟨rfl,_⟩:=M;refine(ju e Z #[Z,_,Z,aY WO ?_]);refine(ju e Z #[Z,_,Z,aY WO ?_]);exact f2
 |ite p t T a b qa qb as bs e h0 M h3 h4 h5=>refine(ju e Z #[Z,_,Z,c8 WO ?_]);let h8:max (max a.dep b.dep+1) 0 < n+1:=hd;let hz:d.length+y.w.sets.length+(a.size+b.size+0+1)<=10000000:=I.sz;let W:=I.ok;erw[ai λF1 f1=>#[_,Z,i,D,_,Z,I.c.ins,Z,ju e Z #[_,Z,i,D,R,qb,g,m,d,S,bs,y,.ref br,Y,b,Z,#[I.c,I.p,I.ng,W.2.2.1,WM],h3,h5,WM,λv1 g1 j H1 p1 n1 O z=>f1 _ _ ?_]]];let B:=I.c.tm z;let lc:=ky m b y d;let cb:=kY b;refine#[_,Z,i,D,_,Z,O.ins,Z,ju (B _ _ e) Z #[_,Z,i,D,R,qa,g,m,_,j,as,y,.ref br,Y,a,Z,#[O,I.p.but z I.c.fd I.ng,I.ng,W.2.1,WM],B _ _ M,h4.mono B,WM,λv2 g2 c0 H2 p2 n2 c2 k2=>?_]];let⟨r2,w2,rfl,h',a0⟩:=yW p2;let⟨r1,w1,rfl,k,o⟩:=yW (p1.but k2 O.fd n1);refine#[r2,_,_,_,Z,Z,aC.of h',Z,ju k Z #[cj,λr N=>q (.ref r) c0 _ (jF jc$ jl Z (a0.mono$ aa.tm$ je N)$ jl Z (o.mono$ aa.tm$ je N) jC) (c2.same$ je N) ((z.trans k2).trans$ aG.of_same$ je N)]]
 |loop p t T a qa as e h0 M h3=>refine(ju e Z #[Z,_,Z,aY WO ?_]);refine(ju e Z #[Z,_,Z,c8 WO ?_]);let h8:max (a.dep+1) 0 < n+1:=hd;let hz:d.length+y.w.sets.length+(a.size+0+1)<=10000000:=I.sz;let W:=I.ok;refine#[_,Z,i,D,_,Z,I.c.ins,Z,ju e Z #[_,Z,i,D,R,qa,g2,m,d,S,as,pl,G,Y,a,Z,#[I.c,h6,n0,W.2.1,by rw[h7];show d.length+0+a.size<=_;omega],M,h3,WM,λv1 g1 j H1 p1 n1 O z=>?_]];let⟨r1,w1,rfl,k,o⟩:=yW p1;let B:=I.c.tm z;refine#[r1,_,_,_,Z,Z,aC.of k,Z,ju (B _ _ J) Z #[cj,λr N=>q (.ref r) j _ (jF jc$ jl Z (o.mono$ aa.tm$ je N)$ jl Z ((L.mono B).mono$ aa.tm$ je N) jC) (O.same$ je N) (z.trans$ aG.of_same$ je N)]]
def xW:aj ["self","statement","behind","n","names","place","ways"] z8z (ae BK):=bN
def Iz(F:aO K "place_of_cut" "Cutting.place_of_cut" BK f fd)(y:CK K C)(h7:n<=7)(GW:⇑(4*n+32) fW f0 z23z (Gs C n))(bW:aE K f0 z23z [])(hW:bu K C "ways_of" fW)(cM:‹2› fM f2 ["body"] ij "many_cuts")(cU:‹31› fU f3 z3z (gU 7) "used_ahead_of")(cD:‹1› fD f4 z5z i8 "deed_of")(ml:mg "len"=θ)(m0:mg "tuple"=θ):⇑(4*n+33) f fd z8z (Cj C n):=by
 erw[F.ok xW λc0 A o1 s H vs Q E Y h=>?_]
 let⟨z,L,l,g,m,a,cs,j,v,bv,ys,st,rfl,I,B,hd,hc,q⟩:=h;refine#[_,(jd (jA 3 xW.nd$ jx zd (jx zd (ke (pv 0) Z)$ jM jG Z ml OD$ ja (ke (pv 0) Z) jb)$ cM.e Y.m$ ja (ji$ ja (pv 1) jb) jb)$ jd (jA 4 xW.nd$ cU.e Y.m$ ja (pv 1)$ ja (jy$ pv 2) jb)$ jd (jA 5 xW.nd$ ji$ ja (pv 4)$ ja (ji$ ja (ji jb)$ ja (ji$ ja jm$ ja (pv 3) jb) jb) jb)$ jd (jA 6 xW.nd$ kf (pv 0) y.cl hW GW Y.m bW .nil bg$ ja (pv 1)$ ja (pv 5)$ ja (pv 2) jb)$ jd (jH$ jZ NZ Ob Oa jO (ke (pv 0) Z)$ ja (ji$ ja (jN jP Z m0 PV$ ja (pv 4) jb)$ ja (cD.e Y.m$ ja (pv 1) jb)$ ja (pv 6) jb) jb)$ jg$ jo$ pv 5),?_];let b0:=aK;let⟨br,ss,bw,rfl,h0,hN,h1⟩:=id I.p;let hz:=I.sz;let lc:=I.c.len;erw[ai λF1 i=>#[_,Z,z,C,L,_,_,Z,I.c.ins,y.cl,y.nm,Z,_,Z,z,C,L,_,_,Z,I.c.ins,y.cl,y.nf,Z,l,_,Z,.inl$ aH.of I.c.fd,_,_,Z,Z,_,Z,iQ,λu nu=>?_]];let s1:aa H (af H u$ .tup [v]):=je nu;refine#[u,st,_,Z,jc,(B.mono$ aa.tm s1).bd,WM,λH1 k1=>#[_,_,Z,Z,i _ _ ?_]];let S:=s1.trans k1;rw[lc];erw[ai λF1 i=>#[_,Z,ju (S _ _ h0) Z #[v,g,st,ss,j.M,ys,Z,B.mono$ aa.tm S,hN.same S,I.ok,WM,WM,λG zs H2 n2 N2 k2=>i _ _ ?_]]];let s3:=S.trans k2;let N:G≠l:=λe=>by rw[e,S _ _ I.c.fd]at n2;cases n2
 erw[ai λF1 i=>#[_,Z,fc,λe ne=>#[_,Z,cj,λU O=>#[cj,λx nx=>#[cj,λr nr=>i _ _ ?_]]]]];let s4:aa H2 (af (af (af (af H2 e$ .tup []) U$ .tup [.str "go",.int$ m - (a.length:Int) - (st.cuts:Int)]) x$ .tup [.ref e,.ref U]) r$ .tup [.ref G,.ref x]):=(((je ne).trans$ je O).trans$ je nx).trans (je nr);let P4:oy (af (af (af (af H2 e$ .tup []) U$ .tup [.str "go",.int$ m - (a.length:Int) - (st.cuts:Int)]) x$ .tup [.ref e,.ref U]) r$ .tup [.ref G,.ref x]) #[st.use j.M,#[[],.go$ m - (a.length:Int) - (st.cuts:Int)]] (.ref r) G ys:=
  #[r,zs,.ref x,Z,jc,N2.same s4,jF (aq jc nr)$ jl Z (jF (aq (aq (aq jc O) nx) nr) jC)$ jl Z (jF (aq (aq jc nx) nr)$ jl Z jU$ jl Z jX jC) jC]
 generalize af (af (af (af H2 e$ .tup []) U$ .tup [.str "go",.int$ m - (a.length:Int) - (st.cuts:Int)]) x$ .tup [.ref e,.ref U]) r (.tup [.ref G,.ref x])=H4 at s4 P4;let R:=s3.trans s4;let c5:=I.c.same R;erw[ai λF1 i=>#[_,Z,z,L,_,Z,c5.ins,Z,_,Z,_,Z,_,Z,z,L,l,g,G,m,a,cs,j,_,v,.ref br,.ref r,ys,st,Z,#[c5,I.p.same R,I.ng,I.ok,I.sz],P4,N,Z,B.mono$ aa.tm R,hd,λwv D H6 w6 c6 k6=>i _ _ ?_]];let t0:=c5.tm k6;let p6:=P4.but k6 c5.fd N;let z6:H6 G=δ (.lst$ zs.map rz):=k6 _ _ N (s4 _ _ N2.at');let ez:=N2.nm.canon;let l6:=c6.len;let lw:(io m #[st.use j.M,#[[],.go$ m - (a.length:Int) - (st.cuts:Int)]] j a st).2.length+1=a.length+st.cuts:=by let:=ky m st j a;rw[YN B hc m j a,NP]at this;exact this
 let cl:=kY st;erw[ai λF1 i=>#[_,Z,z,C,L,_,_,Z,c6.ins,y.cl,y.nf,Z,.inl #[Z,_,aH.of c6.fd],_,Z,G,_,Z,.inl #[aH.of z6,λnt n0=>?_]]];let s7:aa H6 (af H6 nt$ .tup$ zs.map rz):=je n0;refine#[_,Z,v,st,Z,((B.mono$ aa.tm R).mono t0).mono$ aa.tm s7,λd H8 d8 k8=>#[_,Z,hZ,λW J=>?_]];let X:=(s7.trans k8).trans (je (o:=.tup [.ref nt,d,wv]) J);let t:=c6.same X;refine#[l,D,_,Z,Z,t.fd,WM,i _ _ ?_];let T9:aT (af H8 W$ .tup [.ref nt,d,wv]) (HN #[st.use j.M,st.deed,(io m #[st.use j.M,#[[],.go$ m - (a.length:Int) - (st.cuts:Int)]] j a st).1]) (.ref W) []:=by erw[jF jc$ jl Z (jF (aq (k8 _ _ jc) J) ?_)$ jl (HS _) (d8.mono$ aa.tm$ je J)$ jl Z (w6.mono$ aa.tm X) jC];rw[<- ez];exact Yd zs
 let p9:=p6.same X;generalize af H8 W (.tup [.ref nt,d,wv])=H9 at X t T9 p9;let k:aG l H9 (af H9 l$ .lst$ D++[.ref W]):=λb o nb e=>by rwa[jh nb]
 let T:=t.tm k;let n1:z≠l:=λe=>by let:=t.ins;rw[e,t.fd]at this;cases this
 refine#[_,Z,q (.ref r) G (D++[.ref W]) _ ?_ N ?_ (λb o nb e=>k b o nb (X _ _$ k6 b o nb$ R _ _ e))]
 .rw[YN B hc m j a];exact p9.but k t.fd N
 .rw[YN B hc m j a];refine#[k _ _ n1 t.ins,jc,?_];rw[Ol];exact Kk (jl Z (T9.mono T) jC)$ t.tr.mono T
inductive BI(C u j s a:η)(m:Int)(c:tz Ct)(x:Pc)(f:V)(z:tz ρ)(b:Bd)(y:tz V)(H:Hp)(i:Nat)(A:_L.St)(e:Hp):Prop
 |mk(d t:Bd)(v:V)(g:η)(h:tz V)(w:tT V)(k:A=[↑u,↑a,δ f,δ v,w])(l:b=d.app t)(n:dX H d (y.take (y.length - i)))(o:oy e (pB m t x c).1 v g z)(p:g≠s)(q:Cg e C u j s m (pB m t x c).2 h)(r:aG s H e)
theorem Kl(m:Int):∀(b:Bd) (c:Pc) (F:tz Ct),(pB m b c F).2.length+(pB m b c F).1.w.sets.length<=F.length+c.w.sets.length+b.size
 | .nil,_,_=>NQ _
 | .lf p l r,c,F=>by
  let e:=Kl m r c F;show(pL m p l$ pB m r c F).2.length+(pL m p l$ pB m r c F).1.w.sets.length<=F.length+c.w.sets.length+(r.size+1);cases l with
  |st x t T=>have:=Ye x t (pB m r c F).1;show(pB m r c F).2.length+(i6 x t (pB m r c F).1).sets.length<=_;omega
  |gv t T=>show(pB m r c F).2.length+0<=_;omega
  |rd x t T |wr t u T U |cl x f a d=>show((pB m r c F).2++[_]).length+0<=_;rw[NP];show _+1+0<=_;omega
 | .ite p t T x y r,c,F=>by let e:=Kl m r c F;let h:=kY x;let H:=kY y;show((pB m x _ (pB m y _ _).2).2++[_]).length+0<=F.length+c.w.sets.length+(x.size+y.size+r.size+1);rw[NP,ky m x,ky m y];show _+1+0<=_;omega
 | .loop p t T x r,c,F=>by let e:=Kl m r c F;let h:=kY x;show((pB m x _ _).2++[_]).length+0<=F.length+c.w.sets.length+(x.size+r.size+1);rw[NP,ky m x];show _+1+0<=_;omega
def MF:aj z8z z8z (ae BQ):=bN
def IB(F:aO K "place_of" "Cutting.place_of" BQ f fd)(ck:CK K C)(GC:⇑(4*n+33) fC D z8z (Cj C n))(bC:aE K D z8z [])(hC:bu K C "place_of_cut" fC)(cG:‹8› fG f0 z1z gR "place_of_give")(cS:‹11› fS f1 z3z lv "place_of_set"):⇑(4*n+34) f fd z8z (Gr C n):=by
 erw[F.ok MF λc0 A O s H vs Q E G h=>?_]
 let⟨r,J,fa,g,m,j,z,L,v,B,y,st,rfl,I,M,hd,q⟩:=h;refine#[_,(jd (jz (kh$ jy$ pv 1) (jg$ jo$ cG.e G.m$ ja (jy$ pv 1) jb) jp)$ jd (jz (kh$ jy$ pv 1) (jg$ jo$ cS.e G.m$ ja (pv 1)$ ja (pv 2) jb) jp)$ jg$ jo$ kf (pv 0) ck.cl hC GC G.m bC .nil bg$ ja (pv 1)$ ja (pv 2) jb),?_];let hz:=I.sz;let R:=M;let i:st.isCut=μ->gY (yG C "place_of_cut" (Cj C n) [] E0 (a9 0)$ ap (a9 1)$ ap (a9 2) aS) { nx:=λx k=>Q V.non k,rt:=Q } [↑r,δ v,δ B] H:=λhc=>
  #[_,Z,r,J,_,Z,I.c.ins,Z,_,Z,_,Z,r,J,fa,g,m,j,z,L,v,B,y,st,Z,I,M,hd,hc,q]
 cases M with
 |lf p l vs d o=>
  cases l with
  |rd x t T |wr t u T U |cl x f q2 ts=>let⟨rfl,_⟩:=o;refine(ju d Z #[Z,_,Z,aY WO ?_]);refine(ju d Z #[Z,_,Z,aY WO ?_]);exact i Z
  |gv t T=>
   let⟨rfl,hT⟩:=o;refine(ju d Z #[Z,_,Z,c8 WO ?_]);let Y:y.length<=21:=by let⟨_,_,_,_,_,hN,_⟩:=I.p;exact hN.y20
   exact(ju d Z #[t,T,y,Z,hT,I.ok.1,Y,λW X k p' N S=>q W X z k p' (λe=>by rw[e,I.c.fd]at N;cases N) (I.c.same S) (aG.of_same S)])
  |st x t T=>let⟨rfl,hT⟩:=o;refine(ju d Z #[Z,_,Z,aY WO ?_]);refine(ju d Z #[Z,_,Z,c8 WO ?_]);exact#[_,Z,_,Z,.ref p,B,p,t,x,T,L,g,y,Z,R,I.p,I.ok.1.1,I.ok.1.2,WM,λW X k p' N S=>q W X z k p' (λe=>by rw[e,I.c.fd]at N;cases N) (I.c.same S) (aG.of_same S)]
 |ite p t T a b qa qb as bs d h0 o h3 h4 h5 |loop p t T a qa as d h0 o h3=>refine(ju d Z #[Z,_,Z,aY WO ?_]);refine(ju d Z #[Z,_,Z,aY WO ?_]);exact i Z
def BX:aj ["self","body","behind","place","statement"] z11z (ae BJ):=bN
def Iy(F:aO K "place_of_body" "Cutting.place_of_body" BJ f fd)(ck:CK K C)(GO:⇑(4*n+34) fO T z8z (Gr C n))(bO:aE K T z8z [])(hO:bu K C "place_of" fO)(R:mg "reversed"=θ):⇑(4*n+35) f fd z11z (og C$ n+1):=by
 erw[F.ok BX λc1 A U s H vs Q E hr h=>?_]
 let⟨r,J,V,a,g,m,d,cs,xs,l,L,Y,b,rfl,I,ha,hb,hd,q⟩:=h;refine#[_,(jd (jA 3 BX.nd$ pv 2)$ jd (j6 Ot Z (@wZ _ _ _ _ _ _ _ Z R UO (pv 1) WL WL WP WP) (jw (i:=4) BX.nd Z$ ω Z)$ jg$ jA 3 BX.nd$ kf (pv 0) ck.cl hO GO hr.m bO .nil bg$ ja (pv 4)$ ja (pv 3) jb)$ jg$ jo$ pv 3),?_];let b0:=aK;let hz:=I.sz;let xl:=hb.len;erw[ai λF1 u=>#[_,Z,u _ _ ?_]];erw[ai λF1 u=>?_];erw[dD λF kF=>#[_,Z,a,xs,Z,aC.of ha,kF _ _ ?_]];refine X8 (K:=K) (xs:=xs) (BI C r J V a m d l L Y b xs H) #[b,.nil,L,g,cs,_,Z,(app_nil b).symm,by rw[SQ,OH];exact hb,I.p,I.ng,I.c,aG.refl] (λi σ H' hi h=>?_) ?_ (λσ H' h=>u _ _ ?_)
 .let⟨_,_,_,_,_,_,_,_,_,_,_,_,k⟩:=h;exact aC.of$ I.c.tm k _ _ ha
 .clear u;intro E _ i x σ H2 M fE Gq t h;let⟨pre,gq,v,W,o,o4,rfl,j,y,X,h4,N,O⟩:=h;let hi:i < xs.length:=by
   rcases SR i xs.length with z |z
   .exact z
   .rw[O6 (by simpa using z)]at M;cases M
  rw[RP hi]at M;let et:xs.take (xs.length - i)=xs.take (xs.length - (i+1))++[x]:=by
   let D:xs.length - i=(xs.length - 1 - i)+1:=by omega
   let e2:xs.length - (i+1)=xs.length - 1 - i:=by omega
   rw[D,e2,OU,M];rfl
  rw[et]at y;rcases y.last with ⟨e,_⟩ | ⟨ws,v',B,S,D,e2,h6,h7⟩
  .exact absurd e WN
  let⟨ew,ev⟩:=Vi D Z;cases ev;subst e2;let h0:=qf (j▸I.ok);let G:=qf h0.1;let a1:b.dep=max (B.app S).dep gq.dep:=by rw[j,zB]
  let a2:(B.app S).dep=max B.dep S.dep:=zB ..;let h8:S.dep<=b.dep:=by rw[a1,a2];exact N6 (Rq ..)$ RB ..
  let h':b.size=B.size+S.size+gq.size:=by rw[j,j9,j9]
  let hl:=ky m gq l d;let a0:=kY gq;let a3:=Z1 m gq l d;let a4:(pB m gq l d).1.w.sets.length+(pB m gq l d).2.length+S.size<=10000000:=by let:=Kl m gq l d;omega
  erw[t ?_];let tm:=I.c.tm O;show dJ _ _ E [↑r,↑a,δ L,δ v,δ x] H2;refine#[_,Z,r,J,_,Z,N.ins,Z,_,Z,_,Z,r,J,V,W,m,_,o,_,x,v,Y,S,Z,#[N,X,h4,G.2,WM],h7.mono tm,WM,λv3 g3 c0 H3 p3 n3 c3 k3=>fE _ _ #[B,S.app gq,v3,g3,c0,_,Z,by rw[j,app_assoc],?_,by rw[KP];exact p3,n3,by rw[KP];exact c3,O.trans k3]];rw[ew];exact h6
 .let⟨pre,gq,v,W,o,o4,rfl,j,y,X,h4,N,O⟩:=h;rw[R6]at y;let ep:pre= .nil:=by
   rcases y.last with ⟨_,e⟩ | ⟨ws,v,B,S,D,_⟩
   .exact e
   .exact absurd D WN
  rw[ep]at j;refine#[_,Z,q v W o H' ?_ h4 ?_ O]
  .rw[j];exact X
  .rw[j];exact N
def Iw:⇑k f i z11z (og C 0):=by
 let n:∀v H Q E,¬og C 0 v H Q E:=λv H Q E h=>by let⟨I,D,F,a,g,m,d,j,x,p,B,y,b,_,_,_,_,e,_⟩:=h;exact absurd e$ R0 _
 exact#[λv H Q E h=>absurd h (n v H Q E),λA o s H c u v Q E _ _ _ _ h=>absurd h (n v H Q E)]
theorem Ng(c:CK K C)(FB:aO K "place_of_body" "Cutting.place_of_body" BJ g f)(F:aO K "place_of" "Cutting.place_of" BQ A a)(i:aO K "place_of_cut" "Cutting.place_of_cut" BK D b)(j:aO K "ways_of" "Cutting.ways_of" BU E d)
  (B:aE K f z11z []) (H:bu K C "place_of_body" g) (k:aE K a z8z []) (l:bu K C "place_of" A) (o:aE K b z8z []) (p:bu K C "place_of_cut" D) (q:aE K d z23z []) (r:bu K C "ways_of" E)
  (s:‹2› T G ["body"] ij "many_cuts") (t:‹31› U I z3z (gU 7) "used_ahead_of") (u:‹1› Y J z5z i8 "deed_of") (v:‹8› fG L z1z gR "place_of_give") (x:‹11› fS N z3z lv "place_of_set") (y:mg "len"=θ) (m:mg "tuple"=θ) (M:mg "reversed"=θ):
  ∀n:Nat,n<=8->⇑(4*n+31) g f z11z (og C n)
 |0,_=>Iw
 |n+1,h=>by
  let O:=Ng c FB F i j B H k l o p q r s t u v x y m M n WM;let Q:=IC j c O B H;let R:=Iz i c WM Q q r s t u y m;let S:=IB F c R o p v x;let z:=Iy FB c S k l M;let e:4*n+35=4*(n+1)+31:=by omega
  rw[e]at z;exact z
def Z2{X:Cx}{K:β}{n:Nat}(a:X.K=K)(b:X.calm=μ)(h:GX X e t)
  (c:(assignEach e X.env).length=n) (H:(assignEach e X.env).findIdx? (·.1)=θ):PG X (.Tuple e k p) (sV K n t):=by
 subst a;exact zz b h c H
def IR(K:β):tz V->Hp->VK->Prop:=λx H Q=>∃p y,x=[.ref p]/\(aH K H p y∨aC K H p y)/\Q (.int y.length) H
def sH{X:Cx}{K:β}(h:X.K=K):dM X (.builtin "len") (IR K):=by subst h;exact jG
abbrev g3(K:β)(i j k:Nat):TG:=sV K 3 (dP (bp i)$ dP (bp j)$ dP (bp k) vK)
def Mu{t:_L.St}(h:t.length=3):∃a b c,t=[a,b,c]:=by
 cases t with
 |nil=>cases h
 |cons a r=>
  cases r with
  |nil=>cases h
  |cons b R=>
   cases R with
   |nil=>cases h
   |cons c d=>
    cases d with
    |nil=>exact#[a,b,c,Z]
    |cons _ _=>cases h
noncomputable abbrev xO:cc:=bQ 53
noncomputable abbrev rj:cc:=bQ 54
structure Df where
 f:ρ
 p:η
 pa:η
 pb:η
 b:Bd
def CJ(H:Hp)(d:Df)(v:V):Prop:=∃B,v= .ref d.p/\H d.p=δ (.tup [.str d.f,.ref d.pa,.ref d.pb])/\H d.pb=δ (.tup B)/\dX H d.b B
def dh(H:Hp):tz Df->tz V->Prop
 | [],a=>a=[]
 |d::D,a=>∃v r,a=v::r/\CJ H d v/\dh H D r
theorem CJ.mono(k:am H a)(h:CJ H d v):CJ a d v:=by let⟨b,e,c,f,g⟩:=h;exact#[b,e,k _ _ c,k _ _ f,g.mono k]
theorem dh.mono(k:am H b):∀{a:tz V},dh H D a->dh b D a:=by
 induction D with
 |nil=>exactλh=>h
 |cons d D i=>rintro a ⟨v,r,e,c,f⟩;exact#[v,r,e,c.mono k,i f]
theorem dh.snoc{d:Df}(a:CJ H d v):∀{D:tz Df} {b:tz V},dh H D b->dh H (D++[d]) (b++[v])
 | [],_,h=>by let e:_=[]:=h;rw[e];exact#[v,[],Z,a,Z]
 |_::_,_,z=>by let⟨u,r,e,c,f⟩:=z;exact #[u,r++[v],by rw[e];rfl,c,dh.snoc a f]
theorem dh.len:∀{d:tz Df} {v:tz V},dh H d v->v.length=d.length
 | [],_,h=>by let e:_=[]:=h;rw[e];rfl
 |_::_,_,z=>by let⟨u,r,e,b,a⟩:=z;rw[e,Oq,Oq,dh.len a]
theorem dh.at:∀{D:tz Df} {b:tz V},dh H D b->∀(i:Nat) (v:V),b[i]?=δ v->∃d,D[i]?=δ d/\CJ H d v
 | [],_,h,i,v,a=>by let e:_=[]:=h;rw[e]at a;simp at a
 |d::_,_,q,0,v,a=>by let⟨u,r,e,c,f⟩:=q;rw[e]at a;cases a;exact#[d,Z,c]
 |_::D,_,q,i+1,v,a=>by let⟨u,r,e,c,f⟩:=q;rw[e]at a;simpa using dh.at f i v (by simpa using a)
def oE(d:Df):Prop:=(∃y:tz ρ,y.length<=20/\d.b.Ok y)/\d.b.dep < 8/\d.b.size<=3000
noncomputable def Mx(n:η):Pc:=#[λx=>x∈(Tm.num 0).vars,#[[],.give n]]
def iz(n:η)(d:Df):Pc×tz Ct:=pB (d.b.cuts:Int) d.b (Mx n) []
def gf(n:η)(d:Df):Tr:=aB [aL d.f,uj d.pa,iF (iz n d).1.w,aB ((iz n d).2.reverse.map HN)]
def oH(K:β)(n:η):Prop:=∀H:Hp,aC K H n [.str "num",.int 0]
inductive rQ(C:η)(f:tz V)(H:Hp)(Q:VK)(c:XK):Prop
 |mk(e d a:η)(b:Bd)(g:tz V)(_:f=[.ref e,.ref a])(_:H e=δ (.ins C d []))(_:H a=δ (.tup g))(_:dX H b g)(_:b.size<=10000000)(_:∀(fa:η) (H':Hp),H fa=θ->Cg H' C e d fa (b.cuts:Int) [] []->aG e H H'->Q .non H')
inductive nq(K:β)(c:η)(e:tz V)(H:Hp)(Q:VK)(a:XK):Prop
 |mk(d:Df)(b:tz V)(_:e=[.str d.f,.ref d.pa,.ref d.pb])(_:H d.pb=δ (.tup b))(_:dX H d.b b)(_:oE d)(_:∀(v:V) (H':Hp),aT H' (gf c d) v []->aa H H'->Q v H')
inductive nh(K:β)(e:η)(f:tz V)(H:Hp)(Q:VK)(b:XK):Prop
 |mk(a:η)(c:tz Df)(g:tz V)(_:f=[.ref a])(_:H a=δ (.tup g))(_:dh H c g)(_:c.length<=1000)(_:∀d∈c,oE d)(_:∀(v:V) (H':Hp),aT H' (aB (c.map (gf e))) v []->aa H H'->Q v H')
def sK{K:β}{t:TE}{Q:tz V->Hp->Prop}{H:Hp}(x:H a=δ (.tup g))(u:dh H D g)(R:D.length<=1000)
  (Pv:Nat->tz V->Hp->Prop) (z:Pv 0 [] H) (A:∀i Y h,Pv i Y h->aa H h/\Y.length<=i)
  (C:∀i d B Y h,D[i]?=δ d->h d.pb=δ (.tup B)->dX h d.b B->Pv i Y h->t (δ (.str d.f)::δ (.ref d.pa)::δ (.ref d.pb)::l) h λy j=>Pv (i+1) (Y++[y]) j)
  (E:∀Y h,Pv D.length Y h->Q Y h):dY (Aa K a) 3 l (g3 K 0 1 2) nB t Q H:=by
 let F:=aK;let S:=u.len;refine#[λi m Y h=>m=D.length - i/\i<=D.length/\Pv i Y h,#[D.length,WN,NY _,z],?_];intro i m Y h c;let⟨rfl,T,p⟩:=c;let⟨s,U⟩:=A i Y h p;let c:aC K h a g:=aC.of (s _ _ x);by_cases n:i < D.length
 .let I:i < g.length:=by omega
  erw[.inr #[#[g,g[i],c,NK I],WM,Pv$ i+1,λJ j L=>#[D.length - (i+1),WM,Z,n,L],λv j W o y=>?_]];let⟨e,y⟩:=y;subst e;let q:=y g c;let⟨d,r,B,rfl,M,N,O⟩:=(u.mono$ aa.tm s).at i v q;let⟨X,t2,t3,rfl⟩:=Mu o;refine#[d.p,_,Z,aC.of M,Z,_,_,Z,_,_,Z,_,_,Z,Z,#[[δ _,δ _,δ _],Z,Z],?_];exact C i d B Y j r N O p
 .let e:i=D.length:=by omega
  subst e;exact .inl #[#[g,c,WM],E Y h p]
def IZ:aj ["self","body"] ["self","body"] (ae xH):=bN
def EY(F:aO K "__init__" "Cutting.__init__" xH f t)(d:CK K C)(u:‹2› M v ["body"] ij "many_cuts"):⇑3 f t ["self","body"] (rQ C):=by
 erw[F.ok IZ λy A O s H V Q E B h=>?_]
 let⟨i,D,a,b,x,rfl,G,I,J,L,q⟩:=h;refine#[_,(jd (@zL _ _ _ _ _ _ _ _ (pv 0) (u.e B.m$ ja (pv 1) jb) Z)$ jg$ @zL _ _ _ _ _ _ _ _ (pv 0) (jE jb) Z),?_];erw[ai λS l=>#[_,Z,a,b,x,Z,I,J,L,λT k=>#[_,Z,i,C,D,_,Z,k _ _ G,d.cl,d.nm,WL,l _ _ ?_]]];refine#[fc,λg n=>#[_,Z,i,C,D,_,Z,aq jc n,d.cl,d.nf,(by show 1 < 1000;decide),?_]];let N:g≠i:=λe=>by rw[e,jc]at n;cases n
 let p:H g=θ:=by
  cases e:H g with
  |none=>rfl
  |some o=>rw[jh N,k _ _ e]at n;cases n
 refine q g _ p #[jc,by rw[jh N,jc],Z] λc o r e=>?_;rw[jh r,jh (λz=>by rw[z,p]at e;cases e),jh r];exact k _ _ e
def pf:aj ["name","params","body","cutting","first"] z18z (ae xO):=bN
def Bc(F:ti K "part_made" xO f fd)(t:CK K C)(mk:Mk K C fI)(GI:⇑3 fI u ["self","body"] (rQ C))(bI:aE K u ["self","body"] [])(mC:mg "Cutting"=↑C)(M:mg "NOUGHT"=↑n)(no:oH K n)(GB:⇑63 fB x z11z (og C 8))(bB:aE K x z11z [])(hB:bu K C "place_of_body" fB)(cG:‹8› fG f0 z1z (rV K) "place_of_give")(y:mg "tuple"=θ)(z:mg "reversed"=θ):⇑64 f fd z18z (nq K n):=by
 erw[F.ok pf λc0 A O s H vs Q E B h=>?_]
 let⟨d,G,rfl,hb,a,I,q⟩:=h;refine#[_,(jd (jA 3 pf.nd$ ZQ mk GI B.m Z mC bI .nil bg$ ja (pv 2) jb)$ jd (jA 4 pf.nd$ kf (pv 3) t.cl hB GB B.m bB .nil bg$ ja (pv 2)$ ja (cG.e B.m$ ja (Jf (v:=.ref n) Z M Z) jb) jb)$ jg$ jo$ ji$ ja (pv 0)$ ja (pv 1)$ ja (jy$ pv 4)$ ja (@ug _ _ _ _ _ _ _ _ _ Z Z y PV Z z UO (ke (pv 3) Z) WL WL WL WL WP WP WP WP) jb),?_];let b0:=aK;obtain⟨⟨ys,y0,ok⟩,J,hz⟩:=I;erw[ai λF1 j=>#[_,Z,λi D N L n0=>?_]];let S:aa H (af (af H D$ .own i) i$ .ins C D []):=λc o e=>by rwa[jh$ jk e N,jh$ jk e L]
 refine#[i,D,d.pb,d.b,G,Z,jc,S _ _ hb,a.mono$ aa.tm S,WM,λp H1 nf R k1=>#[Z,j _ _ ?_]];let s1:aa H H1:=λc o e=>k1 c o (jk e N) (S _ _ e);let T:H p=θ:=S.free nf;erw[ai λF1 j=>#[_,Z,i,D,_,Z,R.ins,Z,_,Z,n,ys,Z,no _,WM,λv g H2 p2 n2 k2=>?_]];let ng:g≠p:=λe=>by rw[e,R.fd]at n2;cases n2
 let U:=s1.trans k2;refine#[i,D,p,d.pb,g,_,[],[],G,Mx n,v,ys,d.b,Z,#[R.same k2,p2,ng,ok,by show 0+0+d.b.size<=_;omega],U _ _ hb,a.mono$ aa.tm U,J,λv3 g3 k V p3 n3 W k3=>j _ _ ?_];let⟨r3,w3,rfl,X,Y⟩:=yW p3;let s3:aa H V:=λc o e=>k3 c o (jk e T) (U _ _ e);refine#[_,Z,_,Z,ju X Z #[_,Z,i,C,D,_,_,Z,W.ins,t.cl,t.nf,Z,p,k,Z,aH.of W.fd,λl nl=>#[rY,λr nr=>?_]]];let s5:aa V (af (af V l$ .tup k.reverse) r$ .tup [.str d.f,.ref d.pa,w3,.ref l]):=(je nl).trans (je nr);erw[q (.ref r) _ ?_$ s3.trans s5];erw[jF jc$ jl Z jU$ jl Z JJ$ jl Z (Y.mono$ aa.tm s5)$ jl Z (jF (aq jc nr) ?_) jC];let e:=Z0 (W.tr.mono$ aa.tm s5);rw[<- List.map_reverse]at e;exact e
def Gj:aj ["program"] ["program"] (ae rj):=bN
noncomputable def yl:hY:=#[.function,[(".0",.local),("name",.local),("params",.local),("body",.local),("part_made",.globalImplicit)],ν,ν,[]]
def wq:(z18z:tz ρ).Nodup:=by decide+kernel
def HL:ba ["program"] (ae rj) yl z18z 3 []:=oM
def A7(F:ti K "made" rj f p)(C:‹64› U t z18z (nq K N) "part_made")(M:mg "tuple"=θ):⇑65 f p ["program"] (nh K N):=by
 erw[F.ok Gj λu A o s H V Q E x h=>?_]
 let⟨a,D,X,rfl,g,y,B,O,q⟩:=h;refine#[_,(jg$ jo$ jN jP Z M PV$ ja (@zp _ _ _ _ _ _ _ (z18z) (3) ([]) _ _ _ _ Z (qo$ pv 0) HL (λ_ _ _ _ _=>(Z2 (K:=K) (n:=3) Z Z (jB (jw (i:=0) wq Z$ ω Z)$ jB (jw (i:=1) wq Z$ ω Z)$ jB (jw (i:=2) wq Z$ ω Z) kj) Z Z)) (λ_ _ _ _ _=>(@zM _)) (λ_ _ _ _ _=>(C.e x.m$ ja (pv 0)$ ja (pv 1)$ ja (pv 2) jb)) (by intro _;rfl)) jb),?_];refine#[_,Z,a,Z,#[_,aC.of g],?_];erw[sK g y B (λi V b=>aT b (aA ((D.take i).map$ gf N)) .non V/\aa H b/\i<=D.length) #[Z,aa.refl _,NY _] (λi V b h=>#[h.2.1,?_]) (λi d G V b c I J h=>?_) (λV b h l L=>?_)]
 .rw[zq h.1,NO,Oh];exact S0 ..
 .let R:i < D.length:=by
   rcases SR i D.length with z |z
   .exact z
   .rw[O6 z]at c;cases c
  refine#[_,Z,_,Z,_,Z,d,G,Z,I,J,O d$ Og c,λv Y T j=>#[?_,h.2.1.trans j,R]];rw[OU,c,Ol];exact Kk (jl Z T jC)$ h.1.mono$ aa.tm j
 .refine#[l,V,Z,.inl #[aH.of jc,λr S=>?_]];let s:aa b (af (af b l$ .lst V) r$ .tup V):=(je L).trans (je S);erw[q (.ref r) _ (jF jc ?_)$ h.2.1.trans s];let e:=h.1;rw[OH]at e;exact e.mono$ aa.tm s
noncomputable abbrev xQ:cc:=bQ 64
noncomputable abbrev xR:cc:=bQ 65
noncomputable abbrev rf:cc:=bQ 66
def aZ(p q:η)(H h:Hp):Prop:=∀b o,b≠p->b≠q->H b=δ o->h b=δ o
def aZ.refl:aZ p q H H:=λ_ _ _ _ h=>h
def aZ.trans(a:aZ p q H d)(b:aZ p q d e):aZ p q H e:=λc o n m h=>b c o n m (a c o n m h)
def aG.two(a:aG p H b):aZ p q H b:=λc o n _ h=>a c o n h
def aZ.of_same(a:aa H b):aZ p q H b:=λc o _ _ h=>a c o h
def aZ.at:aZ p q H (af H q o):=λb u _ m e=>by rwa[jh m]
def dS(H:Hp)(q:η):Prop:=∃k:Int,H q=δ (.lst [.int k])
def dS.new{o:HO}(h:dS H q)(n:H r=θ):dS (af H r o) q:=let #[k,e]:=h;#[k,aq e n]
def dS.ne(h:dS H q)(B:ax H p):q≠p:=by let⟨k,e⟩:=h;let⟨a,b,_,_,_,d⟩:=B.ob;exact jR e d (by intro z;cases z)
def dS.but(h:dS H q)(B:ax H p)(k:aG p H a):dS a q:=by let n:=h.ne B;let⟨z,e⟩:=h;exact#[z,k _ _ n e]
def aZ.tm(k:aZ p q H h)(B:ax H p)(s:dS H q):am H h:=λb x e=>by let⟨a,c,_,_,_,f⟩:=B.ob;let⟨z,g⟩:=s;exact k b _ (jR e f (by intro w;cases w)) (jR e g (by intro w;cases w)) e
noncomputable def hX(H:Hp)(q:η):Int:=match H q with
 |some (.lst [.int k])=>k
 |_=>0
def JK{H:Hp}(e:H q=δ (.lst [.int k])):hX H q=k:=by unfold hX;rw[e]
def YO{h:Hp}(s:dS H q)(k:∀o,H q=δ o->h q=δ o):hX h q=hX H q:=by let⟨z,e⟩:=s;rw[JK e,JK$ k _ e]
def kM(B:ax H p)(s:dS H q)(k:aG p H h):hX h q=hX H q:=YO s λo e=>k _ _ (s.ne B) e
def kG(s:dS H q)(k:aa H h):hX h q=hX H q:=YO s λo e=>k _ _ e
def LI(H:Hp)(c:ρ×tz ρ)(v:V):Prop:=∃p t,v= .ref p/\H p=δ (.tup [.str c.1,.ref t])/\H t=δ (.tup$ c.2.map rz)
def eJ(H:Hp):tz (ρ×tz ρ)->tz V->Prop
 | [],a=>a=[]
 |c::C,a=>∃v r,a=v::r/\LI H c v/\eJ H C r
theorem eJ.mono(k:am H b):∀{c:tz (ρ×tz ρ)} {a:tz V},eJ H c a->eJ b c a
 | [],_,h=>h
 |_::_,_,z=>by obtain⟨v,r,e,⟨p,t,E,d,f⟩,g⟩:=z;exact #[v,r,e,#[p,t,E,k _ _ d,k _ _ f],eJ.mono k g]
theorem eJ.snoc(a:LI H c v):∀{C:tz (ρ×tz ρ)} {b:tz V},eJ H C b->eJ H (C++[c]) (b++[v])
 | [],_,h=>by let e:_=[]:=h;rw[e];exact#[v,[],Z,a,Z]
 |_::_,_,z=>by let⟨u,r,e,d,f⟩:=z;exact #[u,r++[v],by rw[e];rfl,d,eJ.snoc a f]
theorem eJ.len:∀{c:tz (ρ×tz ρ)} {v:tz V},eJ H c v->v.length=c.length
 | [],_,h=>by let e:_=[]:=h;rw[e];rfl
 |_::_,_,z=>by let⟨u,r,e,b,a⟩:=z;rw[e,Oq,Oq,eJ.len a]
theorem eJ.at:∀{C:tz (ρ×tz ρ)} {b:tz V},eJ H C b->∀(i:Nat) (v:V),b[i]?=δ v->∃c,C[i]?=δ c/\LI H c v
 | [],_,h,i,v,a=>by let e:_=[]:=h;rw[e]at a;simp at a
 |c::_,_,q,0,v,a=>by let⟨u,r,e,d,f⟩:=q;rw[e]at a;cases a;exact#[c,Z,d]
 |_::C,_,q,i+1,v,a=>by let⟨u,r,e,d,f⟩:=q;rw[e]at a;simpa using eJ.at f i v (by simpa using a)
def FN(h:eJ H C a)(i:0<=k)(j:k < (a.length:Int)):∃v c,eM a k=δ v/\c∈C/\LI H c v:=by
 let b:k.toNat < a.length:=by omega
 let d:k=((k.toNat:Nat):Int):=by omega
 let E:a[k.toNat]?=δ a[k.toNat]:=NK b;let e:eM a ((k.toNat:Nat):Int)=δ a[k.toNat]:=jK E;rw[<- d]at e;let⟨c,f,g⟩:=h.at _ _ E;exact#[_,c,e,Og f,g]
def Bd.fit(h:tz (ρ×tz ρ))(y:tz ρ)(d:Nat)(b:Bd):Prop:=(b.Ok y/\b.Cs (h.map λc=>(c.1,c.2.length)))/\b.dep<=d
def Z3:Bd.fit h y d .nil:=#[#[trivial,trivial],NY _]
def Ec{H:tz (ρ×tz ρ)}{l:Lf}(h:l.Ok y)(k:l.Cs (H.map λc=>(c.1,c.2.length))):Bd.fit H y d (.lf p l .nil):=#[#[#[h,trivial],k,trivial],NY _]
def Z4{a b:Bd}(h:a.fit H y d)(k:b.fit H y d):(a.app b).fit H y d:=#[#[KO h.1.1 k.1.1,KN h.1.2 k.1.2],by rw[zB];let:=h.2;let:=k.2;omega]
def AC{a b:Bd}(c:dI y T)(h:a.fit H y d)(k:b.fit H y d):Bd.fit H y (d+1) (.ite p t T a b .nil):=#[#[#[c,h.1.1,k.1.1,trivial],h.1.2,k.1.2,trivial],by show max (max a.dep b.dep+1) 0<=d+1;let:=h.2;let:=k.2;omega]
def vE{a:Bd}(H:dI y T)(h:a.fit b y d):Bd.fit b y (d+1) (.loop p t T a .nil):=#[#[#[H,h.1.1,trivial],h.1.2,trivial],by show max (a.dep+1) 0<=d+1;let:=h.2;omega]
noncomputable def Nk:Nat->Nat
 |0=>1
 |d+1=>1+2*(5*Nk d)
inductive lD(b:tz V)(H:Hp)(Q:VK)(a:XK):Prop
 |mk(p g:η)(c:tz ρ)(_:b=[.ref p,.ref g])(_:ax H p)(_:H g=δ (.lst (c.map rz)))(_:1<=c.length)(_:c.length<=20)(_:∀(r:η) (T:Tm) (H':Hp),bG H' T r->dI c T->ax H' p->aG p H H'->Q (.ref r) H')
structure ou(H:Hp)(p g h sp:η)(ys:tz ρ)(hs:tz (ρ×tz ρ)):Prop where
 B:ax H p
 g:H g=δ (.lst$ ys.map rz)
 y1:1<=ys.length
 y2:ys.length<=20
 h:∃hv,H h=δ (.lst hv)/\eJ H hs hv
 h1:1<=hs.length
 h2:hs.length<=20
 h3:∀c∈hs,c.2.length<=6
 s:dS H sp
def ou.gsp{H:Hp}{p g h S:η}{y:tz ρ}{b:tz (ρ×tz ρ)}(G:ou H p g h S y b):g≠S:=by
 let⟨k,e⟩:=G.s;erw[jR G.g e λz=>?_];injection z with z;let c:=G.y1
 match y,c,z with
 |a::r,_,z=>injection z with d _;cases d
def ou.hsp{H:Hp}{p g h S:η}{y:tz ρ}{f:tz (ρ×tz ρ)}(G:ou H p g h S y f):h≠S/\h≠p:=by
 let⟨k,e⟩:=G.s;let⟨j,E,l⟩:=G.h;let⟨a,b,_,_,_,m⟩:=G.B.ob;let n:=G.h1;let:∃q r,j= .ref q::r:=by
  match f,n,l with
  |c::C,_,#[v,r,e,#[q,t,o,_],_]=>exact#[q,r,by rw[e,o]]
 let⟨q,r,rfl⟩:=this;refine#[jR E e λz=>?_,jR E m λz=>?_]
 .injection z with z;injection z with d _;cases d
 .injection z with z;injection z with d _;cases d
def ou.but2{H a:Hp}{p g h S:η}{y:tz ρ}{b:tz (ρ×tz ρ)}(G:ou H p g h S y b)(B:ax a p)(s:dS a S)(k:aZ p S H a):ou a p g h S y b:=by let⟨c,e,E⟩:=G.h;exact#[B,k _ _ (qE G.B G.g) G.gsp G.g,G.y1,G.y2,#[c,k _ _ G.hsp.2 G.hsp.1 e,E.mono$ k.tm G.B G.s],G.h1,G.h2,G.h3,s]
theorem ou.but{H a:Hp}{p g h S:η}{y:tz ρ}{b:tz (ρ×tz ρ)}(G:ou H p g h S y b)(B:ax a p)(k:aG p H a):ou a p g h S y b:=G.but2 B (G.s.but G.B k) k.two
inductive lY(n:Nat)(f:tz V)(H:Hp)(Q:VK)(a:XK):Prop
 |mk(p g h e:η)(d:Nat)(i:tz ρ)(c:tz (ρ×tz ρ))(_:f=[.ref p,.ref g,.ref h,.ref e,.int (d:Int)])(_:ou H p g h e i c)(_:d < n)(_:0 < hX H e)(_:∀(r:η) (b:Bd) (H':Hp),dX H' b [.ref r]->(b.size:Int)+hX H' e<=hX H e->0<=hX H' e->b.fit c i d->ax H' p->dS H' e->aZ p e H H'->Q (.ref r) H')
inductive ig(n:Nat)(f:tz V)(H:Hp)(Q:VK)(a:XK):Prop
 |mk(p g h e:η)(d:Nat)(i:tz ρ)(c:tz (ρ×tz ρ))(_:f=[.ref p,.ref g,.ref h,.ref e,.int (d:Int)])(_:ou H p g h e i c)(_:d < n)(_:0<=hX H e)(_:∀(r:η) (b:Bd) (bs:tz V) (H':Hp),H' r=δ (.tup bs)->dX H' b bs->(b.size:Int)+hX H' e<=hX H e->0<=hX H' e->b.fit c i d->ax H' p->dS H' e->aZ p e H H'->Q (.ref r) H')
def yi:aj ["_law_box_here","_law_names_here","_law_kind"] z28z (ae xQ):=bN
def Bg(F:ti K "_law_spot" xQ f M)(C:‹1› Y N z0z a7 "_law_take")(O:‹6› fM R z10z (dq 4) "_law_term"):⇑7 f M z28z lD:=by
 erw[F.ok yi λS A o s H vs Q E a h=>?_]
 let⟨p,g,y,rfl,B,I,i,j,q⟩:=h;refine#[_,(jd (jA 2 yi.nd$ C.e a.m$ ja (pv 0)$ ja jf jb)$ jd (jz (jD QI (pv 2) jf$ aI _) (jg$ jo$ O.e a$ ja (pv 0)$ ja (pv 1)$ ja jf jb) jp)$ jd (jz (zk$ pv 2) (jg$ jo$ ji$ ja jm$ ja (jx zd (jx zd (jx JI jf jf) jf)$ C.e a.m$ ja (pv 0)$ ja jf jb) jb) jp)$ jg$ jo$ ji$ ja jm$ ja (C.e a.m$ ja (pv 0)$ ja jf jb) jb),?_];let k:g≠p:=qE B I;refine#[_,Z,p,8,Z,B,WL,WL,λkd J k0 k1 l L=>?_];let t:J g=δ (.lst$ y.map rz):=by rw[L g k];exact I
 let u:aG p H J:=aG.of_eq L;refine#[_,Z,_,_,Z,Z,_,Z,?_];erw[cg (λc=>?_) (λc=>?_)]
 .exact#[_,Z,_,Z,p,g,1,y,Z,l,t,i,j,WL,WL,λr T v U dT W b X=>q r T v U #[W,WM] b (u.trans X)]
 refine#[_,Z,Z,_,Z,?_];erw[cg (λc=>?_) (λc=>?_)]
 .refine#[_,_,Z,Z,#[WL,WL,WL],_,_,Z,Z,_,Z,p,4,Z,l,WL,WL,λD v d x b z=>#[_,_,Z,Z,cj,λr n=>?_]];exact q r (.num (1000000000000000000 - 1 - D)) _ jc #[#[WM,WM],(by show 0 < 6;decide)] (b.upd_new n) ((u.trans$ aG.of_eq z).upd_new n)
 .refine#[_,Z,p,12,Z,l,WL,WL,λD v d x b z=>#[cj,λr n=>?_]];exact q r (.num D) _ jc #[#[d,WM],(by show 0 < 6;decide)] (b.upd_new n) ((u.trans$ aG.of_eq z).upd_new n)
def lU:aj z40z z6z (ae xR):=bN
noncomputable def uB:hY:=#[.function,[(".0",.local),("_law_one",.local),("_law_term",.globalImplicit),("_law_box_here",.free),("_law_names_here",.free)],ν,ν,[]]
def EA:(z35z:tz ρ).Nodup:=by decide+kernel
def D3:ba z40z (ae xR) uB z35z 1 [0,1]:=oM
def RH(p g h s:η)(d:Nat)(k:Int)(y:ρ)(H:Hp)(a:_L.St)(b:Hp):Prop:=a=[↑p,↑g,↑h,↑s,δ$ .int (d:Int),δ$ .int k,δ$ .str y,θ,θ,θ]/\b=H
def Fj(F:ti K "_law_statement" xR f fd)(cT:‹1› fT f0 z0z a7 "_law_take")(cM:‹6› fM f3 z10z (dq 4) "_law_term")(cP:‹7› fP f4 z28z lD "_law_spot"){L:Nat}(cB:‹L+9› fB f5 z6z (ig n) "_law_body")(ml:mg "len"=θ)(m0:mg "tuple"=θ):⇑(L+10) f fd z6z (lY$ n+1):=by
 erw[F.ok lU λc3 A o2 s H vs Q E U h=>?_]
 let⟨p,g,h,S,d,ys,hs,rfl,G0,hd,b5,q⟩:=h;refine#[_,(jd (jA 5 lU.nd$ cT.e U.m$ ja (pv 0)$ ja jf jb)$ jd (jA 6 lU.nd$ jr jv (pv 1) (cT.e U.m$ ja (pv 0)$ ja (jM jG Z ml OD$ ja (pv 1) jb) jb) (λ_ _=>Z))$ jd (zA (jx zd (jr jv (pv 3) jf (λ_ _=>Z)) jf)$ qY (pv 3) jf zQ)$ jd (jz (jD QI (pv 5) jf$ aI _) (jg$ jo$ ji$ ja jm$ ja (pv 6)$ ja (cP.e U.m$ ja (pv 0)$ ja (pv 1) jb) jb) jp)$ jd (jz (PW.pt$ XQ (zk$ pv 5)$ KI$ zk$ pv 5) (jg$ jo$ ji$ ja jm$ ja (cP.e U.m$ ja (pv 0)$ ja (pv 1) jb)$ ja (cM.e U.m$ ja (pv 0)$ ja (pv 1)$ ja jf jb) jb) jp)$ jd (jz (PW.pt$ XQ (zk$ pv 5)$ KI$ zk$ pv 5) (jd (zA (jr jv (pv 2) (cT.e U.m$ ja (pv 0)$ ja (jM jG Z ml OD$ ja (pv 2) jb) jb) (λ_ _=>Z))$ zz (n:=2) Z$ jB (jw (i:=7) lU.nd Z$ ω Z)$ jB (jw (i:=8) lU.nd Z$ ω Z) kj)$ jg$ jo$ ji$ ja jm$ ja (pv 6)$ ja (pv 7)$ ja (jN jP Z m0 PV$ ja (@zp _ _ _ _ _ _ _ (z35z) (1) ([0,1]) _ _ _ _ Z (qo$ pv 8) D3 (λ_ _ _ _ _=>(jw (i:=0) EA Z$ ω Z)) (λ_ _ _ _ _=>(@zM _)) (λ_ _ _ _ _=>(cM.e U.m$ ja (pv 1)$ ja (pv 2)$ ja jf jb)) (by intro _;rfl)) jb) jb) jp)$ jd (ki$ jz (PW.pt$ JH (zk$ pv 5)$ qM$ jD JX (pv 4) jf$ aI _) (jd (jA 9 lU.nd$ cB.e U$ ja (pv 0)$ ja (pv 1)$ ja (pv 2)$ ja (pv 3)$ ja (jx zd (pv 4) jf) jb)$ jg$ jo$ ji$ ja jm$ ja (cM.e U.m$ ja (pv 0)$ ja (pv 1)$ ja jf jb)$ ja (pv 9)$ ja (cB.e U$ ja (pv 0)$ ja (pv 1)$ ja (pv 2)$ ja (pv 3)$ ja (jx zd (pv 4) jf) jb) jb) jp)$ jd (ki$ jz (PW.pt$ JH (zk$ pv 5)$ qM$ jD JX (pv 4) jf$ aI _) (jg$ jo$ ji$ ja jm$ ja (cM.e U.m$ ja (pv 0)$ ja (pv 1)$ ja jf jb)$ ja (cB.e U$ ja (pv 0)$ ja (pv 1)$ ja (pv 2)$ ja (pv 3)$ ja (jx zd (pv 4) jf) jb) jb) jp)$ jd (jz (zk$ pv 5) (jg$ jo$ ji$ ja jm$ ja (cM.e U.m$ ja (pv 0)$ ja (pv 1)$ ja jf jb) jb) jp)$ jg$ jo$ ji$ ja jm$ ja (pv 6)$ ja (cM.e U.m$ ja (pv 0)$ ja (pv 1)$ ja jf jb) jb),?_];let b7:=aK;let B:=G0.B;let b8:g≠p:=qE B G0.g;erw[ai λF1 u=>#[_,Z,p,10,Z,B,WL,WL,λkd H1 k0 k1 B1 e1=>u _ _ ?_]];let G1:=G0.but B1 (aG.of_eq e1);let y1:=G0.y1;let y2:=G0.y2;refine ai λF1 u=>#[_,Z,_,Z,_,Z,g,_,Z,.inl$ aH.of G1.g,p,_,Z,B1,by rw[NO];omega,by rw[NO];omega,λd2 H2 d1 d0 B2 e2=>?_];rw[NO]at d0;let G2:=G1.but B2 (aG.of_eq e2);let⟨y,hy,a2⟩:=KM (ys:=ys) d1 d0;refine#[g,_,_,_,Z,Z,aH.of G2.g,a2,u _ _ ?_];let⟨k,hk⟩:=G2.s;let ek:hX H S=k:=((kM B1 G1.s$ aG.of_eq e2).trans$ kM B G0.s$ aG.of_eq e1).symm.trans (JK hk);erw[ai λF1 u=>#[_,Z,S,_,_,_,Z,Z,aH.of hk,Z,_,_,Z,Z,_,Z,S,_,_,0,Z,Z,hk,Z,u _ _ ?_]];let s0:=G2.s.ne B2;let B3:ax (af H2 S$ .lst ([.int k].set 0 (.int$ k - 1))) p:=B2.eq (jh$ Ou s0);let s3:dS (af H2 S$ .lst ([.int k].set 0 (.int$ k - 1))) S:=#[k - 1,jc];let K3:aZ p S H (af H2 S$ .lst ([.int k].set 0 (.int$ k - 1))):=((aG.of_eq e1).trans$ aG.of_eq e2).two.trans aZ.at;let G:=G0.but2 B3 s3 K3;let e3:hX (af H2 S$ .lst ([.int k].set 0 (.int$ k - 1))) S=k - 1:=JK jc;generalize af H2 S (.lst ([.int k].set 0 (.int$ k - 1)))=H3 at B3 s3 K3 G e3;let l0:∀(l:Lf) (M:tz V) (j:Hp) (r:η),Aj j l M->l.Ok ys->l.Cs (hs.map λc=>(c.1,c.2.length))->ou j p g h S ys hs->aZ p S H j->hX j S=k - 1->j r=θ->Q (.ref r) (af j r$ .tup M):=λl M j r hl ok cs C K4 e4 nr=>
  q r (.lf r l .nil) _ #[M,[],Z,jc,hl.mono$ aa.tm$ je nr,Z] (by rw[kG C.s$ je nr];show((0+1:Nat):Int)+_<=_;omega) (by rw[kG C.s$ je nr];omega) (Ec ok cs) (C.B.upd_new nr) (C.s.new nr) (K4.trans$ aZ.of_same$ je nr)
 erw[ai λF1 u=>pP λG' D=>#[_,Z,_,_,Z,Z,_,Z,D _ _ ?_]];erw[cg (λc=>?_) (λc=>u _ _ ?_)]
 .refine#[_,Z,_,Z,_,Z,p,g,ys,Z,G.B,G.g,y1,y2,λr T j W oT B4 J=>#[hZ,λt N=>?_]];exact l0 (.rd y r T) _ j t #[Z,W] #[hy,oT] trivial (G.but B4 J) (K3.trans J.two) ((kM G.B G.s J).trans e3) N
 let wr:∀(r:η) (T0:Tm) (j:Hp),bG j T0 r->dI ys T0->ax j p->aG p H3 j->eU (dq 4) [] E0 (ap (a9 0)$ ap (a9 1)$ ap (tC$ .int 2) aS) [↑p,↑g,↑h,↑S,δ$ .int (d:Int),δ$ .int kd,δ$ .str y,θ,θ,θ] j (λv o=>3<=τ/\∀t,o t=θ->Q (.ref t) (af o t$ .tup [.str "write",.ref r,v])):=λr T0 j h4 o1 B4 J=>by refine#[_,Z,_,Z,p,g,2,ys,Z,B4,(G.but B4 J).g,y1,y2,WL,WL,λX T o W dT gT R a=>#[WL,λt N=>?_]];exact l0 (.wr r X T0 T) _ o t #[Z,h4.but B4 a,W] #[o1,gT,WM] trivial (G.but R$ J.trans a) (K3.trans (J.trans a).two) ((kM G.B G.s$ J.trans a).trans e3) N
 erw[ai λF1 u=>pP λG' D=>?_];let Y:G' μ H3:=D _ _ (nM #[_,Z,_,Z,p,g,ys,Z,G.B,G.g,y1,y2,λr T0 j h4 o1 B4 J=>wr r T0 j h4 o1 B4 J]);refine#[_,Z,Z,_,Z,cg (λc=>Y) (λc=>#[_,Z,Z,_,Z,CT Y λc2=>D _ _ (aY c2$ u _ _ ?_)])];let⟨hv,hh,hH⟩:=G.h;let hl:=hH.len;let h1:=G0.h1;let h2:=G0.h2;let c1:∀(f':ρ) (ps:tz ρ) (h':(f',ps.length)∈hs.map λc=>(c.1,c.2.length)) (t:η) (j:Hp),ou j p g h S ys hs->aZ p S H j->hX j S=k - 1->j t=δ (.tup$ ps.map rz)->ps.length<=6->
   dY (Aa K t) 1 [↑p,↑g] (bp 0) nB (eU (dq 4) [] E0$ ap (a9 1)$ ap (a9 2)$ ap (tC$ .int 1) aS) (λM o=>∀l,o l=θ->∃p' y0,[tf l]=[.ref p']/\((aH K (af o l$ .lst M) p' y0/\∀l2,af o l (.lst M) l2=θ->4<=τ/\∀r,af (af o l$ .lst M) l2 (.tup y0) r=θ->Q (.ref r) (af (af (af o l$ .lst M) l2$ .tup y0) r$ .tup [.str "call",.str y,.str f',.ref l2]))∨(aC K (af o l$ .lst M) p' y0/\4<=τ/\∀r,af o l (.lst M) r=θ->Q (.ref r) (af (af o l$ .lst M) r$ .tup [.str "call",.str y,.str f',.ref p'])))) j:=λf' ps h' t j C K4 e4 ht b9=>by
  refine qR (K:=K) (xs:=ps.map rz) (by rw[NO];omega) (λi M o=>∃ts:tz (η×Tm),M=ts.map (λc=>tf c.1)/\ts.length=i/\(∀c∈ts,bG o c.2 c.1/\dI ys c.2)/\ax o p/\aG p j o) #[[],Z,Z,(λ_ h=>absurd h Ov),C.B,aG.refl] (λi M o h5=>?_) ?_ ?_
  .let⟨ts,rfl,e5,_,_,a⟩:=h5;exact#[aC.of$ a.tm C.B _ _ ht,by rw[NO,e5];exact NQ _]
  .intro i x M o hx a3;let⟨ts,rfl,e5,h5,R,a⟩:=a3;refine#[_,Z,_,Z,p,g,1,ys,Z,R,(C.but R a).g,y1,y2,WL,WL,λX T H6 W dT gT B6 k6=>#[ts++[(X,T)],by rw[Ol];rfl,by rw[NP,e5];rfl,λc hc=>?_,B6,a.trans k6]];rcases Ψ.mp hc with hc |hc
   .exact#[(h5 c hc).1.but R k6,(h5 c hc).2]
   .rw[υ.mp hc];exact#[W,gT,(by show T.depth < 6;omega)]
  .rintro M o ⟨ts,rfl,e5,h5,R,a⟩ l nl;refine#[l,_,Z,.inl #[aH.of jc,λl2 n0=>#[WL,λr nr=>?_]]];let O:=C.but R a;let s6:aa o (af (af o l$ .lst$ ts.map λc=>tf c.1) l2$ .tup$ ts.map λc=>tf c.1):=(je nl).trans (je n0);rw[NO]at e5;exact l0 (.cl y f' l2 ts) _ _ r #[Z,jc,λc hc=>(h5 c hc).1.same s6] #[hy,WM,λc hc=>(h5 c hc).2] (by show(f',ts.length)∈_;rw[e5];exact h') (O.but2 ((O.B.upd_new nl).upd_new n0) ((O.s.new nl).new n0)$ aZ.of_same s6) ((K4.trans a.two).trans$ aZ.of_same s6) ((kG O.s s6).trans ((kM C.B C.s a).trans e4)) nr
 erw[ai λF1 u=>pP λG' D=>?_];let Y:G' μ H3:=by erw[D _ _$ nM ?_];erw[ai λF2 f2=>#[_,Z,_,Z,_,Z,h,_,Z,.inl$ aH.of hh,p,_,Z,G.B,WM,WM,λd4 j d3 d5 B4 e4=>?_]];let C:=G.but B4 (aG.of_eq e4);let J:aG p H3 j:=aG.of_eq e4;let a4:=hH.mono (J.tm G.B);let⟨v,c0,a5,a0,p4,t4,rfl,z1,z2⟩:=FN a4 d3 d5;refine#[h,_,_,_,Z,Z,aH.of$ J _ _ G.hsp.2 hh,a5,p4,_,Z,aC.of z1,Z,_,_,Z,_,_,Z,Z,f2 _ _ ?_];refine#[_,Z,_,Z,_,Z,t4,Z,#[_,aC.of z2],?_];exact c1 c0.1 c0.2 (dn.mpr #[c0,a0,Z]) t4 j C (K3.trans J.two) ((kM G.B G.s J).trans e3) z2$ G0.h3 c0 a0
 refine#[_,Z,Z,_,Z,cg (λc=>Y) (λc=>#[_,Z,Z,_,Z,CT Y λc2=>D _ _ (aY c2$ u _ _ ?_)])];let l1:∀(c:(0:Int) < (d:Int)),∃d':Nat,d=d'+1:=λc=>#[d - 1,WM];erw[ai λF1 u=>eh (RH p g h S d kd y H3) (λE6 eR f6=>?_) λσ0 H' z=>?_]
 .clear u;erw[pP λG' D=>#[_,Z,Z,_,Z,?_]];erw[cg (λc=>?_) (λc=>D _ _ (nL$ f6 _ _ #[Z,Z]))];refine#[_,Z,_,_,Z,Z,_,Z,D _ _ ?_];erw[cg (λc2=>?_) (λc2=>f6 _ _ #[Z,Z])];let⟨d',rfl⟩:=l1 (OQ c2);let ed:(((d'+1:Nat):Int) - 1)=((d':Nat):Int):=by omega
  refine#[_,Z,_,Z,_,Z,_,Z,_,Z,_,_,Z,Z,p,g,h,S,d',ys,hs,(by show [tf p,tf g,tf h,tf S,sn (((d'+1:Nat):Int) - 1)]=_;rw[ed]),G,WM,WM,λr b bs j a' b1 c4 b2 b4 B4 s4 J=>?_];let C:=G.but2 B4 s4 J;refine#[_,Z,_,Z,p,g,2,ys,Z,C.B,C.g,y1,y2,WL,WL,λX T o W dT gT R a=>?_];let O:=C.but R a;refine#[_,Z,_,Z,_,Z,_,Z,_,Z,_,Z,_,_,Z,Z,p,g,h,S,d',ys,hs,(by show [tf p,tf g,tf h,tf S,sn (((d'+1:Nat):Int) - 1)]=_;rw[ed]),O,WM,(by rw[kM C.B C.s a];exact b2),λr3 b3 b0 H6 h6 h7 a1 h8 h0 B6 s6 k6=>#[rY,λt N=>?_]];let G6:=O.but2 B6 s6 k6;let tm:am j H6:=λb' xs e=>k6.tm O.B O.s _ _ (a.tm C.B _ _ e);let I:am H6 (af H6 t$ .tup [.str "if",.ref X,.ref r,.ref r3]):=aa.tm (je N);rw[eR];refine q t (.ite t X T b b3 .nil) _ #[r,r3,bs,b0,[],Z,jc,(W.mono$ k6.tm O.B O.s).mono I,I _ _$ tm _ _ a',I _ _ h6,(b1.mono tm).mono I,h7.mono I,Z] (by let x1:=kM C.B C.s a;rw[kG G6.s$ je N];show((b.size+b3.size+0+1:Nat):Int)+_<=_;omega) (by rw[kG G6.s$ je N];exact h8) (AC #[gT,WM] b4 h0) (G6.B.upd_new N) (G6.s.new N) (((K3.trans J).trans$ a.two.trans k6).trans$ aZ.of_same$ je N)
 let⟨rfl,e⟩:=z;rw[e];erw[u _ _ ?_];erw[ai λF1 u=>eh (RH p g h S d kd y H3) (λE6 eR f6=>?_) λσ0 H' z=>?_]
 .clear u;erw[pP λG' D=>#[_,Z,Z,_,Z,?_]];erw[cg (λc=>?_) (λc=>D _ _ (nL$ f6 _ _ #[Z,Z]))];refine#[_,Z,_,_,Z,Z,_,Z,D _ _ ?_];erw[cg (λc2=>?_) (λc2=>f6 _ _ #[Z,Z])];let⟨d',rfl⟩:=l1 (OQ c2);let ed:(((d'+1:Nat):Int) - 1)=((d':Nat):Int):=by omega
  refine#[_,Z,_,Z,p,g,2,ys,Z,G.B,G.g,y1,y2,WL,WL,λX T o W dT gT R a=>?_];let O:=G.but R a;refine#[_,Z,_,Z,_,Z,_,Z,_,Z,_,_,Z,Z,p,g,h,S,d',ys,hs,(by show [tf p,tf g,tf h,tf S,sn (((d'+1:Nat):Int) - 1)]=_;rw[ed]),O,WM,(by rw[kM G.B G.s a];omega),λr3 b3 b0 H6 h6 h7 a1 h8 h0 B6 s6 k6=>#[hZ,λt N=>?_]];let G6:=O.but2 B6 s6 k6;let I:am H6 (af H6 t$ .tup [.str "while",.ref X,.ref r3]):=aa.tm (je N);rw[eR];refine q t (.loop t X T b3 .nil) _ #[r3,b0,[],Z,jc,(W.mono$ k6.tm O.B O.s).mono I,I _ _ h6,h7.mono I,Z] (by let x1:=kM G.B G.s a;rw[kG G6.s$ je N];show((b3.size+0+1:Nat):Int)+_<=_;omega) (by rw[kG G6.s$ je N];exact h8) (vE #[gT,WM] h0) (G6.B.upd_new N) (G6.s.new N) ((K3.trans$ a.two.trans k6).trans$ aZ.of_same$ je N)
 let⟨rfl,e⟩:=z;rw[e];erw[u _ _ ?_];erw[ai λF1 u=>pP λG' D=>#[_,Z,Z,_,Z,D _ _ ?_]];erw[cg (λc=>?_) (λc=>u _ _ ?_)]
 .refine#[_,Z,_,Z,p,g,2,ys,Z,G.B,G.g,y1,y2,WL,WL,λX T o W dT gT R a=>#[cj,λt N=>?_]];exact l0 (.gv X T) _ o t #[Z,W] #[gT,WM] trivial (G.but R a) (K3.trans a.two) ((kM G.B G.s a).trans e3) N
 .refine#[_,Z,_,Z,_,Z,p,g,3,ys,Z,G.B,G.g,y1,y2,WL,WL,λX T o W dT gT R a=>#[hZ,λt N=>?_]];exact l0 (.st y X T) _ o t #[Z,W] #[hy,gT,WM] trivial (G.but R a) (K3.trans a.two) ((kM G.B G.s a).trans e3) N
def o0:aj ["_law_box_here","_law_names_here","_law_heads","_law_spare","_law_deep","_law_body_here","_law_k"] z6z (ae rf):=bN
def Z5(F:ti K "_law_body" rf f fd)(cT:‹1› fT f0 z0z a7 "_law_take"){L:Nat}(cS:‹L+8› fS f1 z6z (lY n) "_law_statement")(mr:mg "range"=θ)(m2:mg "tuple"=θ):⇑(L+9) f fd z6z (ig n):=by
 erw[F.ok o0 λc0 A o1 s H v Q E hr h=>?_]
 let⟨p,g,h,S,d,ys,hs,rfl,G,hd,h0,q⟩:=h;refine#[_,(jd (jA 5 o0.nd$ jE jb)$ jd (j6 Ot Z (zf Z mr$ ja (cT.e hr.m$ ja (pv 0)$ ja jf jb) jb) (jw (i:=6) o0.nd Z$ ω Z)$ jg$ jz (jD JX (jr jv (pv 3) jf (λ_ _=>Z)) jf$ aI _) (jg$ jH$ jZ NZ Ob Oa jO (pv 5)$ ja (cS.e hr$ ja (pv 0)$ ja (pv 1)$ ja (pv 2)$ ja (pv 3)$ ja (pv 4) jb) jb) jp)$ jg$ jo$ jN jP Z m2 PV$ ja (pv 5) jb),?_];let b0:=aK;refine#[NY _,λl N=>?_];let s0:aa H (af H l$ .lst []):=je N;let O:ou (af H l$ .lst []) p g h S ys hs:=G.but2 (G.B.upd_new N) (G.s.new N) (aZ.of_same s0);let l1:af H l (.lst []) l=δ (.lst []):=jc;let lp:l≠p:=G.B.ne N;let D:l≠S:=λe=>by let⟨k,z⟩:=G.s;rw[<- e,N]at z;cases z
 let k1:aZ p S H (af H l$ .lst []):=aZ.of_same s0;let R:hX (af H l$ .lst []) S=hX H S:=kG G.s s0;generalize af H l (.lst [])=H1 at O l1 k1 R;refine#[_,Z,p,6,Z,O.B,WL,WL,λm H2 m0 m1 B2 e2=>#[_,Z,WM,WM,?_]];let G2:=O.but B2 (aG.of_eq e2);refine QO (lo:=0) (λi σ I=>∃(o6:tT V) (v:tz V) (b:Bd),σ=[↑p,↑g,↑h,↑S,δ$ .int (d:Int),↑l,o6]/\I l=δ (.lst v)/\dX I b v/\((b.size:Int)+hX I S<=hX H S/\0<=hX I S)/\b.fit hs ys d/\v.length<=i/\ax I p/\dS I S/\aZ p S H I)
  #[θ,[],.nil,Z,by rw[e2 l lp];exact l1,Z,(by rw[kM O.B O.s$ aG.of_eq e2,R];exact#[by show((0:Nat):Int)+_<=_;omega,h0]),Z3,NY _,B2,G2.s,k1.trans (aG.of_eq e2).two] ?_ ?_
 .intro i σ H3 hi J;let⟨o6,v,b,rfl,a,u,j,x,h1,T,C,U⟩:=J;let G3:=G.but2 T C U;let⟨kk,W⟩:=id C;refine#[_,Z,S,_,_,_,Z,Z,aH.of W,Z,_,_,Z,Z,_,Z,?_];erw[cg (λc=>?_) (λc=>?_)]
  .refine#[_,Z,.inl #[Z,_,aH.of a],_,Z,_,Z,_,Z,_,Z,_,Z,p,g,h,S,d,ys,hs,Z,G3,hd,(by rw[JK W];exact OQ c),λr b4 H4 h2 h5 h3 h4 B4 s4 k4=>?_];let X:H4 l=δ (.lst v):=k4 _ _ lp D a;refine#[l,_,_,Z,Z,X,WM,?_];let tm:am H4 (af H4 l$ .lst$ v++[.ref r]):=λb' xs e=>by rw[jh$ jR e X (by intro z;cases z)];exact e
   let Y:am H3 H4:=k4.tm T C;refine#[_,_,b.app b4,Z,jc,(h2.mono tm).app ((u.mono Y).mono tm),?_,Z4 x h4,by rw[NP];show v.length+1<=i+1;omega,B4.eq$ jh$ Ou lp,?_,λb' o n1 n2 e=>?_]
   .rw[j9,YO s4 λo e=>by rwa[jh$ Ou D]];let⟨z1,z2⟩:=j;exact#[WM,h3]
   .let⟨z,hz⟩:=s4;exact#[z,by rw[jh$ Ou D];exact hz]
   .rw[jh$ jk e N];exact k4 _ _ n1 n2$ U _ _ n1 n2 e
  .exact#[_,v,b,Z,a,u,j,x,WM,T,C,U]
 .intro σ H3 J;let⟨o6,v,b,rfl,a,u,j,x,h1,T,C,U⟩:=J;refine#[_,Z,l,v,Z,.inl #[aH.of a,λt M=>?_]];let hm:(m).toNat<=5:=by omega
  refine q t b v _ jc (u.mono$ aa.tm$ je M) (by rw[kG C$ je M];exact j.1) (by rw[kG C$ je M];exact j.2) x (T.upd_new M) (C.new M)$ U.trans$ aZ.of_same$ je M
def ww:⇑8 f c z6z (lY 0):=by
 let n:∀v H Q E,¬lY 0 v H Q E:=λv H Q E h=>by let⟨p,g,h,S,d,y,e,_,_,b,_⟩:=h;exact absurd b$ R0 _
 exact#[λv H Q E h=>absurd h (n v H Q E),λA o s H a u v Q E _ _ _ _ h=>absurd h (n v H Q E)]
theorem Le(F:ti K "_law_statement" xR f e)(FB:ti K "_law_body" rf g a)(c:‹1› r k z0z a7 "_law_take")(C:‹6› s l z10z (dq 4) "_law_term")(h:‹7› t o z28z lD "_law_spot")(b:aE K e z6z [])(M:mg "_law_statement"=↑f)(B:aE K a z6z [])(i:mg "_law_body"=↑g)(j:mg "len"=θ)(m:mg "tuple"=θ)(d:mg "range"=θ):
  ∀n:Nat,⇑(n+n+8) f e z6z (lY n)/\⇑(n+n+9) g a z6z (ig n)
 |0=>#[ww,Z5 (L:=0) FB c #[ww,b,F.kp,M] d m]
 |n+1=>by
  let I:=Le F FB c C h b M B i j m d n;let E:n+n+10=n+1+(n+1)+8:=by omega
  let p:n+n+2+9=n+1+(n+1)+9:=by omega
  let H:=Fj (L:=n+n) F c C h #[I.2,B,FB.kp,i] j m;let q:=Z5 (L:=n+n+2) FB c #[H,b,F.kp,M] d m;rw[<- E,<- p];exact#[H,q]
def HP{x:tz V}(h:k<=x.length):aW x θ (δ (k:Int))=x.take k:=by
 unfold aW;rw[HT.sIx_nat,HT.sIx_none];let e:min k x.length=k:=by omega
 rw[e];simp
noncomputable abbrev FP:cc:=bQ 67
def Az(h:0<=d)(H:d < 4):∃D:Nat,eM [sn 3,.int 3,.int 3,.int 5] d=δ (.int (D:Int))/\D < 6/\Nk D<=111111/\D<=5:=by
 rcases(by omega:d=0∨d=1∨d=2∨d=3) with rfl |rfl |rfl |rfl
 .exact#[3,Z,WL,WL,WL]
 .exact#[3,Z,WL,WL,WL]
 .exact#[3,Z,WL,WL,WL]
 .exact#[5,Z,WL,WL,WL]
def vf{ys:tz ρ}{k:Int}(h:ys.length=20)(H:14<=k)(a:k<=20):1<=(bH ys (δ 8)$ δ k).length/\(bH ys (δ 8)$ δ k).length<=20:=by
 refine#[?_,by let:=qH ys (δ 8) (δ k);omega];let e:(8:Int)=((8:Nat):Int):=rfl;let E:k=((k.toNat:Nat):Int):=by omega
 unfold bH;rw[e,E,HT.sIx_nat,HT.sIx_nat,Oh,OE];omega
def Aw{ss:tz ρ}(h:0<=k):(bH ss θ$ δ k).length<=k.toNat:=by
 let e:k=((k.toNat:Nat):Int):=by omega
 unfold bH;rw[e,HT.sIx_nat,HT.sIx_none,Oh];omega
def gK{t u:TS}(h:∀E:bh,(∀a b,u D a b->E.nx a b)->t E c H):dH t u D c H:=h { D with nx:=u D } λ_ _ h=>h
def Hg(h:tz (ρ×tz ρ)):Prop:=∀c∈h,c.1.length<=20/\c.2.length<=6
def No(H:Hp)(D:tz Df):Prop:=∀d∈D,∃p:tz ρ,H d.pa=δ (.tup$ p.map rz)/\p.length<=100
def Js{a:Type}{P:a->Prop}{X:tz a}{x:a}(h:∀c∈X,P c)(H:P x):∀c∈X++[x],P c:=λc b=>by
 rcases Ψ.mp b with h1 |h1
 .exact h c h1
 .rw[υ.mp h1];exact H
def nG(H:Hp)(D:tz Df)(N:tz Nat):Prop:=D.length=N.length/\∀(i:Nat) (d:Df) (n:Nat),D[i]?=δ d->N[i]?=δ n->∃p:tz ρ,H d.pa=δ (.tup$ p.map rz)/\p.length=n/\n<=100
def nG.mono(h:nG H D N)(k:am H a):nG a D N:=#[h.1,λi d n b c=>let #[p,e,l]:=h.2 i d n b c;#[p,k _ _ e,l]]
def nG.snoc{d:Df}{p:tz ρ}(h:nG H D N)(e:H d.pa=δ (.tup$ p.map rz))(l:p.length<=100):nG H (D++[d]) (N++[p.length]):=by
 refine#[by rw[NP,NP,h.1];rfl,λi c n a b=>?_];by_cases f:i < D.length
 .rw[PR f]at a;rw[PR (by rwa[<- h.1])]at b;exact h.2 i c n a b
 .let g:i < (D++[d]).length:=(ξ.mp a).1;rw[NP]at g;let E:i=D.length:=by let:i < D.length+1:=g;omega
  subst E;rw[PJ$ NQ _,R6]at a;rw[h.1,PJ$ NQ _,R6]at b;cases a;cases b;exact#[p,e,Z,l]
def nG.v(h:nG H D n):No H D:=λd b=>by
 let⟨i,a,e⟩:=iv.mp b;let c:D[i]?=δ d:=by rw[<- e];exact NK a
 let⟨p,e,l,k⟩:=h.2 i d _ c (NK (by rwa[<- h.1]));exact#[p,e,WM]
def uN(D:tz Df)(n:tz Nat):Prop:=(∀d∈D,oE d/\d.b.Cs ((D.map Df.f).zip n))/\(D.map Df.f).Nodup/\∀y∈D.map Df.f,y.length<=20
inductive rK(c:tz V)(H:Hp)(Q:VK)(a:XK):Prop
 |mk(p:η)(T b:Int)(_:c=[.ref p,.int T,.int b])(_:ax H p)(_:1<=T)(_:T<=8)(_:0<=b)(_:b<=40)(_:∀(r:η) (ds:tz Df) (xs:tz V) (H':Hp),H' r=δ (.tup xs)->dh H' ds xs->(ds.length:Int)=T->∀ns:tz Nat,uN ds ns->nG H' ds ns->ax H' p->aG p H H'->Q (.ref r) H')
def dw:aj ["_law_box_here","_law_total","_law_room","_law_words","_law_most","_law_heads","_law_k","_law_turn","_law_row","_law_some","_law_deep","_law_defs","_law_f","_law_params","_law_spare","_law_body_here"] z36z (ae FP):=bN
inductive AJ(p k:η)(T j:Int)(H:Hp)(b:_L.St)(c:Hp):Prop
 |mk(a:tz ρ)(d:b=[↑p,δ (.int T),δ (.int j),↑k,θ,θ,θ,θ,θ,θ,θ,θ,θ,θ,θ,θ])(e:c k=δ (.lst (a.map rz)))(f:a.length=20)(g:(∀y∈a,y.length<=20)/\(a.take 8).Nodup)(h:ax c p)(i:aG p H c)
inductive AI(p t k:η)(T s m:Int)(u:tz ρ)(H:Hp)(i:Nat)(v:_L.St)(a:Hp):Prop
 |mk(o q r:tT V)(l:tz (ρ×tz ρ))(n:tz V)(b:v=[↑p,δ (.int T),δ (.int s),↑t,δ (.int m),↑k,o,q,r,θ,θ,θ,θ,θ,θ,θ])(c:a k=δ (.lst n))(d:eJ a l n)(e:l.length=i)(f:Hg l/\l.map (·.1)=u.take i)(g:a t=δ (.lst (u.map rz)))(h:ax a p)(j:aG p H a)
inductive AK(p G y F h:η)(T E m:Int)(j:Nat)(I:tz ρ)(z:tz (ρ×tz ρ))(A:tz V)(H:Hp)(i:Nat)(J:_L.St)(g:Hp):Prop
 |mk(B C D b c e f:tT V)(k:tz Df)(l:tz V)(n:J=[↑p,δ (.int T),δ (.int E),↑G,δ (.int m),↑y,B,C,D,↑F,δ (.int (j:Int)),↑h,b,c,e,f])(o:g h=δ (.lst l))(q:dh g k l)(r:k.length=i)(s:(∀d∈k,oE d/\d.b.Cs (z.map λc=>(c.1,c.2.length)))/\k.map Df.f=(z.map (·.1)).take i)(t:g y=δ (.lst A))(u:eJ g z A)(v:g F=δ (.lst (I.map rz)))(w:ax g p)(x:aG p H g)(a:nG g k ((z.map λc=>c.2.length).take i))
inductive AL(v:tz (ρ×tz ρ))(D:tz ρ)(p C u z h B A:η)(T y m:Int)(i:Nat)(w x:tT V)(c:ρ×tz ρ)(e:Hp)(j:Nat)(E:_L.St)(d:Hp):Prop
 |mk(a:tT V)(f:η)(b:Bd)(g:tz V)(k:E=[↑p,δ (.int T),δ (.int y),↑C,δ (.int m),↑u,a,w,x,↑z,δ (.int (i:Int)),↑h,δ (.str c.1),↑B,↑A,↑f])(l:d f=δ (.tup g))(n:dX d b g)(o:(b.size:Int)+hX d A<=y/\0<=hX d A)(q:b.fit v D i)(r:ax d p)(s:dS d A)(t:aZ p A e d)
def EM(F:ti K "_law_any" FP f fd)(cT:‹1› fT i' z0z a7 "_law_take")(cA:‹2› fA j0 z27z gO "_law_names")(cB:‹21› fB j1 z6z (ig 6) "_law_body")(ml:mg "len"=θ)(mr:mg "range"=θ)(m0:mg "tuple"=θ)(mi:mg "int"=θ):⇑22 f fd z36z rK:=by
 erw[F.ok dw λj2 A o5 s H vs Q E hr h=>?_]
 let⟨p,T,X,rfl,B,j3,j4,f4,j5,q⟩:=h;refine#[_,(jd (jA 3 dw.nd$ cA.e hr.m$ ja (pv 0)$ ja jf jb)$ jd (ki$ jz (zk$ cT.e hr.m$ ja (pv 0)$ ja jf jb) (jg$ zA (jJ kJ (pv 3) jT$ jI jf)$ @wY _ _ _ _ _ _ _ _ _ (pv 3) jf jf (by intro _;rfl)) jp)$ jd (jA 4 dw.nd$ jr jv (jE$ ja jf$ ja jf jb) (jN qQ Z mi UC$ ja (z9 qh (cT.e hr.m$ ja (pv 0)$ ja jf jb) jf$ aI _) jb) (λ_ _=>Z))$ jd (jA 5 dw.nd$ jE jb)$ jd (j6 Ot Z (zf Z mr$ ja (pv 1) jb) (jw (i:=6) dw.nd Z$ ω Z)$ jd (jA 7 dw.nd$ jx jW jf$ cT.e hr.m$ ja (pv 0)$ ja jf jb)$ jd (jA 8 dw.nd$ jx qp (jJ kJ (pv 3) (jI$ pv 7)$ jI jf)$ jJ kJ (pv 3) (jI jf)$ jI$ pv 7)$ jg$ jH$ jZ NZ Ob Oa jO (pv 5)$ ja (ji$ ja (jr jv (pv 3) (pv 6) (λ_ _=>Z))$ ja (jN jP Z m0 PV$ ja (jJ kJ (pv 8) jT$ jI$ cT.e hr.m$ ja (pv 0)$ ja (pv 4) jb) jb) jb) jb)$ jd (jA 9 dw.nd$ jJ kJ (pv 3) (jI jf)$ jI$ jx jW jf$ cT.e hr.m$ ja (pv 0)$ ja jf jb)$ jd (jA 10 dw.nd$ jr jv (jE$ ja jf$ ja jf$ ja jf$ ja jf jb) (cT.e hr.m$ ja (pv 0)$ ja jf jb) (λ_ _=>Z))$ jd (jA 11 dw.nd$ jE jb)$ jd (j6 Ot Z (zj$ pv 5) (zz (n:=2) Z$ jB (jw (i:=12) dw.nd Z$ ω Z)$ jB (jw (i:=13) dw.nd Z$ ω Z) kj)$ jd (jA 14 dw.nd$ jE$ ja (pv 2) jb)$ jd (jA 15 dw.nd$ ji jb)$ jd (j6 Ot Z (zf Z mr$ ja jf jb) (jw (i:=6) dw.nd Z$ ω Z)$ jg$ jA 15 dw.nd$ jx jV (pv 15)$ cB.e hr$ ja (pv 0)$ ja (pv 9)$ ja (pv 5)$ ja (pv 14)$ ja (pv 10) jb)$ jg$ jH$ jZ NZ Ob Oa jO (pv 11)$ ja (ji$ ja (pv 12)$ ja (pv 13)$ ja (pv 15) jb) jb)$ jg$ jo$ jN jP Z m0 PV$ ja (pv 11) jb),?_];let j':=aK;erw[gK λE1 m1=>?_];refine#[_,Z,p,20,Z,B,WL,WL,λW ys H1 c2 f5 c3 C B1 k1=>?_];erw[m1 _ _ ?_];erw[gK λE2 m2=>?_];let wp:W≠p:=B.ne c2;erw[eh (AJ p W T X H) (λE0 _ fm=>?_) λσ0 H2 l=>?_]
 .clear m2;erw[pP λG' g'=>#[_,Z,p,2,Z,B1,WL,WL,λd1 H2 l4 l5 B2 e2=>?_]];let Y:H2 W=δ (.lst$ ys.map rz):=by rw[e2 W wp];exact f5
  let k2:=k1.trans (aG.of_eq e2);refine#[Z,_,Z,g' _ _ ?_];erw[cg (λc=>?_) (λc=>fm _ _ #[ys,Z,Y,WM,#[C.1,C.2.sublist$ PY _ _],B2,k2])];refine#[_,Z,_,Z,W,_,Z,aH.of Y,λsl n0=>?_];let f7:W≠sl:=λe=>by rw[<- e,Y]at n0;cases n0
  let l6:=B2.ne n0;refine#[_,Z,W,sl,_,_,_,_,Z,Z,Z,Z,aq Y n0,jc,f7,WL,WL,by rw[NO];omega,?_,?_]
  .let:=zw (ys.map rz) θ (δ 2);rw[NO]at this ⊢;omega
  let e2:aW (ys.map rz) θ (δ 2)=(ys.take 2).map rz:=by rw[show(2:Int)=((2:Nat):Int) from Z,HP (by rw[NO];omega),RU]
  erw[fm _ _ #[ys.take 8++ys.take 2++ys.drop 10,Z,?_,?_,?_,(B2.upd_new n0).eq$ jh$ Ou wp,?_]]
  .rw[jc,e2,Ol,Ol,RU,VN,RU];rfl
  .rw[NP,NP,Oh,Oh,OE];omega
  .refine#[λy hy=>?_,?_]
   .rcases Ψ.mp hy with h |h
    .rcases Ψ.mp h with h |h
     .exact C.1 y$ OZ h
     .exact C.1 y$ OZ h
    .exact C.1 y$ UK h
   .rw[Pt,List.take_append_of_le_length (by rw[Oh];omega),T6];exact C.2.sublist$ PY _ _
  .exact(k2.upd_new n0).upd_own c2
 let⟨ys,rfl,Y,c3,C,B2,k2⟩:=l;erw[m2 _ _ ?_];erw[gK λE3 m3=>?_];refine#[cj,λl1 n7=>?_];refine#[_,Z,p,3,Z,B2.upd_new n7,WL,WL,λd2 H3 l8 l' B3 e3=>?_];let k3:aG p H2 H3:=((aG.refl).upd_new n7).trans (aG.of_eq e3);let l0:=B2.ne n7;let f9:H3 l1=δ (.lst [.int 4,.int 7]):=by rw[e3 l1 l0];exact jc
 refine#[Z,.inr #[_,Z,?_]];let a4:∀c:Bool,∃m:Int,eM [sn 4,sn 7] (if c then 1 else 0)=δ (.int m)/\4<=m/\m<=7:=λc=>by
  cases c
  .exact#[4,Z,WL,WL]
  .exact#[7,Z,WL,WL]
 let⟨m,hm,m4,m7⟩:=a4 _;refine#[l1,_,_,_,Z,Z,aH.of f9,hm,?_];erw[m3 _ _ ?_];erw[gK λE4 m4=>?_];let c4:H3 W=δ (.lst$ ys.map rz):=k3 _ _ wp Y;let k0:=k2.trans k3;refine#[NY _,λhl n1=>?_];erw[m4 _ _ ?_];erw[gK λE5 m5=>?_];let h0:=B3.ne n1;let n5:H hl=θ:=by
  cases z:H hl with
  |none=>rfl
  |some o=>have:=k0 _ _ h0 z;rw[n1]at this;cases this
 let wh:W≠hl:=λe=>by rw[<- e,c4]at n1;cases n1
 erw[dD λJ j=>#[_,Z,T,Z,WM,WM,j _ _ ?_]];refine kH (lo:=0) (AI p W hl T X m ys H)
  #[θ,θ,θ,[],[],Z,jc,Z,Z,#[(λc hc=>nomatch hc),Z],aq c4 n1,B3.upd_new n1,k0.upd_own n5] ?_ ?_
 .intro D' _ i σ H4 hi f0 Gq u l;let⟨o6,o7,o8,hs,hv,rfl,a5,h5,c5,h6,a',B4,k4⟩:=l;erw[u ?_];show dH (dJ _ _) _ D' _ _;erw[gK λF1 f1=>?_];refine#[_,Z,p,6,Z,B4,WL,WL,λD H5 f' g0 B5 e5=>?_];let k5:aG p H4 H5:=aG.of_eq e5;let h7:=k5 _ _ wp a';let b1:=k5 _ _ h0 a5;let b2:=h5.mono (k5.tm B4);refine#[_,_,Z,Z,?_];erw[f1 _ _ ?_];show dH (dJ _ _) _ D' _ _;erw[gK λF2 f2=>?_];refine#[_,Z,_,Z,_,Z,_,Z,W,_,Z,aH.of h7,λs1 n'=>?_];refine#[_,Z,_,Z,_,Z,_,Z,W,_,Z,aH.of$ aq h7 n',λs2 b3=>?_];let L1:=qH ys (δ (8+D)) (δ 14);let L0:=qH ys (δ 8) (δ (8+D));let L3:=zw (ys.map rz) (δ (8+D)) (δ 14);let L4:=zw (ys.map rz) (δ 8) (δ (8+D));rw[NO]at L3 L4;refine#[s1,s2,_,_,Z,Z,aq jc b3,jc,WM,λrl c6=>?_];erw[f2 _ _ ?_];let er:aW (ys.map rz) (δ (8+D)) (δ 14)++aW (ys.map rz) (δ 8) (δ (8+D))=(bH ys (δ (8+D)) (δ 14)++bH ys (δ 8) (δ (8+D))).map rz:=by rw[zS,zS,Ol]
  let s6:aa H5 (af (af (af H5 s1$ .lst$ aW (ys.map rz) (δ (8+D))$ δ 14) s2$ .lst$ aW (ys.map rz) (δ 8)$ δ (8+D)) rl$ .lst$ aW (ys.map rz) (δ (8+D)) (δ 14)++aW (ys.map rz) (δ 8) (δ (8+D))):=((je n').trans$ je b3).trans (je c6);let r6:af (af (af H5 s1$ .lst$ aW (ys.map rz) (δ (8+D))$ δ 14) s2$ .lst$ aW (ys.map rz) (δ 8)$ δ (8+D)) rl (.lst$ aW (ys.map rz) (δ (8+D)) (δ 14)++aW (ys.map rz) (δ 8) (δ (8+D))) rl=δ (.lst ((bH ys (δ (8+D)) (δ 14)++bH ys (δ 8) (δ (8+D))).map rz)):=by rw[jc,er]
  let B6:ax (af (af (af H5 s1$ .lst$ aW (ys.map rz) (δ (8+D))$ δ 14) s2$ .lst$ aW (ys.map rz) (δ 8)$ δ (8+D)) rl$ .lst$ aW (ys.map rz) (δ (8+D)) (δ 14)++aW (ys.map rz) (δ 8) (δ (8+D))) p:=((B5.upd_new n').upd_new b3).upd_new c6;generalize af (af (af H5 s1$ .lst$ aW (ys.map rz) (δ (8+D))$ δ 14) s2$ .lst$ aW (ys.map rz) (δ 8)$ δ (8+D)) rl (.lst$ aW (ys.map rz) (δ (8+D)) (δ 14)++aW (ys.map rz) (δ 8) (δ (8+D)))=H6 at s6 r6 B6;let LR:(bH ys (δ (8+D)) (δ 14)++bH ys (δ 8) (δ (8+D))).length<=40:=by rw[NP];omega
  generalize bH ys (δ (8+D)) (δ 14)++bH ys (δ 8) (δ (8+D))=r0 at r6 LR;let c9:=s6 _ _ h7;let h8:=s6 _ _ b1;let ei:(0:Int)+(i:Int)=(i:Int):=Int.zero_add _;rw[ei];obtain⟨y,b4⟩:∃y,ys[i]?=δ y:=#[_,NK (by omega:i < ys.length)];let hy:=Og b4;let a4:eM (ys.map rz) (i:Int)=δ (.str y):=jK (by rw[Od,b4];rfl);let rp:rl≠p:=qE B6 r6;refine#[_,Z,.inl #[Z,_,aH.of h8],_,Z,_,Z,W,_,_,_,Z,Z,aH.of c9,a4,_,Z,_,Z,_,Z,p,m,Z,B6,WM,WM,λd7 H7 d0 d4 B7 e7=>?_];let k7:aG p H6 H7:=aG.of_eq e7;refine#[_,Z,rl,_,Z,aH.of$ k7 _ _ rp r6,λs3 c'=>?_];refine#[s3,_,Z,.inl #[aH.of jc,λt nt=>#[cj,λr nr=>?_]]];rw[zS]at nt nr ⊢;let L8:=Aw (ss:=r0) d0;generalize bH r0 θ (δ d7)=ps at*;let s8:aa H7 (af (af (af H7 s3$ .lst$ ps.map rz) t$ .tup$ ps.map rz) r$ .tup [.str y,.ref t]):=((je c').trans$ je nt).trans (je nr);let t8:af (af (af H7 s3$ .lst$ ps.map rz) t$ .tup$ ps.map rz) r (.tup [.str y,.ref t]) t=δ (.tup$ ps.map rz):=aq jc nr;let r8:af (af (af H7 s3$ .lst$ ps.map rz) t$ .tup$ ps.map rz) r (.tup [.str y,.ref t]) r=δ (.tup [.str y,.ref t]):=jc;let B8:ax (af (af (af H7 s3$ .lst$ ps.map rz) t$ .tup$ ps.map rz) r$ .tup [.str y,.ref t]) p:=((B7.upd_new c').upd_new nt).upd_new nr;generalize af (af (af H7 s3$ .lst$ ps.map rz) t$ .tup$ ps.map rz) r (.tup [.str y,.ref t])=R at s8 t8 r8 B8;let d6:=s8 _ _ (k7 _ _ h0 h8);let g1:=s8 _ _ (k7 _ _ wp c9);let h4:=h5.len;refine#[hl,_,_,Z,Z,d6,WM,?_];let tm:am R (af R hl$ .lst$ hv++[.ref r]):=λb xs e=>by rw[jh$ jR e d6 (by intro z;cases z)];exact e
  let g2:=((b2.mono$ aa.tm s6).mono$ k7.tm B6).mono (aa.tm s8);refine f0 _ _ #[_,_,_,hs++[(y,ps)],_,Z,jc,(g2.mono tm).snoc #[r,t,Z,tm _ _ r8,tm _ _ t8],by rw[NP,c5];rfl,#[Js h6.1 #[C.1 y hy,by show ps.length<=6;omega],by rw[Ol,h6.2,Rl,b4];rfl],by rw[jh wh];exact g1,B8.eq$ jh$ Ou h0,?_];erw[aG.upd_own (λb o n e=>?_) n5];exact s8 _ _$ k7 _ _ n$ s6 _ _$ k5 _ _ n$ k4 _ _ n e
 intro σ H4 l;obtain⟨o6,o7,o8,hs,hv,rfl,a5,h5,c5,⟨h6,d8⟩,a',B4,k4⟩:=l;erw[m5 _ _ ?_];erw[gK λE6 m6=>?_];refine#[_,Z,_,Z,_,Z,p,7,Z,B4,WL,WL,λD H5 f' g0 B5 e5=>?_];let k5:aG p H4 H5:=aG.of_eq e5;let h7:=k5 _ _ wp a';let b1:=k5 _ _ h0 a5;let b2:=h5.mono (k5.tm B4);refine#[_,_,Z,Z,_,Z,W,_,Z,aH.of h7,λsm n3=>?_];erw[m6 _ _ ?_];erw[gK λE7 m7=>?_];let⟨z1,z2⟩:=vf (ys:=ys) (k:=14+D) c3 WM WM;let m6:af H5 sm (.lst$ aW (ys.map rz) (δ 8)$ δ (14+D)) sm=δ (.lst ((bH ys (δ 8)$ δ (14+D)).map rz)):=by rw[jc,zS]
 let k6:aG p H (af H5 sm$ .lst$ aW (ys.map rz) (δ 8)$ δ (14+D)):=(k4.trans k5).upd_new n3;let h8:=aq (o:=.lst (aW (ys.map rz) (δ 8)$ δ (14+D))) b1 n3;let d':=b2.mono (aa.tm$ je (o:=.lst (aW (ys.map rz) (δ 8)$ δ (14+D))) n3);let B6:=B5.upd_new (o:=.lst (aW (ys.map rz) (δ 8)$ δ (14+D))) n3;generalize af H5 sm (.lst$ aW (ys.map rz) (δ 8)$ δ (14+D))=H6 at m6 k6 h8 d' B6;generalize bH ys (δ 8) (δ (14+D))=zs at m6 z1 z2;let s':=qE B6 m6;refine#[rY,λl2 b5=>?_];refine#[_,Z,p,4,Z,B6.upd_new b5,WL,WL,λd7 H7 d0 d4 B7 e7=>?_];let k7:aG p H6 H7:=((aG.refl).upd_new b5).trans (aG.of_eq e7);let l3:=B6.ne b5;let g4:H7 l2=δ (.lst [.int 3,.int 3,.int 3,.int 5]):=by rw[e7 l2 l3];exact jc
 let⟨dp,g5,g6,m',o'⟩:=Az d0 d4;refine#[l2,_,_,_,Z,Z,aH.of g4,g5,?_];erw[m7 _ _ ?_];erw[gK λE8 m8=>?_];let m7:=k7 _ _ s' m6;let b7:=k7 _ _ h0 h8;let g7:=d'.mono (k7.tm B6);let k9:=k6.trans k7;refine#[NY _,λdl N=>?_];erw[m8 _ _ ?_];erw[gK λE9 m9=>?_];let d3:=B7.ne N;let n6:H dl=θ:=by
  cases z:H dl with
  |none=>rfl
  |some o=>have:=k9 _ _ d3 z;rw[N]at this;cases this
 let e0:hl≠dl:=λe=>by rw[<- e,b7]at N;cases N
 let s5:sm≠dl:=λe=>by rw[<- e,m7]at N;cases N
 let p1:=h5.len;erw[dD λJ j=>#[_,Z,hl,Z,#[_,aH.of$ aq b7 N],j _ _ ?_]];refine zH (K:=K) (a:=hl) (xs:=hv) (AK p W hl sm dl T X m dp zs hs hv H)
  #[_,_,_,_,_,_,_,[],[],Z,jc,Z,Z,#[(λc hc=>nomatch hc),Z],aq b7 N,g7.mono$ aa.tm$ je N,aq m7 N,B7.upd_new N,k9.upd_own n6,#[Z,(λi d n h=>nomatch h)]] ?_ ?_ ?_
 .intro i σ R _ l;let⟨o6,o7,o8,o1,o2,o3,o4,ds,dv,rfl,h4,hD,h',x,hh,hd,b8,B8,k8,p0⟩:=l;exact aH.of hh
 .intro D' _ i v σ R hx f0 Gq u l;let⟨o6,o7,o8,o1,o2,o3,o4,ds,dv,rfl,h4,hD,h',x,hh,hd,b8,B8,k8,p0⟩:=l;let p2:i < hv.length:=(ξ.mp hx).1;let⟨c,hc,q0,t0,rfl,w1,w2⟩:=hd.at i v hx;erw[u ?_];let g8:=Og hc;let e4:=h6 c g8;erw[NB λF6 f6=>#[q0,_,Z,aC.of w1,Z,_,_,Z,_,_,Z,Z,f6 _ _ ?_]];show dH (dJ _ _) _ D' _ _;erw[gK λF1 f1=>?_];refine#[_,Z,iQ,λM n2=>?_];erw[f1 _ _ ?_];show dH (dJ _ _) _ D' _ _;erw[gK λF2 f2=>?_];refine#[fc,λb0 n4=>?_];erw[f2 _ _ ?_];show dH (Cq _ _ _) _ D' _ _;erw[gK λF3 f3=>?_];let s9:aa R (af (af R M$ .lst [.int X]) b0$ .tup []):=(je n2).trans (je n4);let s4:dS (af (af R M$ .lst [.int X]) b0$ .tup []) M:=#[X,aq jc n4];let b9:af (af R M$ .lst [.int X]) b0 (.tup []) b0=δ (.tup []):=jc;let B9:ax (af (af R M$ .lst [.int X]) b0$ .tup []) p:=(B8.upd_new n2).upd_new n4;let e9:hX (af (af R M$ .lst [.int X]) b0$ .tup []) M=X:=JK (aq jc n4);generalize af (af R M$ .lst [.int X]) b0 (.tup [])=H9 at s9 s4 b9 B9 e9;let e6:H M=θ:=by
   cases z:H M with
   |none=>rfl
   |some o=>have:=k8 _ _ (B8.ne n2) z;rw[n2]at this;cases this
  let i0:dl≠M:=λe=>by rw[<- e,h4]at n2;cases n2
  let G9:ou H9 p sm hl M zs hs:=#[B9,s9 _ _ b8,z1,z2,#[hv,s9 _ _ hh,hd.mono$ aa.tm s9],WM,WM,λc hc=>(h6 c hc).2,s4];erw[dD λJ j=>#[_,Z,WL,WL,j _ _ ?_]];refine kH (lo:=0) (AL hs zs p W hl sm dl t0 M T X m dp o7 o8 c H9)
   #[_,b0,.nil,[],Z,b9,Z,(by rw[e9];exact#[by show((0:Nat):Int)+_<=_;omega,f4]),Z3,B9,s4,aZ.refl] ?_ ?_
  .intro D0 _ j σ G hj fin2 Gq u l;let⟨o9,bb,Bb,bs,rfl,b',a0,a1,I,B',U,L⟩:=l;erw[u ?_];let G0:=G9.but2 B' U L;refine#[_,Z,_,Z,_,Z,_,Z,_,Z,_,Z,p,sm,hl,M,dp,zs,hs,Z,G0,g6,a1.2,λr b p3 H0 sY a3 i1 c0 c1 a2 S k'=>?_];let tm:=k'.tm B' U;let lb:=a0.len;let p4:=a3.len;let⟨i2,i3⟩:=a1;refine#[bb,r,_,_,Z,Z,tm _ _ b',sY,WM,λr2 H' e8 s0=>?_];let i4:ax H' p:=by let⟨a,b,h1,h2,h3,h⟩:=a2.ob;exact#[a,b,h1,h2,h3,s0 _ _ h]
   let s7:dS H' M:=by let⟨z,hz⟩:=S;exact#[z,s0 _ _ hz]
   erw[fin2 _ _ #[_,r2,Bb.app b,_,Z,e8,(a3.mono$ aa.tm s0).app ((a0.mono tm).mono$ aa.tm s0),?_,Z4 I c1,i4,s7,L.trans$ k'.trans$ aZ.of_same s0]];rw[j9,kG S s0];exact#[WM,c0]
  .intro σ G l;let⟨o9,bb,Bb,bs,rfl,b',a0,a1,I,B',U,L⟩:=l;erw[f3 _ _ ?_];let O:G dl=δ (.lst dv):=L _ _ d3 i0 (s9 _ _ h4);let G0:=G9.but2 B' U L;let t3:am R G:=λb xs e=>L.tm B9 s4 _ _ (s9 _ _ e);refine#[_,Z,.inl #[Z,_,aH.of O],_,Z,_,Z,_,Z,hZ,λr nr=>?_];let S:aa G (af G r$ .tup [.str c.1,.ref t0,.ref bb]):=je nr;let i5:=hD.len;let e':Bb.size<=40:=by let⟨i2,i3⟩:=a1;omega
   refine#[dl,_,_,Z,Z,S _ _ O,WM,?_];let sY:af G r (.tup [.str c.1,.ref t0,.ref bb]) r=δ (.tup [.str c.1,.ref t0,.ref bb]):=jc;let a2:=B'.upd_new (o:=.tup [.str c.1,.ref t0,.ref bb]) nr;generalize af G r (.tup [.str c.1,.ref t0,.ref bb])=H0 at S sY a2;let tm:am H0 (af H0 dl$ .lst$ dv++[.ref r]):=λb xs e=>by rw[jh$ jR e (S _ _ O) (by intro z;cases z)];exact e
   let t2:am G (af H0 dl$ .lst$ dv++[.ref r]):=λb xs e=>tm _ _ (S _ _ e);let t1:am R (af H0 dl$ .lst$ dv++[.ref r]):=λb xs e=>t2 _ _ (t3 _ _ e);refine f0 _ _ #[_,_,_,_,_,_,_,ds++[#[c.1,r,t0,bb,Bb]],_,Z,jc,(hD.mono t1).snoc #[bs,Z,tm _ _ sY,t2 _ _ b',a0.mono t2],by rw[NP,h'];rfl,#[Js x.1 #[#[#[zs,z2,I.1.1],Ph I.2 WM,N6 e' WL],I.1.2],by rw[Ol,x.2,Rl,Od,hc];rfl],?_,hd.mono t1,?_,a2.eq$ jh$ Ou d3,?_,(by rw[Rl,Od,hc];exact(p0.mono t1).snoc (d:=#[c.1,r,t0,bb,Bb]) (t1 _ _ w2) (N6 e4.2 WL))]
   .let⟨p5,e1,e2⟩:=G0.h;rw[jh e0];exact S _ _$ L _ _ G9.hsp.2 G9.hsp.1$ s9 _ _ hh
   .rw[jh s5];exact S _ _ G0.g
   .refine aG.upd_own (λb o n e=>?_) n6;exact S _ _$ L _ _ n (jk e e6)$ s9 _ _$ k8 _ _ n e
 .intro σ R l;let⟨o6,o7,o8,o1,o2,o3,o4,ds,dv,rfl,h4,hD,h',x,hh,hd,b8,B8,k8,p0⟩:=l;erw[m9 _ _ ?_];refine#[_,Z,dl,dv,Z,.inl #[aH.of h4,λt nt=>?_]];let nn:(ds.map Df.f).Nodup:=by
   rw[x.2,d8];erw[List.Nodup.sublist (PY _ _) ?_];let e:∀m,m<=8->ys.take m=(ys.take 8).take m:=λm hm=>by rw[T6,Pw hm]
   rw[e _ WM];exact C.2.sublist$ PY _ _
  exact q t ds dv _ jc (hD.mono$ aa.tm$ je nt) WM (hs.map λc=>c.2.length) #[λd hd=>#[(x.1 d hd).1,by let e:=x.2;rw[O0 (by rw[NO];omega)]at e;rw[e];let z:=(x.1 d hd).2;rw[show(hs.map λc=>(c.1,c.2.length))=(hs.map (·.1)).zip (hs.map λc=>c.2.length) by rw[List.zip_map']]at z;exact z],nn,λy hy=>by rw[x.2,d8]at hy;exact C.1 y$ OZ$ OZ hy] (by let z:=p0.mono (aa.tm$ je (o:=.tup dv) nt);rw[O0 (by rw[NO];omega)]at z;exact z) (B8.upd_new nt) (k8.upd_new nt)
def fc:0<=τ:=by decide
def iQ:1<=τ:=by decide
def cj:2<=τ:=by decide
def hZ:3<=τ:=by decide
def rY:4<=τ:=by decide
def am.trans(a:am H h)(b:am h d):am H d:=λc x e=>b c x (a c x e)
def am.refl:am H H:=λ_ _ e=>e
def hV(H:Hp)(y:tz ρ)(k:Nat)(a:η):Prop:=∃T,bG H T a/\T.Good y/\T.depth<=k
theorem hV.mono(h:hV H y k a)(m:am H b):hV b y k a:=let #[T,c,d]:=h;#[T,c.mono m,d]
def hV.ok(h:hV H y k a)(m:k < 6):∃T,bG H T a/\dI y T:=let #[T,b,c,d]:=h;#[T,b,c,Ph d m]
section
variable {Cf:iS}{H:Hp}{ys:tz ρ}
def GH(h:H a=δ (.tup [.str "num",.int n]))(b:0<=n)(c:n < 1000000000000000000):hV H ys 0 a:=#[.num n,h,#[b,c],NY _]
def yP(h:H a=δ (.tup [.str "var",.str x]))(b:x∈ys):hV H ys 0 a:=#[.var x,h,b,NY _]
def Sg(s:ρ):Prop:=∃i,i < 6/\s=MG i
def DH(h:H a=δ (.tup [.str "op",.str s,.ref b,.ref c]))(d:Sg s)(e:hV H ys j b)(f:hV H ys k c)(q:j < n)(r:k < n):hV H ys n a:=by let⟨i,g,rfl⟩:=d;let⟨B,l,m,t⟩:=e;let⟨C,o,p,u⟩:=f;exact#[.op i B C,#[b,c,h,l,o],#[g,m,p],by show max B.depth C.depth+1<=n;omega]
def zC:Sg "+":=#[0,WL,WO]
def Yf:Sg "-":=#[1,WL,WO]
def Yg:Sg "*":=#[2,WL,WO]
def Cc:Sg "/":=#[3,WL,WO]
def Xt:Sg "<":=#[4,WL,WO]
def Lb:Sg "=":=#[5,WL,WO]
def Bs(h:0<=d)(a:d < 4):∃s,eM [rz "+",.str "+",.str "*",.str "-"] d=δ (.str s)/\Sg s:=by
 rcases(by omega:d=0∨d=1∨d=2∨d=3) with rfl |rfl |rfl |rfl
 .exact#[_,Z,zC]
 .exact#[_,Z,zC]
 .exact#[_,Z,Yg]
 .exact#[_,Z,Yf]
def Br(h:0<=d)(a:d < 3):∃c,eM (Str.cps "<=*").toList d=δ c/\Sg #[(ε [c])]:=by
 rcases(by omega:d=0∨d=1∨d=2) with rfl |rfl |rfl
 .exact#[_,Z,Xt]
 .exact#[_,Z,Lb]
 .exact#[_,Z,Yg]
def IH{P:η->Prop}(e:0<=d)(f:d < 2)(h:P a)(c:P b):∃x,eM [tf a,.ref b] d=↑x/\P x:=by
 rcases(by omega:d=0∨d=1) with rfl |rfl
 .exact#[_,Z,h]
 .exact#[_,Z,c]
def II{P:η->Prop}(g:0<=d)(i:d < 3)(h:P a)(e:P b)(f:P c):∃x,eM [tf a,.ref b,.ref c] d=↑x/\P x:=by
 rcases(by omega:d=0∨d=1∨d=2) with rfl |rfl |rfl
 .exact#[_,Z,h]
 .exact#[_,Z,e]
 .exact#[_,Z,f]
def IJ{P:η->Prop}(h:P a)(d:P b)(c:Bool):∃x,eM [tf a,.ref b] (if c then 1 else 0)=↑x/\P x:=by
 cases c
 .exact#[_,Z,h]
 .exact#[_,Z,d]
def di(Cf:iS)(H:Hp)(ys:tz ρ)(d:Nat)(v:V):Prop:=∃s,iG H v s/\(s.Ok ys/\s.Cs Cf)/\s.dep<=d/\s.size<=1+20*d
def ip(Cf:iS)(H:Hp)(ys:tz ρ)(d:Nat)(x:tz V):Prop:=∃b,dX H b x/\(b.Ok ys/\b.Cs Cf)/\b.dep<=d/\b.size<=(1+20*d)*x.length
theorem di.mono(h:di Cf H ys d v)(m:am H a):di Cf a ys d v:=let #[s,b,c]:=h;#[s,b.mono m,c]
theorem ip.mono(h:ip Cf H ys d x)(m:am H a):ip Cf a ys d x:=let #[s,b,c]:=h;#[s,b.mono m,c]
def di.up(h:di Cf H ys 0 v):di Cf H ys d v:=let #[s,a,b,c,e]:=h;#[s,a,b,WM,WM]
def KQ:ip Cf H ys d []:=#[.nil,Z,#[trivial,trivial],NY _,NY _]
def JL{xs:tz V}(h:ip Cf H ys d xs)(g:ip Cf H ys d z):ip Cf H ys d (xs++z):=by let⟨a,c,A,f,i⟩:=h;let⟨b,e,B,j,k⟩:=g;refine#[a.app b,e.app c,#[KO A.1 B.1,KN A.2 B.2],by rw[zB];omega,?_];rw[j9,NP,Nat.mul_add];omega
def zN(h:di Cf H ys d v):ip Cf H ys d [v]:=by let⟨s,a,b,c,e⟩:=h;exact#[s,a.bd,b,c,by show s.size<=(1+20*d)*1;omega]
def j7(h:di Cf H ys d v)(g:ip Cf H ys d xs):ip Cf H ys d (v::xs):=JL (xs:=[v]) (zN h) g
def XS{l:Lf}(h:H p=δ (.tup v))(a:Aj H l v)(b:l.Ok ys)(c:l.Cs Cf):di Cf H ys 0 (.ref p):=#[.lf p l .nil,.lf p l v h a,#[#[b,trivial],c,trivial],NQ 0,NQ 1]
noncomputable def Lk(h:H p=δ (.tup [.str "read",.str x,.ref t]))(a:x∈ys)(b:hV H ys k t)(c:↥(k < 6)):di Cf H ys 0 (.ref p):=by let⟨T,d,e⟩:=b.ok c;exact XS (l:=.rd x t T) h #[Z,d] #[a,e] trivial
def Ll(h:H p=δ (.tup [.str "set",.str x,.ref t]))(a:x∈ys)(b:hV H ys k t)(c:↥(k < 6)):di Cf H ys 0 (.ref p):=by let⟨T,d,e⟩:=b.ok c;exact XS (l:=.st x t T) h #[Z,d] #[a,e] trivial
def Li(h:H p=δ (.tup [.str "give",.ref t]))(a:hV H ys k t)(b:↥(k < 6)):di Cf H ys 0 (.ref p):=by let⟨T,c,d⟩:=a.ok b;exact XS (l:=.gv t T) h #[Z,c] d trivial
def Lm(h:H p=δ (.tup [.str "write",.ref t,.ref u]))(a:hV H ys k t)(b:hV H ys j u)(c:↥(k < 6))(d:↥(j < 6)):di Cf H ys 0 (.ref p):=by let⟨T,e,f⟩:=a.ok c;let⟨U,g,i⟩:=b.ok d;exact XS (l:=.wr t u T U) h #[Z,e,g] #[f,i] trivial
def Lh{f:ρ}(h:H p=δ (.tup [.str "call",.str x,.str f,.ref q]))(b:x∈ys)(a:(f,2)∈Cf)(d:H q=δ (.tup [.ref t,.ref u]))(e:hV H ys k t)(g:hV H ys j u)(i:↥(k < 6))(m:↥(j < 6)):di Cf H ys 0 (.ref p):=by
 let⟨T,n,o⟩:=e.ok i;let⟨U,r,s⟩:=g.ok m;refine XS (l:=.cl x f q [(t,T),(u,U)]) h #[Z,d,λc hc=>?_] #[b,(by show 2<=6;decide),λc hc=>?_] a
 .rcases Θ.mp hc with rfl |hc
  .exact n
  .rwa[υ.mp hc]
 .rcases Θ.mp hc with rfl |hc
  .exact o
  .rwa[υ.mp hc]
def Lj(h:H p=δ (.tup [.str "if",.ref t,.ref q,.ref Q]))(e:hV H ys k t)(f:H q=δ (.tup A))(g:H Q=δ (.tup B))(G:ip Cf H ys 0 A)(i:ip Cf H ys 0 B)(r:A.length+B.length<=20)(j:↥(k < 6)):di Cf H ys 1 (.ref p):=by let⟨T,l,m⟩:=e.ok j;let⟨a,n,c,s,u⟩:=G;let⟨b,o,d,v,x⟩:=i;exact#[.ite p t T a b .nil,.ite p t T a b q Q A B h l f g n o,#[#[m,c.1,d.1,trivial],c.2,d.2,trivial],(by show max (max a.dep b.dep+1) 0<=1;omega),(by show a.size+b.size+0+1<=21;omega)]
def yA(h:H p=δ (.tup [.str "while",.ref t,.ref q]))(c:hV H ys k t)(d:H q=δ (.tup A))(g:ip Cf H ys 0 A)(l:A.length<=20)(e:↥(k < 6)):di Cf H ys 1 (.ref p):=by let⟨T,f,i⟩:=c.ok e;let⟨a,j,b,m,n⟩:=g;exact#[.loop p t T a .nil,.loop p t T a q A h f d j,#[#[i,b.1,trivial],b.2,trivial],(by show max (a.dep+1) 0<=1;omega),(by show a.size+0+1<=21;omega)]
def uK(Cf:iS)(n:Nat)(H:Hp)(r:η)(f:ρ):Prop:=∃d:Df,CJ H d (.ref r)/\(oE d/\d.b.Cs Cf)/\∃p:tz ρ,H d.pa=δ (.tup$ p.map rz)/\p.length=n/\d.f=f
theorem uK.mono(h:uK Cf n H r f)(m:am H a):uK Cf n a r f:=let #[d,b,c,p,e,g]:=h;#[d,b.mono m,c,p,m _ _ e,g]
def HY{f:ρ}{p:tz ρ}(h:H r=δ (.tup [.str f,.ref a,.ref b]))(d:H a=δ (.tup$ p.map rz))(e:p.length=n)(i:H b=δ (.tup x))(g:ip Cf H ys 1 x)(l:x.length<=100)(j:ys.length<=20):uK Cf n H r f:=by let⟨c,k,C,m,o⟩:=g;exact#[#[f,r,a,b,c],#[x,Z,h,i,k],#[#[#[ys,j,C.1],(by show c.dep < 8;omega),(by show c.size<=3000;omega)],C.2],p,d,e,Z]
structure Wd(H0 H:Hp)(p wl:η)(ys:tz ρ):Prop where
 B:ax H p
 K:aG p H0 H
 w:H wl=δ (.lst$ ys.map rz)
def Wd.np(h:Wd b H p a ys):a≠p:=qE h.B h.w
theorem Wd.same(h:Wd a H p b ys)(s:aa H c):Wd a c p b ys:=#[h.B.same s,h.K.trans$ aG.of_same s,s _ _ h.w]
def Wd.but(h:Wd b H p c ys)(B:ax a p)(k:aG p H a):Wd b a p c ys:=#[B,h.K.trans k,k _ _ h.np h.w]
def Wd.own{xs:tz V}(h:Wd a H p b ys)(n:a l=θ)(L:l≠p)(c:l≠b):Wd a (af H l$ .lst z) p b ys:=#[h.B.eq$ jh$ Ou L,h.K.upd_own n,by rw[jh$ Ou c];exact h.w]
def Xg(h:H l=δ (.lst x)):am H (af H l$ .lst a):=λb u e=>by rw[jh$ jR e h (by intro z;cases z)];exact e
end
inductive n9(d:tz V)(H:Hp)(Q:VK)(c:XK):Prop
 |mk(p a b:η)(e:tz ρ)(k:Nat)(_:d=[.ref p,.ref a,.ref b])(_:ax H p)(_:hV H e k a)(_:hV H e k b)(_:∀(r:η) (H':Hp),hV H' e (k+1) r->ax H' p->aG p H H'->Q (.ref r) H')
inductive dF(n:Nat)(b:tz V)(H:Hp)(Q:VK)(a:XK):Prop
 |mk(p c:η)(f g:ρ)(d:tz ρ)(_:b=[.ref p,.str f,.str g,.ref c])(_:ax H p)(_:H c=δ (.lst (d.map rz)))(_:d.length=6)(_:∀(r:η) (H':Hp),uK [(g,2)] n H' r f->ax H' p->aG p H H'->Q (.ref r) H')
noncomputable abbrev MD:cc:=bQ 68
noncomputable abbrev oW:cc:=bQ 69
noncomputable abbrev iK:cc:=bQ 70
noncomputable abbrev gG:cc:=bQ 71
noncomputable abbrev xA:cc:=bQ 72
def Mv{A:tz V}(h:A.length=5):∃a b c d e,A=[a,b,c,d,e]:=by
 cases A with
 |nil=>cases h
 |cons a r=>
  cases r with
  |nil=>cases h
  |cons b R=>
   cases R with
   |nil=>cases h
   |cons c f=>
    cases f with
    |nil=>cases h
    |cons d g=>
     cases g with
     |nil=>cases h
     |cons e i=>
      cases i with
      |nil=>exact#[a,b,c,d,e,Z]
      |cons _ _=>cases h
def Nr{n:Nat}:oO (n+1) 0=δ 0:=by unfold oO;rw[N0 WL,N0 WM];rfl
def Nt{n:Nat}:oO (n+2) 1=δ 1:=by unfold oO;rw[N0 WL,N0 WM];rfl
def iy:eM (v::u::y) 1=δ u:=jK (j:=1) Z
structure Fw(p:η)(H H':Hp):Prop where
 t:am H H'
 b:aG p H H'
theorem Fw.refl:Fw p H H:=#[am.refl,aG.refl]
theorem Fw.trans(a:Fw p H h)(b:Fw p h c):Fw p H c:=#[a.t.trans b.t,a.b.trans b.b]
def Fw.new{p:η}{H:Hp}{o:HO}(n:H r=θ):Fw p H (af H r o):=#[aa.tm$ je n,aG.of_same$ je n]
def Fw.same(s:aa H h):Fw p H h:=#[aa.tm s,aG.of_same s]
def Fw.but(B:ax H p)(c:aG p H h):Fw p H h:=#[c.tm B,c]
def px(P:Hp->V->Prop):Prop:=∀H h v,am H h->P H v->P h v
def Ev(a:Hp)(p W:η)(y:tz ρ)(b:Hp)(c:_L.St)(t:TE)(P:Hp->V->Prop):Prop:=∀(H:Hp) (Q:VK),Fw p b H->Wd a H p W y->(∀v h,P h v->Wd a h p W y->Fw p H h->Q v h)->t c H Q
def PT(y:tz ρ)(k:Nat)(H:Hp)(v:V):Prop:=∃a,v= .ref a/\hV H y k a
def PB(C:iS)(y:tz ρ)(d n:Nat)(H:Hp)(v:V):Prop:=∃a x,v= .ref a/\H a=δ (.tup x)/\ip C H y d x/\x.length<=n
def PN(y:tz ρ)(_:Hp)(v:V):Prop:=∃x,v= .str x/\x∈y
def PG(_:Hp)(v:V):Prop:=∃s,v= .str s/\Sg s
def PP(n:Nat)(H:Hp)(v:V):Prop:=∃(a:η) (x:tz ρ),v= .ref a/\H a=δ (.tup$ x.map rz)/\x.length=n
def Ak(y:ρ)(_:Hp)(v:V):Prop:=v= .str y
def PD(C:iS)(n:Nat)(f:ρ)(H:Hp)(v:V):Prop:=∃a,v= .ref a/\uK C n H a f
section
variable {Cf:iS}{ys:tz ρ}{H0 Hb:Hp}{p wl:η}{σ:_L.St}
def ay:px (PT ys k):=λ_ _ _ m #[a,e,h]=>#[a,e,h.mono m]
def eN:px (PB Cf ys d n):=λ_ _ _ m #[a,x,e,h,H,b]=>#[a,x,e,m _ _ h,H.mono m,b]
def eZ:px λH v=>di Cf H ys d v:=λ_ _ _ m h=>h.mono m
def mj:px (PD Cf n f):=λ_ _ _ m #[a,e,h]=>#[a,e,h.mono m]
def Ev.up{P R:Hp->V->Prop}(h:Ev H0 p wl ys Hb σ t P)(k:∀H v,P H v->R H v):Ev H0 p wl ys Hb σ t R:=λH Q m W q=>h H Q m W λv a x=>q v a (k _ _ x)
def jQ{P:Hp->V->Prop}(e:σ[i]?=δ (δ v))(M:px P)(h:P Hb v):Ev H0 p wl ys Hb σ (a9 i) P:=λH Q m W q=>#[v,e,q v H (M _ _ _ m.t h) W .refl]
def qD(h:Sg s):Ev H0 p wl ys Hb σ (tC$ .str s) PG:=λH Q m W q=>q _ H #[s,Z,h] W .refl
def zb{K:β}(e:σ[j]?=δ (↑wl))(a:0<=i)(b:i < (ys.length:Int)):Ev H0 p wl ys Hb σ (eV (lJ K) (a9 j)$ tC$ .int i) (PN ys):=λH Q m W q=>by let⟨y,c,h⟩:=KM (ys:=ys) a b;exact#[_,e,wl,_,_,_,Z,Z,aH.of W.w,h,q _ H #[y,Z,c] W .refl]
def kP{Q:VK}{P:Hp->V->Prop}(W:Wd H0 H p wl ys)(q:∀v h,P h v->Wd H0 h p wl ys->Fw p H h->Q v h)(n:H r=θ)(x:am H (af H r o)->af H r o r=δ o->P (af H r o) (.ref r)):Q (.ref r) (af H r o):=
 q _ _ (x (aa.tm$ je n) jc) (W.same$ je n) (.new n)
abbrev Af(n:Int):TE:=eU a7 [] E0 (ap (a9 0)$ ap (tC$ .int n) aS)
def PK(n:Int)(_:Hp)(v:V):Prop:=∃d:Int,v= .int d/\0<=d/\d < n
def zg(e:σ[0]?=δ (↑p))(h:1<=n)(c:n<=1000):Ev H0 p wl ys Hb σ (Af n) (PK n):=λH Q m W q=>
 #[_,e,p,n,Z,W.B,WM,WM,λd f D a b E=>q _ _ #[d,Z,D,a] (W.but b$ aG.of_eq E) (.but W.B$ aG.of_eq E)]
def kQ(h:Ev H0 p wl ys Hb σ t (PK n))(g:n<=1000000000000000000):Ev H0 p wl ys Hb σ (cp$ ap (tC$ .str "num")$ ap t aS) (PT ys 0):=λH Q m W q=>
 h H _ m W λv i #[d,e,D,j] a b=>#[cj,λr N=>kP (P:=PT ys 0) a (λV c x f k=>q V c x f (b.trans k)) N λ_ z=>#[r,Z,GH (by rw[z,e]) D WM]]
def Xc(h:0<=n)(a:n < m):Ev H0 p wl ys Hb σ (tC$ .int n) (PK m):=λH Q _ W q=>q _ H #[n,Z,h,a] W .refl
def Xh(h:Ev H0 p wl ys Hb σ t (PK n))(c:0<=m):Ev H0 p wl ys Hb σ (eV (Ae λi j=>sn (i+j)) (tC$ .int m) t) (PK$ m+n):=λH Q M W q=>
 h H _ M W λv a #[d,e,D,f] b k=>#[m,d,Z,e,q _ a #[m+d,Z,WM,WM] b k]
def KA(h:Ev H0 p wl ys Hb σ t (PN ys)):Ev H0 p wl ys Hb σ (cp$ ap (tC$ .str "var")$ ap t aS) (PT ys 0):=λH Q m W q=>
 h H _ m W λv i #[d,e,a] b c=>#[cj,λr n=>kP (P:=PT ys 0) b (λV f x g k=>q V f x g (c.trans k)) n λ_ z=>#[r,Z,yP (by rw[z,e]) a]]
def qB{n:Nat}(h:Ev H0 p wl ys Hb σ T PG)(f:Ev H0 p wl ys Hb σ g (PT ys j))(i:Ev H0 p wl ys Hb σ l (PT ys k))(o:j < n)(u:k < n):Ev H0 p wl ys Hb σ (cp$ ap (tC$ .str "op")$ ap T$ ap g$ ap l aS) (PT ys n):=λH Q m W q=>
 h H _ m W λM v #[s,E,X] y c=>f v _ (m.trans c) y λO A #[a,B,C] D d=>i A _ ((m.trans c).trans d) D λR S #[b,F,G] I e=>#[rY,λr N=>kP (P:=PT ys n) I (λV J x L k=>q V J x L (((c.trans d).trans e).trans k)) N λt z=>
  #[r,Z,DH (by rw[z,E,B,F]) X ((C.mono e.t).mono t) (G.mono t) o u]]
def Ih(e:σ[0]?=δ (↑p)):Ev H0 p wl ys Hb σ (eV Bz (tC$ .str "<=*")$ Af 3) PG:=λH Q m W q=>
 zg e WL WL H _ m W λv h #[d,E,D,a] b k=>by let⟨g,i,x⟩:=Br D a;exact#["<=*",d,g,Z,E,WO,i,q _ h #[_,Z,x] b k]
def ZF{K:β}(e:σ[0]?=δ (↑p))(r:Ev H0 p wl ys Hb σ T (PT ys k))(s:Ev H0 p wl ys Hb σ u (PT ys k)):Ev H0 p wl ys Hb σ (eV (lJ K) (oj$ ap T$ ap u aS)$ Af 2) (PT ys k):=λH Q m W q=>
 r H _ m W λV y #[a,E,X] z c=>s y _ (m.trans c) z λA C #[b,D,F] h f=>#[cj,λl n=>zg e WL WL _ _ (((m.trans c).trans f).trans$ .new n) (h.same$ je n) λv G #[d,I,J,L] M j=>by
  let⟨g,i,x⟩:=IH (P:=hV C ys k) J L (X.mono f.t) F;rw[<- E,<- D]at i;let t:=(Fw.new (p:=p) (o:=HO.lst [V,A]) n).trans j;exact#[l,_,d,_,Z,I,aH.of$ j.b _ _ (h.B.ne n) jc,i,q _ G #[g,Z,x.mono t.t] M ((c.trans f).trans t)]]
def C3{K:β}(e:σ[0]?=δ (↑p))(u:Ev H0 p wl ys Hb σ T (PT ys k))(y:Ev H0 p wl ys Hb σ z (PT ys k))(A:Ev H0 p wl ys Hb σ C (PT ys k)):Ev H0 p wl ys Hb σ (eV (lJ K) (oj$ ap T$ ap z$ ap C aS)$ Af 3) (PT ys k):=λH Q m W q=>
 u H _ m W λV D #[a,E,X] F f=>y D _ (m.trans f) F λG I #[b,J,L] M h=>A I _ ((m.trans f).trans h) M λN O #[c,R,S] r j=>#[hZ,λl n=>zg e WL WL _ _ ((((m.trans f).trans h).trans j).trans$ .new n) (r.same$ je n) λv U #[d,Y,d0,d1] W4 s=>by
  let⟨g,i,x⟩:=II (P:=hV O ys k) d0 d1 (X.mono (h.trans j).t) (L.mono j.t) S;rw[<- E,<- J,<- R]at i;let t:=(Fw.new (p:=p) (o:=HO.lst [V,G,N]) n).trans s;exact#[l,_,d,_,Z,Y,aH.of$ s.b _ _ (r.B.ne n) jc,i,q _ U #[g,Z,x.mono t.t] W4 (((f.trans h).trans j).trans t)]]
def Ie{K:β}(e:σ[0]?=δ (↑p))(r:1<=n)(s:n<=1000)(u:Ev H0 p wl ys Hb σ T (PT ys k))(y:Ev H0 p wl ys Hb σ z (PT ys k)):Ev H0 p wl ys Hb σ (eV (lJ K) (oj$ ap T$ ap z aS)$ LQ (λX H Q=>(∃i,X=[sn i]/\Q (sn i) H)∨∃k,X=[V.bl k]/\Q (sn (if k=μ then 1 else 0)) H)$ ap (eV IM (Af n)$ tC$ .int 0) aS) (PT ys k):=λH Q m W q=>
 u H _ m W λA C #[a,E,D] F c=>y C _ (m.trans c) F λG I #[b,J,L] h f=>#[cj,λl N=>zg e r s _ _ (((m.trans c).trans f).trans$ .new N) (h.same$ je N) λv M #[d,O,S,U] R j=>by
  subst O;refine#[Z,.inr #[_,Z,?_]];let⟨g,i,x⟩:=IJ (P:=hV I ys k) (D.mono f.t) L _;rw[<- E,<- J]at i;let t:=(Fw.new (p:=p) (o:=HO.lst [A,G]) N).trans j;exact#[l,_,_,_,Z,Z,aH.of$ j.b _ _ (h.B.ne N) jc,i,q _ M #[g,Z,x.mono t.t] R ((c.trans f).trans t)]]
def KB(e:σ[0]?=δ (↑p))(h:Ev H0 p wl ys Hb σ T (PT ys k))(g:Ev H0 p wl ys Hb σ i (PT ys k)):Ev H0 p wl ys Hb σ (eU n9 [] E0$ ap (a9 0)$ ap T$ ap i aS) (PT ys$ k+1):=λH Q m W q=>
 #[_,e,h H _ m W λv j #[a,E,x] l d=>g j _ (m.trans d) l λV y #[b,n,X] c f=>#[p,a,b,ys,k,by rw[E,n];rfl,c.B,x.mono f.t,X,λr o s u C=>q _ o #[r,Z,s] (c.but u C) ((d.trans f).trans$ .but c.B C)]]
def AA{w:ρ}{T a:TE}{A B R:Hp->V->Prop}(M:px A)(d:px B)(e:Ev H0 p wl ys Hb σ T A)(f:Ev H0 p wl ys Hb σ a B)(h:∀H r u v,H r=δ (.tup [.str w,u,v])->A H u->B H v->R H (.ref r)):Ev H0 p wl ys Hb σ (cp$ ap (tC$ .str w)$ ap T$ ap a aS) R:=λH Q m W q=>
 e H _ m W λC g X i b=>f g _ (m.trans b) i λD E j l c=>#[hZ,λr n=>kP (P:=R) l (λo s x y k=>q o s x y ((b.trans c).trans k)) n λt z=>h _ _ _ _ z (M _ _ _ t$ M _ _ _ c.t X) (d _ _ _ t j)]
def Mp{w:ρ}{T:TE}{A R:Hp->V->Prop}(M:px A)(a:Ev H0 p wl ys Hb σ T A)(h:∀H r u,H r=δ (.tup [.str w,u])->A H u->R H (.ref r)):Ev H0 p wl ys Hb σ (cp$ ap (tC$ .str w)$ ap T aS) R:=λH Q m W q=>
 a H _ m W λf g X b c=>#[cj,λr n=>kP (P:=R) b (λv d x e k=>q v d x e (c.trans k)) n λt z=>h _ _ _ z (M _ _ _ t X)]
def Ia{w:ρ}{T d e:TE}{A B C R:Hp->V->Prop}(M:px A)(f:px B)(g:px C)(i:Ev H0 p wl ys Hb σ T A)(j:Ev H0 p wl ys Hb σ d B)(l:Ev H0 p wl ys Hb σ e C)(h:∀H r u v x,H r=δ (.tup [.str w,u,v,x])->A H u->B H v->C H x->R H (.ref r)):Ev H0 p wl ys Hb σ (cp$ ap (tC$ .str w)$ ap T$ ap d$ ap e aS) R:=λH Q m W q=>
 i H _ m W λL n X o a=>j n _ (m.trans a) o λO s y D b=>l s _ ((m.trans a).trans b) D λS U E F c=>#[rY,λr N=>kP (P:=R) F (λG I x J k=>q G I x J (((a.trans b).trans c).trans k)) N λt z=>h _ _ _ _ _ z (M _ _ _ t$ M _ _ _ (b.trans c).t X) (f _ _ _ t$ f _ _ _ c.t y) (g _ _ _ t E)]
def Eu:px (PN ys):=λ_ _ _ _ h=>h
def KC{t T:TE}{k:Nat}(h:Ev H0 p wl ys Hb σ t (PN ys))(b:Ev H0 p wl ys Hb σ T (PT ys k))(c:k < 6):Ev H0 p wl ys Hb σ (cp$ ap (tC$ .str "read")$ ap t$ ap T aS) (λH v=>di Cf H ys 0 v):=AA Eu ay h b λH r u v z #[x,e,d] #[a,E,f]=>Lk (by rw[z,e,E]) d f c
def JY{t T:TE}{k:Nat}(h:Ev H0 p wl ys Hb σ t (PN ys))(b:Ev H0 p wl ys Hb σ T (PT ys k))(c:k < 6):Ev H0 p wl ys Hb σ (cp$ ap (tC$ .str "set")$ ap t$ ap T aS) (λH v=>di Cf H ys 0 v):=AA Eu ay h b λH r u v z #[x,e,d] #[a,E,f]=>Ll (by rw[z,e,E]) d f c
def KD{t T:TE}{j k:Nat}(h:Ev H0 p wl ys Hb σ t (PT ys j))(b:Ev H0 p wl ys Hb σ T (PT ys k))(c:j < 6)(d:k < 6):Ev H0 p wl ys Hb σ (cp$ ap (tC$ .str "write")$ ap t$ ap T aS) (λH v=>di Cf H ys 0 v):=AA ay ay h b λH r u v z #[x,e,f] #[a,E,g]=>Lm (by rw[z,e,E]) f g c d
def XT{t:TE}{k:Nat}(h:Ev H0 p wl ys Hb σ t (PT ys k))(b:k < 6):Ev H0 p wl ys Hb σ (cp$ ap (tC$ .str "give")$ ap t aS) (λH v=>di Cf H ys 0 v):=Mp ay h λH r v z #[a,e,c]=>Li (by rw[z,e]) c b
def vA{n o T c:TE}{j k:Nat}(C:Ev H0 p wl ys Hb σ n (PN ys)){f:ρ}(D:Ev H0 p wl ys Hb σ o (Ak f))(d:(f,2)∈Cf)(F:Ev H0 p wl ys Hb σ T (PT ys j))(G:Ev H0 p wl ys Hb σ c (PT ys k))(I:j < 6)(J:k < 6):Ev H0 p wl ys Hb σ (cp$ ap (tC$ .str "call")$ ap n$ ap o$ ap (cp$ ap T$ ap c aS) aS) (λH v=>di Cf H ys 0 v):=by
 let' R:Hp->V->Prop:=λH v=>∃q a b,v= .ref q/\H q=δ (.tup [.ref a,.ref b])/\hV H ys j a/\hV H ys k b
 let M:px R:=λ_ _ _ m #[q,a,b,e,g,L,i]=>#[q,a,b,e,m _ _ g,L.mono m,i.mono m];let N:Ev H0 p wl ys Hb σ (cp$ ap T$ ap c aS) R:=λH Q m W q=>
  F H _ m W λv2 O #[a,E,X] S s=>G O _ (m.trans s) S λv3 H3 #[b,l,U] Y A=>#[cj,λr nr=>kP (P:=R) Y (λv' H' x W' k=>q v' H' x W' ((s.trans A).trans k)) nr λt z=>#[r,a,b,Z,by rw[z,E,l],(X.mono A.t).mono t,U.mono t]]
 exact Ia Eu (B:=Ak f) (λ_ _ _ _ h=>h) M C D N λH r u v x z #[y,e1,g] (E:v= .str f) #[q,a,b,l,i,h4,h5]=>Lh (f:=f) (by rw[z,e1,E,l]) g d i h4 h5 I J
def C1{t T b:TE}{k n m:Nat}(h:Ev H0 p wl ys Hb σ t (PT ys k))(c:Ev H0 p wl ys Hb σ T (PB Cf ys 0 n))(d:Ev H0 p wl ys Hb σ b (PB Cf ys 0 m))(e:k < 6)(s:n+m<=20):Ev H0 p wl ys Hb σ (cp$ ap (tC$ .str "if")$ ap t$ ap T$ ap b aS) (λH v=>di Cf H ys 1 v):=
 Ia ay eN eN h c d λH r u v x z #[a,E,f] #[Q,X,g,i,j,y] #[A,B,l,o,q,C]=>Lj (by rw[z,E,g,l]) f i o j q WM e
def C7{t T:TE}{k n:Nat}(h:Ev H0 p wl ys Hb σ t (PT ys k))(b:Ev H0 p wl ys Hb σ T (PB Cf ys 0 n))(c:k < 6)(i:n<=20):Ev H0 p wl ys Hb σ (cp$ ap (tC$ .str "while")$ ap t$ ap T aS) (λH v=>di Cf H ys 1 v):=
 AA ay eN h b λH r u v z #[a,e,d] #[q,x,E,f,g,j]=>yA (by rw[z,e,E]) d f g WM c
def C0{d:Nat}:Ev H0 p wl ys Hb σ (cp aS) (PB Cf ys d 0):=λH Q m W q=>#[fc,λr n=>kP (P:=PB Cf ys d 0) W q n λt z=>#[r,[],Z,z,KQ,NQ 0]]
def KE(h:Ev H0 p wl ys Hb σ T (λH v=>di Cf H ys d v)):Ev H0 p wl ys Hb σ (cp$ ap T aS) (PB Cf ys d 1):=λH Q m W q=>
 h H _ m W λf g X a b=>#[iQ,λr n=>kP (P:=PB Cf ys d 1) a (λV c x e k=>q V c x e (b.trans k)) n λt z=>#[r,_,Z,z,zN$ X.mono t,NQ 1]]
def ZG(h:Ev H0 p wl ys Hb σ T (λH v=>di Cf H ys d v))(c:Ev H0 p wl ys Hb σ e (λH v=>di Cf H ys d v)):Ev H0 p wl ys Hb σ (cp$ ap T$ ap e aS) (PB Cf ys d 2):=λH Q m W q=>
 h H _ m W λs f X g a=>c f _ (m.trans a) g λu y i j b=>#[cj,λr n=>kP (P:=PB Cf ys d 2) j (λV l x o k=>q V l x o ((a.trans b).trans k)) n λt z=>#[r,_,Z,z,j7 ((X.mono b.t).mono t)$ zN$ i.mono t,NQ 2]]
def Ib(h:Ev H0 p wl ys Hb σ T (λH v=>di Cf H ys d v))(e:Ev H0 p wl ys Hb σ f (λH v=>di Cf H ys d v))(g:Ev H0 p wl ys Hb σ i (λH v=>di Cf H ys d v)):Ev H0 p wl ys Hb σ (cp$ ap T$ ap f$ ap i aS) (PB Cf ys d 3):=λH Q m W q=>
 h H _ m W λC j X l a=>e j _ (m.trans a) l λD n o s b=>g n _ ((m.trans a).trans b) s λE F u y c=>#[hZ,λr N=>kP (P:=PB Cf ys d 3) y (λV A x B k=>q V A x B (((a.trans b).trans c).trans k)) N λt z=>#[r,_,Z,z,j7 ((X.mono (b.trans c).t).mono t)$ j7 ((o.mono c.t).mono t)$ zN$ u.mono t,NQ 3]]
def q8(h:Ev H0 p wl ys Hb σ T (PB Cf ys d n))(e:Ev H0 p wl ys Hb σ f (PB Cf ys d m))(B:n+m<=100):Ev H0 p wl ys Hb σ (eV xq T f) (PB Cf ys d$ n+m):=λH Q M W q=>
 h H _ M W λV g #[a,x,E,i,X,L] j c=>e g _ (M.trans c) j λC D #[b,z,l,o,u,F] v k=>#[a,b,x,z,E,l,k.t _ _ i,o,N6 (show x.length+z.length<=100 by omega) WL,λr y A s=>q _ y #[r,_,Z,A,JL ((X.mono k.t).mono$ aa.tm s)$ u.mono$ aa.tm s,by rw[NP];omega] (v.same s) ((c.trans k).trans$ .same s)]
def QK(e:σ[i]?=δ (δ$ .str x)):Ev H0 p wl ys Hb σ (a9 i) (Ak x):=jQ e (λ_ _ _ _ h=>h) Z
def ZH(h:Ev H0 p wl ys Hb σ T (Ak f))(g:Ev H0 p wl ys Hb σ i (PP m))(j:Ev H0 p wl ys Hb σ l (PB Cf ys 1 n))(O:n<=100)(o:ys.length<=20):Ev H0 p wl ys Hb σ (cp$ ap T$ ap i$ ap l aS) (PD Cf m f):=λH Q M W q=>
 h H _ M W λv s (E:v= .str f) u c=>g s _ (M.trans c) u λR y #[a,S,A,B,L] C d=>j y _ ((M.trans c).trans d) C λU Y #[b,xs,D,F,X,l4] G e=>#[hZ,λr N=>kP (P:=PD Cf m f) G (λV I x J k=>q V I x J (((c.trans d).trans e).trans k)) N λt z=>
  #[r,Z,HY (f:=f) (by rw[z,E,A,D]) (t _ _$ e.t _ _ B) L (t _ _ F) (X.mono t) WM o]]
def C4(h:Ev H0 p wl ys Hb σ T (PN ys)):Ev H0 p wl ys Hb σ (cp$ ap T aS) (PP 1):=λH Q m W q=>
 h H _ m W λV f #[X,e,_] a b=>#[iQ,λr n=>kP (P:=PP 1) a (λv c x d k=>q v c x d (b.trans k)) n λt z=>#[r,[X],Z,by rw[z,e];rfl,Z]]
def C5(h:Ev H0 p wl ys Hb σ T (PN ys))(b:Ev H0 p wl ys Hb σ c (PN ys)):Ev H0 p wl ys Hb σ (cp$ ap T$ ap c aS) (PP 2):=λH Q m W q=>
 h H _ m W λV d #[X,e,_] f a=>b d _ (m.trans a) f λs u #[g,E,_] i j=>#[cj,λr n=>kP (P:=PP 2) i (λv l x o k=>q v l x o ((a.trans j).trans k)) n λt z=>#[r,[X,g],Z,by rw[z,e,E];rfl,Z]]
def di.lift(h:di Cf H ys 0 v):di Cf H ys 1 v:=h.up
def PB.lift(h:PB Cf ys 0 n H v):PB Cf ys 1 n H v:=let #[a,x,e,c,#[b,B,d,g,i],f]:=h;#[a,x,e,c,#[b,B,d,WM,WM],f]
def PB.more(h:PB Cf ys d n H v)(k:n<=m):PB Cf ys d m H v:=let #[a,x,e,b,c,f]:=h;#[a,x,e,b,c,N6 f k]
def Jd{a b:TS}(W:Wd H0 H p wl ys)(e:σ[0]?=δ (↑p))(g:1<=n)(i:n<=1000)(j:∀h,Wd H0 h p wl ys->Fw p H h->a D σ h)(l:∀h,Wd H0 h p wl ys->Fw p H h->b D σ h):gX (l7$ eV IM (Af n)$ tC$ .int 0) a b D σ H:=
 zg (Hb:=H) e g i H _ .refl W λv c #[d,E,m,o] f k=>by subst E;exact#[Z,_,Z,cg (λ_=>j c f k) (λ_=>l c f k)]
def jY{D:bh}{P:Hp->V->Prop}(W:Wd H0 H p wl ys)(h:Ev H0 p wl ys H σ t P)(q:∀v a,P a v->Wd H0 a p wl ys->Fw p H a->D.nx (σ.set i$ δ v) a):dJ t (bp i) D σ H:=h H _ .refl W q
def Xi{D:bh}{P:Hp->V->Prop}(W:Wd H0 H p wl ys)(h:Ev H0 p wl ys H σ t P)(q:∀v a,P a v->Wd H0 a p wl ys->D.rt v a):gY t D σ H:=h H _ .refl W λv a x b _=>q v a x b
def Ca{K:β}{D:bh}(W:Wd H0 H p wl ys)(d:Ev H0 p wl ys H σ T (PT ys 0))(e:Ev H0 p wl ys H σ f (PT ys 0))(g:Ev H0 p wl ys H σ l (PT ys 0))
  (q:∀u v w h,PT ys 0 h u->PT ys 0 h v->PT ys 0 h w->Wd H0 h p wl ys->Fw p H h->D.nx (((σ.set k$ δ w).set j$ δ v).set i$ δ u) h):Dy K (cp$ ap T$ ap f$ ap l aS) i j k D σ H:=
 d H _ .refl W λV m x o a=>e m _ a o λs y X z b=>g y _ (a.trans b) z λA E B C c=>#[hZ,λr n=>#[r,_,_,_,Z,aC.of jc,q V s A _ (ay _ _ _ (aa.tm$ je n)$ ay _ _ _ (b.trans c).t x) (ay _ _ _ (aa.tm$ je n)$ ay _ _ _ c.t X) (ay _ _ _ (aa.tm$ je n) B) (C.same$ je n) (((a.trans b).trans c).trans$ .new n)]]
structure Ow(H0 H:Hp)(p wl l:η)(xs:tz V):Prop where
 hl:H l=δ (.lst xs)
 np:l≠p
 lw:l≠wl
 l0:H0 l=θ
def Ow.fw(o:Ow H0 H p wl l x)(k:Fw p H h):Ow H0 h p wl l x:=#[k.b _ _ o.np o.hl,o.np,o.lw,o.l0]
def Ow.new(W:Wd H0 H p wl ys)(n:H l=θ):Ow H0 (af H l$ .lst x) p wl l x:=#[jc,W.B.ne n,(λe=>by let z:=W.w;rw[<- e,n]at z;cases z),W.K.none W.B n]
def IF{D:bh}(W:Wd H0 H p wl ys)(b:Ev H0 p wl ys H σ t (λH v=>di Cf H ys 0 v))(q:∀l v h,Ow H0 h p wl l [v]->di Cf h ys 0 v->Wd H0 h p wl ys->Fw p H h->D.nx (σ.set i$ ↑l) h):dJ (oj$ ap t aS) (bp i) D σ H:=
 b H _ .refl W λV c x a k=>#[iQ,λl n=>q l V _ (.new a n) (x.mono$ aa.tm$ je n) (a.same$ je n) (k.trans$ .new n)]
def IG{D:bh}(W:Wd H0 H p wl ys)(c:Ev H0 p wl ys H σ T (λH v=>di Cf H ys 0 v))(d:Ev H0 p wl ys H σ e (λH v=>di Cf H ys 0 v))(q:∀l u v h,Ow H0 h p wl l [u,v]->di Cf h ys 0 u->di Cf h ys 0 v->Wd H0 h p wl ys->Fw p H h->D.nx (σ.set i$ ↑l) h):dJ (oj$ ap T$ ap e aS) (bp i) D σ H:=
 c H _ .refl W λV f x g k=>d f _ k g λj m X a b=>#[cj,λl n=>q l V j _ (.new a n) ((x.mono b.t).mono$ aa.tm$ je n) (X.mono$ aa.tm$ je n) (a.same$ je n) ((k.trans b).trans$ .new n)]
def JM{K:β}{D:bh}(W:Wd H0 H p wl ys)(a:σ[i]?=δ (↑l))(o:Ow H0 H p wl l xs)(b:xs.length<=100)(c:Ev H0 p wl ys H σ T (λH v=>di Cf H ys 0 v))
  (q:∀v h,di Cf h ys 0 v->Ow H0 h p wl l (xs++[v])->Wd H0 h p wl ys->am H h->D.nx σ h):sd (ML K "list" mq (a9 i)$ ap T aS) D σ H:=
 #[_,a,.inl #[Z,_,aH.of o.hl],c H _ .refl W λv e x d k=>#[l,xs,v,Z,Z,(o.fw k).hl,Ph b WL,q v _ (x.mono$ Xg (o.fw k).hl) #[jc,o.np,o.lw,o.l0] (d.own (xs:=xs) o.l0 o.np o.lw) (k.t.trans$ Xg (o.fw k).hl)]]
def Cp{K:β}{D:bh}(W:Wd H0 H p wl ys)(h:σ[i]?=δ (↑l))(o:Ow H0 H p wl l (u::v::z))
  (q:∀a,Ow H0 a p wl l (v::u::z)->Wd H0 a p wl ys->am H a->D.nx σ a):dJ (cp$ ap (eV (lJ K) (a9 i)$ tC$ .int 1)$ ap (eV (lJ K) (a9 i)$ tC$ .int 0) aS) (sV K 2$ dP (Ed (a9 i) (tC$ .int 0) re)$ dP (Ed (a9 i) (tC$ .int 1) re) vK) D σ H:=
 #[_,h,l,_,_,_,Z,Z,aH.of o.hl,iy,_,h,l,_,_,_,Z,Z,aH.of o.hl,eY,cj,λt N=>#[t,_,Z,aC.of jc,Z,_,_,Z,_,h,l,_,0,0,Z,Z,aq o.hl N,Nr (n:=z.length+1),_,_,Z,_,h,l,_,1,1,Z,Z,jc,Nt (n:=z.length),Z,
  q _ #[jc,o.np,o.lw,o.l0] (((W.same$ je N).own (xs:=u::v::z) o.l0 o.np o.lw).own (xs:=u::v::z) o.l0 o.np o.lw) (((aa.tm$ je N).trans$ Xg$ aq o.hl N).trans$ Xg jc)]]
def C6{K:β}{n:Nat}(e:σ[i]?=δ (↑l))(o:Ow H0 Hb p wl l x)(h:ip Cf Hb ys 0 x)(a:x.length<=n):Ev H0 p wl ys Hb σ (LQ (λx H Q=>∃p ys,x=[tf p]/\((aH K H p ys/\∀(l:η),H l=θ->Q (tf l) (af H l$ HO.tup ys))∨aC K H p ys/\Q (tf p) H))$ ap (a9 i) aS) (PB Cf ys 0 n):=λH Q m W q=>
 #[_,e,l,x,Z,.inl #[aH.of (o.fw m).hl,λr N=>kP (P:=PB Cf ys 0 n) W q N λt z=>#[r,x,Z,z,(h.mono m.t).mono t,a]]]
def DS{D:bh}(W:Wd H0 H p wl ys)(u:σ[i]?=δ (↑l))(y:σ[j]?=δ (↑m))(o:Ow H0 H p wl l x)(O:Ow H0 H p wl m z)(C:x.length+z.length<=100)(E:ip Cf H ys 0 x)(F:ip Cf H ys 0 z)
  (G:Ev H0 p wl ys H σ T (λH v=>di Cf H ys 0 v)) (I:Ev H0 p wl ys H σ J (λH v=>di Cf H ys 0 v)) (q:∀r U h,Ow H0 h p wl r U->ip Cf h ys 0 U->U.length<=x.length+z.length+2->Wd H0 h p wl ys->Fw p H h->D.nx (σ.set i$ ↑r) h):
  dJ (eV By (eV By (a9 i)$ a9 j)$ oj$ ap T$ ap J aS) (bp i) D σ H:=
 #[_,u,_,y,l,m,_,_,Z,Z,o.hl,O.hl,N6 C WL,λc n=>G _ _ (.new n) (W.same$ je n) λV L X M k=>I L _ ((Fw.new n).trans k) M λe R Q A s=>#[cj,λd N=>#[c,d,_,_,Z,Z,aq ((k.trans s).b _ _ (W.B.ne n) jc) N,jc,by
  let:=aK;show(x++z).length+2<=τ;rw[NP];omega,λr a=>q r _ _ (.new (A.same$ je N) a) (by
   let f:=(((Fw.new n).trans k).trans s).trans ((Fw.new (p:=p) (o:=HO.lst [V,e]) N).trans$ Fw.new (o:=HO.lst ((x++z)++[V,e])) a);let g:=(Fw.new (p:=p) (o:=HO.lst [V,e]) N).trans (Fw.new (o:=HO.lst ((x++z)++[V,e])) a);exact JL (JL (E.mono f.t)$ F.mono f.t)$ j7 ((X.mono s.t).mono g.t)$ zN$ Q.mono g.t) (by rw[NP,NP];exact NQ _) ((A.same$ je N).same$ je a) ((((Fw.new n).trans k).trans s).trans ((Fw.new N).trans$ Fw.new a))]]]
def Z6{K:β}{D:bh}(W:Wd H0 H p wl ys)(k:σ[3]?=δ (↑wl))(l:ys.length=6)
  (q:∀a b c d e g,PT ys 0 g a->PT ys 0 g b->PT ys 0 g c->PT ys 0 g d->PT ys 0 g e->Wd H0 g p wl ys->D.nx (((((σ.set 4$ δ a).set 5$ δ b).set 6$ δ c).set 7$ δ d).set 8$ δ e) g):
  dJ (yD (Dc K$ LS (BC K) (a9 3) nC$ om$ tC$ sn 5) 1 [] (bp 0) nB$ cp$ ap (tC$ rz "var")$ ap (a9 0) aS) (Mq K 5$ dP (bp 4)$ dP (bp 5)$ dP (bp 6)$ dP (bp 7)$ dP (bp 8) vK) D σ H:=by
 let B:=aK;refine#[_,k,_,Z,wl,_,Z,aH.of W.w,λs n=>?_];let E:aW (ys.map rz) θ (δ 5)=(ys.take 5).map rz:=by rw[show(5:Int)=((5:Nat):Int) from Z,HP (by rw[NO];omega),RU]
 let t:af H s (.lst$ aW (ys.map rz) θ$ δ 5) s=δ (.lst ((ys.take 5).map rz)):=by rw[E];exact jc
 let S:=je (o:=HO.lst (aW (ys.map rz) θ$ δ 5)) n;generalize af H s (.lst$ aW (ys.map rz) θ$ δ 5)=A at t S;refine#[s,Z,#[_,aH.of t],?_];refine sL (K:=K) (a:=s) (xs:=(ys.take 5).map rz) (by rw[NO,Oh];omega) (λi j g=>j.length=i/\(∀v∈j,PT ys 0 g v)/\aa A g) #[Z,(λ_ h=>absurd h Ov),aa.refl _] (λi j g h=>#[aH.of$ h.2.2 _ _ t,Tu h.1]) (λi x j g C h=>?_) (λj F h L N=>?_)
 .let⟨y,l,rfl⟩:=dn.mp (Og C);exact#[_,Z,cj,λr u=>#[by rw[NP,h.1];rfl,Js (λa z=>ay _ _ _ (aa.tm$ je u) (h.2.1 a z)) #[r,Z,yP jc$ OZ l],h.2.2.trans$ je u]]
 .let e:=h.1;rw[NO,Oh]at e;let⟨a,b,c,d,f,rfl⟩:=Mv (show j.length=5 by omega);let m:=aa.tm (je (o:=HO.lst [a,b,c,d,f]) N);exact#[L,_,Z,aH.of jc,Z,_,_,Z,_,_,Z,_,_,Z,_,_,Z,_,_,Z,Z,q a b c d f _ (ay _ _ _ m$ h.2.1 a WN) (ay _ _ _ m$ h.2.1 b WN) (ay _ _ _ m$ h.2.1 c WN) (ay _ _ _ m$ h.2.1 d WN) (ay _ _ _ m$ h.2.1 f WN) (((W.same S).same h.2.2).same$ je N)]
end
def ME:aj z16z z16z (ae MD):=bN
def IA(F:ti K "_law_op" MD f t)(C:‹1› T u z0z a7 "_law_take"):⇑2 f t z16z n9:=by
 erw[F.ok ME λv A O s H V Q E x h=>?_]
 let⟨p,a,b,y,k,rfl,B,z,D,q⟩:=h;refine#[_,(jg$ jo$ ji$ ja jm$ ja (jr jv (jE$ ja jm$ ja jm$ ja jm$ ja jm jb) (C.e x.m$ ja (pv 0)$ ja jf jb) (λ_ _=>Z))$ ja (pv 1)$ ja (pv 2) jb),?_];refine#[rY,λl n=>#[_,Z,p,4,Z,B.upd_new n,WL,WL,λd G I J L j=>?_]];let⟨s,c,M⟩:=Bs I J;let g:aG p H G:=((aG.refl).upd_new n).trans (aG.of_eq j);refine#[l,_,_,_,Z,Z,aH.of (by rw[j l$ B.ne n];exact jc),c,_,Z,_,Z,rY,λr N=>?_];let S:=je (o:=HO.tup [.str "op",.str s,.ref a,.ref b]) N;exact q r _ (DH jc M ((z.mono$ g.tm B).mono$ aa.tm S) ((D.mono$ g.tm B).mono$ aa.tm S) (Pb _)$ Pb _) (L.upd_new N)$ g.trans$ aG.of_same S
def cn:aj ["_law_box_here","_law_f","_law_g","_law_w","_law_x","_law_i","_law_y","_law_spot_here","_law_body_here","_law_deeper","_law_test","_law_early","_law_last"] z37z (ae oW):=bN
def wF(F:ti K "_law_inner" oW f fd)(I:‹1› fT b' z0z a7 "_law_take")(cO:‹2› fO c0 z16z n9 "_law_op"):⇑3 f fd z37z (dF 2):=by
 erw[F.ok cn λc1 A o1 s H vs Q E l h=>?_]
 let⟨p,T,f0,g,Y,rfl,B,hw,h2,q⟩:=h;refine#[_,(jd (@Bt _ _ _ _ _ _ _ _ (4) (5) (6) Z cn.nd Z Z Z (ω Z) (ω Z) (ω Z) (ji$ ja (ji$ ja jm$ ja (jr jv (pv 3) jf (λ_ _=>Z)) jb)$ ja (ji$ ja jm$ ja (jr jv (pv 3) jf (λ_ _=>Z)) jb)$ ja (ji$ ja jm$ ja (jr jv (pv 3) jf (λ_ _=>Z)) jb) jb) (by first |exact .inl Z |exact .inr Z) (by first |exact .inl Z |exact .inr Z) (by first |exact .inl Z |exact .inr Z) WP WP)$ jd (jA 7 cn.nd$ ji$ ja jm$ ja jm$ ja (jr jv (jE$ ja (pv 4)$ ja (pv 5) jb) (I.e l.m$ ja (pv 0)$ ja jf jb) (λ_ _=>Z))$ ja (ji$ ja jm$ ja (I.e l.m$ ja (pv 0)$ ja jf jb) jb) jb)$ jd (jA 8 cn.nd$ ji$ ja (ji$ ja jm$ ja (jr jv (pv 3) jf (λ_ _=>Z))$ ja (pv 7) jb) jb)$ jd (ki$ jz (zk$ I.e l.m$ ja (pv 0)$ ja jf jb) (jd (jA 7 cn.nd$ ji$ ja jm$ ja jm$ ja (pv 5)$ ja (ji$ ja jm$ ja (jx jW jf$ I.e l.m$ ja (pv 0)$ ja jf jb) jb) jb)$ jg$ jA 8 cn.nd$ jx jV (pv 8)$ ji$ ja (ji$ ja jm$ ja (pv 7)$ ja (cO.e l.m$ ja (pv 0)$ ja (pv 4)$ ja (pv 6) jb) jb) jb) jp)$ jd (ki$ jz (zk$ I.e l.m$ ja (pv 0)$ ja jf jb) (jd (jA 9 cn.nd$ ji$ ja jm$ ja (jr jv (pv 3) jf (λ_ _=>Z))$ ja (pv 2)$ ja (ji$ ja (ji$ ja jm$ ja jm$ ja (pv 5)$ ja (ji$ ja jm$ ja jf jb) jb)$ ja (pv 6) jb) jb)$ jg$ jA 8 cn.nd$ jx jV (pv 8)$ ji$ ja (ji$ ja jm$ ja (pv 5)$ ja (ji$ ja (pv 9) jb)$ ja (ji jb) jb) jb) jp)$ jd (jA 10 cn.nd$ ji$ ja jm$ ja (jr KJ jm (I.e l.m$ ja (pv 0)$ ja jf jb) (λ_ _=>Z))$ ja (pv 6)$ ja (ji$ ja jm$ ja (I.e l.m$ ja (pv 0)$ ja jf jb) jb) jb)$ jd (jA 11 cn.nd$ ji$ ja jm$ ja (cO.e l.m$ ja (pv 0)$ ja (pv 4)$ ja (pv 6) jb) jb)$ jd (jA 12 cn.nd$ ji$ ja jm$ ja (cO.e l.m$ ja (pv 0)$ ja (pv 6)$ ja (pv 5) jb) jb)$ jd (jA 8 cn.nd$ jx jV (pv 8)$ ji$ ja (ji$ ja jm$ ja (pv 10)$ ja (ji$ ja (pv 11) jb)$ ja (ji jb) jb)$ ja (pv 12) jb)$ jg$ jo$ ji$ ja (pv 1)$ ja (ji$ ja (jr jv (pv 3) jf (λ_ _=>Z))$ ja (jr jv (pv 3) jf (λ_ _=>Z)) jb)$ ja (pv 8) jb),?_];let W0:Wd H H p T Y:=#[B,aG.refl,hw];erw[ai λF1 f1=>Ca W0 (KA$ zb Z WL WM) (KA$ zb Z WL WM) (KA$ zb Z WL WM) λvx vi vy J xx X U W1 k1=>f1 _ _ ?_];erw[ai λF2 f2=>jY W1 (qB (n:=1) (qD zC) (ZF Z (jQ Z ay xx)$ jQ Z ay X) (kQ (zg Z WL WL) WL) WL WL) λv2 H2 x2 W2 k2=>f2 _ _ ?_];erw[ai λF3 f3=>jY W2 (KE$ KC (Cf:=[(g,2)]) (zb Z WL WM) (jQ Z ay x2) WL) λv3 H3 x3 W3 k3=>f3 _ _ ?_];erw[ai λF4 f4=>eh (λL u=>∃(o:tT V) (b:V),L=[δ$ tf p,δ$ rz f0,δ$ rz g,δ$ tf T,δ$ vx,δ$ vi,δ$ vy,o,δ b,θ,θ,θ,θ]/\PB [(g,2)] Y 1 2 u b/\Wd H u p T Y/\am H3 u) (λE4 _ f5=>Jd W3 Z WL WL (λH6 W6 k6=>?_) (λH6 W6 k6=>?_)) λσ0 H5 h0=>?_]
 .clear f4;let C:am J H6:=((k2.t.trans k3.t).trans k6.t);erw[ai λF7 f7=>jY W6 (qB (n:=1) (qD zC) (jQ Z ay$ ay _ _ _ C X) (kQ (Xh (zg Z WL WL) WL) WL) WL WL) λv7 H7 x7 W7 k7=>f7 _ _ ?_];let D:am H3 H7:=(k6.t.trans k7.t);let G:am J H7:=(C.trans k7.t);erw[jY W7 (q8 (jQ Z eN$ eN _ _ _ D x3) (KE$ KD (Cf:=[(g,2)]) (jQ Z ay x7) (KB Z (jQ Z ay$ ay _ _ _ G xx)$ jQ Z ay$ ay _ _ _ G U) WL WL) WL) λv8 H8 x8 W8 k8=>f5 _ _ ?_];let m0:am H3 H8:=(D.trans k8.t);exact#[_,_,Z,(PB.lift x8),W8,m0]
 .clear f4;exact f5 _ _ #[_,_,Z,(PB.more (PB.lift$ eN _ _ _ k6.t x3) WL),W6,k6.t]
 let⟨o5,b5,rfl,x5,W5,k5⟩:=h0;erw[f4 _ _ ?_];erw[ai λF9 f9=>eh (λL u=>∃(o:tT V) (b:V),L=[δ$ tf p,δ$ rz f0,δ$ rz g,δ$ tf T,δ$ vx,δ$ vi,δ$ vy,o5,δ b,o,θ,θ,θ]/\PB [(g,2)] Y 1 3 u b/\Wd H u p T Y/\am H5 u) (λE9 _ f6=>Jd W5 Z WL WL (λH0 W k=>?_) (λH0 W k=>?_)) λσ1 H4 h1=>?_]
 .clear f9;let M:am J H0:=(((k2.t.trans k3.t).trans k5).trans k.t);refine ai λF0 f'=>jY W (vA (Cf:=[(g,2)]) (zb Z WL WM) (QK Z) Oe (qB (n:=1) (qD Yf) (jQ Z ay$ ay _ _ _ M X) (kQ (Xc WL (by decide:(1:Int) < 2)) WL) WL WL) (jQ Z ay$ ay _ _ _ M U) WL WL) λv0 H9 x0 W4 k0=>f' _ _ ?_;let c:am H5 H9:=(k.t.trans k0.t);let N:am J H9:=(M.trans k0.t);erw[jY W4 (q8 (jQ Z eN$ eN _ _ _ c x5) (KE$ C1 (jQ Z ay$ ay _ _ _ N X) (KE$ jQ Z eZ x0) (C0 (Cf:=[(g,2)]) (d:=0)) WL WL) WL) λv1 a2 x1 W9 k9=>f6 _ _ ?_];let O:am H5 a2:=(c.trans k9.t);exact#[_,_,Z,x1,W9,O]
 .clear f9;exact f6 _ _ #[_,_,Z,(PB.more (eN _ _ _ k.t x5) WL),W,k.t]
 let⟨o2,c2,rfl,x4,a3,k'⟩:=h1;erw[f9 _ _ ?_];let i:am J H4:=(((k2.t.trans k3.t).trans k5).trans k');erw[ai λF5 a4=>jY a3 (qB (n:=1) (Ih Z) (jQ Z ay$ ay _ _ _ i U) (kQ (zg Z WL WL) WL) WL WL) λv4 a0 x9 a5 k4=>a4 _ _ ?_];let a:am J a0:=(i.trans k4.t);erw[ai λF6 a'=>jY a5 (XT (Cf:=[(g,2)]) (KB Z (jQ Z ay$ ay _ _ _ a xx)$ jQ Z ay$ ay _ _ _ a U) WL) λv5 b0 x' b1 R=>a' _ _ ?_];let j:am J b0:=(a.trans R.t);erw[ai λc3 b2=>jY b1 (XT (Cf:=[(g,2)]) (KB Z (jQ Z ay$ ay _ _ _ j U)$ jQ Z ay$ ay _ _ _ j X) WL) λv9 a1 b3 b4 S=>b2 _ _ ?_];let y:am H4 a1:=((k4.t.trans R.t).trans S.t);let z:am a0 a1:=(R.t.trans S.t);erw[ai λc4 b7=>jY b4 (q8 (jQ Z eN$ eN _ _ _ y x4) (ZG (C1 (jQ Z ay$ ay _ _ _ z x9) (KE$ jQ Z eZ$ eZ _ _ _ S.t x') (C0 (Cf:=[(g,2)]) (d:=0)) WL WL)$ Ev.up (jQ Z eZ b3) λ_ _=>di.lift) WL) λv' c5 b8 b9 c6=>b7 _ _ ?_];erw[Xi b9 (ZH (QK Z) (C5 (zb Z WL WM)$ zb Z WL WM) (jQ Z eN b8) WL WM) λv u x W'=>?_];let⟨r,rfl,x⟩:=x;exact q r u x W'.B W'.K
def bP:aj z41z z19z (ae iK):=bN
noncomputable def QH:hY:=#[.function,[(".0",.local),("_law_one",.local)],ν,ν,[]]
def Zw:(["_law_one"]:tz ρ).Nodup:=by decide+kernel
def Zx:ba z41z (ae iK) QH ["_law_one"] 1 []:=oM
def tV(F:ti K "_law_looped" iK f fd)(C:‹1› fT d5 z0z a7 "_law_take")(cO:‹2› fO d6 z16z n9 "_law_op")(mi:mg "int"=θ)(m6:mg "tuple"=θ):⇑3 f fd z19z (dF 1):=by
 erw[F.ok bP λd7 A b1 s H vs Q E l h=>?_]
 let⟨p,W,f0,g,Y,rfl,B,hw,h2,q⟩:=h;refine#[_,(jd (zA (@zp _ _ _ _ _ _ _ (["_law_one"]) (1) ([]) _ _ _ _ Z (zj$ jJ kJ (pv 3) jT$ jI jf) Zx (λ_ _ _ _ _=>(jw (i:=0) Zw Z$ ω Z)) (λ_ _ _ _ _=>(@zM _)) (λ_ _ _ _ _=>(ji$ ja jm$ ja (pv 0) jb)) (by intro _;rfl))$ @ZU _ _ _ _ (5) _ Z (jB (jw (i:=4) bP.nd Z$ ω Z)$ jB (jw (i:=5) bP.nd Z$ ω Z)$ jB (jw (i:=6) bP.nd Z$ ω Z)$ jB (jw (i:=7) bP.nd Z$ ω Z)$ jB (jw (i:=8) bP.nd Z$ ω Z) kj) WP WP)$ jd (jA 9 bP.nd$ jE$ ja (ji$ ja jm$ ja (jr jv (pv 3) jf (λ_ _=>Z))$ ja (ji$ ja jm$ ja jm$ ja (pv 5)$ ja (ji$ ja jm$ ja (C.e l.m$ ja (pv 0)$ ja jf jb) jb) jb) jb) jb)$ jd (jH$ jZ NZ Ob Oa jO (pv 9)$ ja (ji$ ja jm$ ja (jr jv (pv 3) jf (λ_ _=>Z))$ ja (pv 2)$ ja (ji$ ja (pv 7)$ ja (jr jv (jE$ ja (pv 5)$ ja (pv 6) jb) (jN qQ Z mi UC$ ja (z9 qh (C.e l.m$ ja (pv 0)$ ja jf jb) jf$ aI _) jb) (λ_ _=>Z)) jb) jb) jb)$ jd (ki$ jz (zk$ C.e l.m$ ja (pv 0)$ ja jf jb) (jd (jA 10 bP.nd$ ji$ ja jm$ ja jm$ ja (pv 5)$ ja (ji$ ja jm$ ja (jx jW jf$ C.e l.m$ ja (pv 0)$ ja jf jb) jb) jb)$ jg$ jH$ jZ NZ Ob Oa jO (pv 9)$ ja (ji$ ja jm$ ja (pv 10)$ ja (jr jv (jE$ ja (pv 6)$ ja (pv 8)$ ja (pv 7) jb) (C.e l.m$ ja (pv 0)$ ja jf jb) (λ_ _=>Z)) jb) jb) jp)$ jd (jH$ jZ NZ Ob Oa jO (pv 9)$ ja (ji$ ja jm$ ja (jr jv (pv 3) jf (λ_ _=>Z))$ ja (cO.e l.m$ ja (pv 0)$ ja (jr jv (jE$ ja (pv 6)$ ja (pv 6)$ ja (pv 7) jb) (C.e l.m$ ja (pv 0)$ ja jf jb) (λ_ _=>Z))$ ja (pv 8) jb) jb) jb)$ jd (ki$ jz (zk$ C.e l.m$ ja (pv 0)$ ja jf jb) (jg$ zA (ji$ ja (jr jv (pv 9) jf (λ_ _=>Z))$ ja (jr jv (pv 9) jf (λ_ _=>Z)) jb)$ zz (n:=2) Z$ jB (qY (pv 9) jf zQ)$ jB (qY (pv 9) jf zQ) kj) jp)$ jd (jH$ jZ NZ Ob Oa jO (pv 9)$ ja (ji$ ja jm$ ja (jr jv (pv 3) jf (λ_ _=>Z))$ ja (ji$ ja jm$ ja jm$ ja (pv 5)$ ja (ji$ ja jm$ ja jf jb) jb) jb) jb)$ jd (jA 11 bP.nd$ ji$ ja (ji$ ja jm$ ja (jr jv (pv 3) jf (λ_ _=>Z))$ ja (ji$ ja jm$ ja (C.e l.m$ ja (pv 0)$ ja jf jb) jb) jb)$ ja (ji$ ja jm$ ja (jr jv (pv 3) jf (λ_ _=>Z))$ ja (ji$ ja jm$ ja (C.e l.m$ ja (pv 0)$ ja jf jb) jb) jb) jb)$ jd (ki$ jz (zk$ C.e l.m$ ja (pv 0)$ ja jf jb) (jd (jA 11 bP.nd$ jx jV (pv 11)$ ji$ ja (ji$ ja jm$ ja (jr jv (pv 3) jf (λ_ _=>Z))$ ja (ji$ ja jm$ ja (jx jW jf$ C.e l.m$ ja (pv 0)$ ja jf jb) jb) jb) jb)$ jg$ jA 11 bP.nd$ jx jV (pv 11)$ ji$ ja (ji$ ja jm$ ja (jr jv (pv 3) jf (λ_ _=>Z))$ ja (ji$ ja jm$ ja jm$ ja (pv 4)$ ja (ji$ ja jm$ ja jf jb) jb) jb) jb) jp)$ jd (jA 12 bP.nd$ ji$ ja jm$ ja (ji$ ja jm$ ja jm$ ja (pv 5)$ ja (pv 4) jb)$ ja (jN jP Z m6 PV$ ja (pv 9) jb) jb)$ jg$ jo$ ji$ ja (pv 1)$ ja (ji$ ja (jr jv (pv 3) jf (λ_ _=>Z)) jb)$ ja (jx jV (pv 11)$ ji$ ja (pv 12)$ ja (ji$ ja jm$ ja (ji$ ja jm$ ja jf jb)$ ja (pv 6) jb)$ ja (ji$ ja jm$ ja (pv 6) jb) jb) jb),?_];let W0:Wd H H p W Y:=#[B,aG.refl,hw];erw[ai λF1 f1=>Z6 W0 Z h2 λvn vi vs vx vy U xn xi xs xx xy W1=>f1 _ _ ?_];erw[ai λF2 f2=>IF W1 (KC (Cf:=[(g,2)]) (zb Z WL WM) (qB (n:=1) (qD zC) (jQ Z ay xi) (kQ (zg Z WL WL) WL) WL WL) WL) λlb u2 H2 o2 x2 W2 k2=>f2 _ _ ?_];refine ai λF3 f3=>JM W2 Z o2 (show 1<=100 by decide) (vA (Cf:=[(g,2)]) (zb Z WL WM) (QK Z) Oe (jQ Z ay$ ay _ _ _ k2.t xx) (Ie Z WL WL (jQ Z ay$ ay _ _ _ k2.t xi)$ jQ Z ay$ ay _ _ _ k2.t xs) WL WL) λu3 H3 x3 o3 W3 k3=>f3 _ _ ?_;erw[ai λF4 f4=>eh (λu c=>∃(o:tT V) (G:tz V),u=[δ$ tf p,δ$ rz f0,δ$ rz g,δ$ tf W,δ$ vn,δ$ vi,δ$ vs,δ$ vx,δ$ vy,δ$ tf lb,o,θ,θ]/\Ow H c p W lb (u2::u3::G)/\ip [(g,2)] c Y 0 G/\G.length<=1/\Wd H c p W Y/\am H3 c) (λE4 _ f5=>Jd W3 Z WL WL (λH6 W6 k6=>?_) (λH6 W6 k6=>?_)) λσ2 H5 h3=>?_]
 .clear f4;let o6:=o3.fw k6;let R:am U H6:=((k2.t.trans k3).trans k6.t);erw[ai λF7 f7=>jY W6 (qB (n:=1) (qD zC) (jQ Z ay$ ay _ _ _ R xi) (kQ (Xh (zg Z WL WL) WL) WL) WL WL) λv7 H7 x7 W7 k7=>f7 _ _ ?_];let o7:=o6.fw k7;let y:am U H7:=(R.trans k7.t);refine JM W7 Z o7 (show 2<=100 by decide) (KD (Cf:=[(g,2)]) (jQ Z ay x7) (C3 Z (jQ Z ay$ ay _ _ _ y xs) (jQ Z ay$ ay _ _ _ y xy)$ jQ Z ay$ ay _ _ _ y xx) WL WL) λu8 H8 x8 o8 W8 k8=>f5 _ _ ?_;let m5:am H3 H8:=((k6.t.trans k7.t).trans k8);exact#[_,[u8],Z,o8,zN x8,NQ 1,W8,m5]
 .clear f4;let o6:=o3.fw k6;exact f5 _ _ #[_,[],Z,o6,KQ,WL,W6,k6.t]
 let⟨w5,G,rfl,o5,zx,zl,W5,k5⟩:=h3;erw[f4 _ _ ?_];let M:am U H5:=((k2.t.trans k3).trans k5);refine ai λF9 f9=>JM W5 Z o5 (show G.length+1+1<=100 by omega) (JY (Cf:=[(g,2)]) (zb Z WL WM) (KB Z (C3 Z (jQ Z ay$ ay _ _ _ M xs) (jQ Z ay$ ay _ _ _ M xs)$ jQ Z ay$ ay _ _ _ M xx)$ jQ Z ay$ ay _ _ _ M xy) WL) λu9 H9 x9 o9 W9 k9=>f9 _ _ ?_;let zy:ip [(g,2)] H9 Y 0 (G++[u9]):=JL (zx.mono k9) (zN x9);let zm:(G++[u9]).length<=2:=by rw[NP];exact Pq zl
 erw[ai λF0 I=>eh (λu c=>∃(X:tz V),u=[δ$ tf p,δ$ rz f0,δ$ rz g,δ$ tf W,δ$ vn,δ$ vi,δ$ vs,δ$ vx,δ$ vy,δ$ tf lb,w5,θ,θ]/\Ow H c p W lb X/\ip [(g,2)] c Y 0 X/\X.length<=4/\Wd H c p W Y/\am H9 c) (λE1 _ S=>Jd W9 Z WL WL (λH0 W4 k=>?_) (λH0 W4 k=>?_)) λσ0 b2 h0=>?_]
 .clear I;let o1:=o9.fw k;erw[Cp W4 Z o1 λH4 b3 b4 k0=>S _ _ ?_];let m0:am H3 H4:=(((k5.trans k9).trans k.t).trans k0);let m1:am H2 H4:=((((k3.trans k5).trans k9).trans k.t).trans k0);let z:am H9 H4:=(k.t.trans k0);exact#[_,Z,b3,j7 ((eZ _ _ _ m0 x3))$ j7 ((eZ _ _ _ m1 x2))$ zy.mono z,(show(G++[u9]).length+1+1<=4 by omega),b4,z]
 .clear I;let o1:=o9.fw k;let m2:am H2 H0:=(((k3.trans k5).trans k9).trans k.t);let m3:am H3 H0:=((k5.trans k9).trans k.t);exact S _ _ #[_,Z,o1,j7 ((eZ _ _ _ m2 x2))$ j7 ((eZ _ _ _ m3 x3))$ zy.mono k.t,(show(G++[u9]).length+1+1<=4 by omega),W4,k.t]
 let⟨X,rfl,b5,ux,ul,b7,b8⟩:=h0;erw[I _ _ ?_];let d:am U b2:=((M.trans k9).trans b8);refine ai λF5 f6=>JM b7 Z b5 WM (JY (Cf:=[(g,2)]) (zb Z WL WM) (qB (n:=1) (qD zC) (jQ Z ay$ ay _ _ _ d xi) (kQ (Xc WL (by decide:(1:Int) < 2)) WL) WL WL) WL) λu0 a1 x1 b9 b' k1=>f6 _ _ ?_;let b0:ip [(g,2)] a1 Y 0 (X++[u0]):=JL (ux.mono k1) (zN x1);let bl:(X++[u0]).length<=5:=by rw[NP];exact Pq ul
 erw[ai λF6 f'=>jY b' (ZG (JY (Cf:=[(g,2)]) (zb Z WL WM) (kQ (zg Z WL WL) WL) WL)$ JY (Cf:=[(g,2)]) (zb Z WL WM) (kQ (zg Z WL WL) WL) WL) λv0 a2 x0 c0 J=>f' _ _ ?_];let o':=b9.fw J;erw[ai λd8 L=>eh (λu c=>∃(b:V),u=[δ$ tf p,δ$ rz f0,δ$ rz g,δ$ tf W,δ$ vn,δ$ vi,δ$ vs,δ$ vx,δ$ vy,δ$ tf lb,w5,δ b,θ]/\Ow H c p W lb (X++[u0])/\PB [(g,2)] Y 0 4 c b/\Wd H c p W Y/\am a2 c) (λE2 _ T=>Jd c0 Z WL WL (λc1 a0 a=>?_) (λc1 a0 a=>?_)) λσ1 a3 h1=>?_]
 .clear L;let o4:=o'.fw a;erw[ai λd' c2=>jY a0 (q8 (jQ Z eN$ eN _ _ _ a.t x0) (KE$ KC (Cf:=[(g,2)]) (zb Z WL WM) (kQ (Xh (zg Z WL WL) WL) WL) WL) WL) λv1 c3 x4 c4 k4=>c2 _ _ ?_];let c5:=o4.fw k4;let m4:am U c3:=((((d.trans k1).trans J.t).trans a.t).trans k4.t);refine jY c4 (q8 (jQ Z eN x4) (KE$ JY (Cf:=[(g,2)]) (zb Z WL WM) (qB (n:=1) (qD Cc) (jQ Z ay$ ay _ _ _ m4 xn) (kQ (Xc WL (by decide:(2:Int) < 3)) WL) WL WL) WL) WL) λv2 c6 x5 c9 a4=>T _ _ ?_;let c':=c5.fw a4;let N:am a2 c6:=((a.t.trans k4.t).trans a4.t);exact#[_,Z,c',x5,c9,N]
 .clear L;let o4:=o'.fw a;exact T _ _ #[_,Z,o4,(PB.more (eN _ _ _ a.t x0) WL),a0,a.t]
 let⟨e0,rfl,a5,x',d0,a'⟩:=h1;erw[L _ _ ?_];let j:am U a3:=(((d.trans k1).trans J.t).trans a');let O:am a1 a3:=(J.t.trans a');erw[ai λe1 d1=>jY d0 (C7 (qB (n:=1) (qD Xt) (jQ Z ay$ ay _ _ _ j xi) (jQ Z ay$ ay _ _ _ j xn) WL WL) (C6 (n:=5) Z a5 (b0.mono O) bl) WL WL) λv3 d2 d3 d4 k'=>d1 _ _ ?_];let e2:=a5.fw k';let D:am U d2:=(j.trans k'.t);refine Xi d4 (ZH (QK Z) (C4$ zb Z WL WM) (q8 (Ev.up (jQ Z eN$ eN _ _ _ k'.t x') λ_ _=>PB.lift) (Ib (jQ Z eZ d3) (Ev.up (KD (Cf:=[(g,2)]) (kQ (Xc WL (by decide:(30:Int) < 31)) WL) (jQ Z ay$ ay _ _ _ D xs) WL WL) λ_ _=>di.lift)$ Ev.up (XT (Cf:=[(g,2)]) (jQ Z ay$ ay _ _ _ D xs) WL) λ_ _=>di.lift) WL) WL WM) λv c x W'=>?_;let⟨r,rfl,x⟩:=x;exact q r c x W'.B W'.K
def Ml(b:0<=d)(c:d < 2)(h:di C H y 0 u)(a:di C H y 0 v):ip C H y 0 (aW [u,v] θ$ δ (1+d))/\(aW [u,v] θ$ δ (1+d)).length<=2:=by
 rcases(by omega:d=0∨d=1) with rfl |rfl
 .exact#[zN h,by show 1<=2;decide]
 .exact#[j7 h$ zN a,by show 2<=2;decide]
def P2(C:iS)(y:tz ρ)(H:Hp)(w:V):Prop:=∃a u v,w= .ref a/\H a=δ (.tup [u,v])/\di C H y 0 u/\di C H y 0 v
def Dk:px (P2 C y):=λ_ _ _ m #[a,u,v,e,h,H,b]=>#[a,u,v,e,m _ _ h,H.mono m,b.mono m]
section
variable {Cf:iS}{ys:tz ρ}{H0 Hb:Hp}{p wl:η}{σ:_L.St}
def Ea(h:Ev H0 p wl ys Hb σ T (λH v=>di Cf H ys 0 v))(c:Ev H0 p wl ys Hb σ d (λH v=>di Cf H ys 0 v)):Ev H0 p wl ys Hb σ (cp$ ap T$ ap d aS) (P2 Cf ys):=λH Q m W q=>
 h H _ m W λo e X f a=>c e _ (m.trans a) f λs u g i b=>#[cj,λr n=>kP (P:=P2 Cf ys) i (λV j x l k=>q V j x l ((a.trans b).trans k)) n λt z=>#[r,_,_,Z,z,(X.mono b.t).mono t,g.mono t]]
def D9(e:σ[i]?=δ (δ v))(E:σ[0]?=δ (↑p))(h:P2 Cf ys Hb v):Ev H0 p wl ys Hb σ (LS FM (a9 i) nC$ om$ eV (Ae λi j=>sn (i+j)) (tC$ .int 1)$ Af 2) (PB Cf ys 0 2):=λH Q m W q=>
 #[v,e,zg E WL WL H _ m W λw y #[d,b,D,c] f k=>#[1,d,Z,b,_,Z,by
  let⟨a,u,A,rfl,g,l,n⟩:=Dk _ _ _ (m.trans k).t h;let z:=Ml D c l n;exact#[a,_,Z,g,λr o x s=>q _ o #[r,_,Z,x,z.1.mono$ aa.tm s,z.2] (f.same s) (k.trans$ .same s)]]]
end
def aU:aj z42z z19z (ae gG):=bN
noncomputable def Qt:hY:=#[.function,[(".0",.local),("_law_one",.local)],ν,ν,[]]
def YI:(["_law_one"]:tz ρ).Nodup:=by decide+kernel
def YJ:ba z42z (ae gG) Qt ["_law_one"] 1 []:=oM
def Zy(F:ti K "_law_ticking" gG f fd)(C:‹1› fT b5 z0z a7 "_law_take")(cO:‹2› fO b7 z16z n9 "_law_op")(mi:mg "int"=θ)(m1:mg "tuple"=θ):⇑3 f fd z19z (dF 1):=by
 erw[F.ok aU λc0 A o5 s H vs Q E c h=>?_]
 let⟨p,W,f0,g,ys,rfl,B,hw,h1,q⟩:=h;refine#[_,(jd (zA (@zp _ _ _ _ _ _ _ (["_law_one"]) (1) ([]) _ _ _ _ Z (zj$ jJ kJ (pv 3) jT$ jI jf) YJ (λ_ _ _ _ _=>(jw (i:=0) YI Z$ ω Z)) (λ_ _ _ _ _=>(@zM _)) (λ_ _ _ _ _=>(ji$ ja jm$ ja (pv 0) jb)) (by intro _;rfl))$ @ZU _ _ _ _ (5) _ Z (jB (jw (i:=4) aU.nd Z$ ω Z)$ jB (jw (i:=5) aU.nd Z$ ω Z)$ jB (jw (i:=6) aU.nd Z$ ω Z)$ jB (jw (i:=7) aU.nd Z$ ω Z)$ jB (jw (i:=8) aU.nd Z$ ω Z) kj) WP WP)$ jd (jA 9 aU.nd$ ji$ ja jm$ ja (jx jW jf$ C.e c.m$ ja (pv 0)$ ja jf jb) jb)$ jd (jA 10 aU.nd$ jE$ ja (ji$ ja jm$ ja (jr jv (pv 3) jf (λ_ _=>Z))$ ja (pv 9) jb)$ ja (ji$ ja jm$ ja (jr jv (pv 3) jf (λ_ _=>Z))$ ja (jr jv (jE$ ja (pv 5)$ ja (ji$ ja jm$ ja (C.e c.m$ ja (pv 0)$ ja jf jb) jb) jb) (C.e c.m$ ja (pv 0)$ ja jf jb) (λ_ _=>Z)) jb) jb)$ jd (jH$ jZ NZ Ob Oa jO (pv 10)$ ja (ji$ ja jm$ ja (jr jv (pv 3) jf (λ_ _=>Z))$ ja (pv 2)$ ja (ji$ ja (jr jv (jE$ ja (pv 7)$ ja (ji$ ja jm$ ja jf jb) jb) (C.e c.m$ ja (pv 0)$ ja jf jb) (λ_ _=>Z))$ ja (jr jv (jE$ ja (pv 5)$ ja (ji$ ja jm$ ja jf jb) jb) (C.e c.m$ ja (pv 0)$ ja jf jb) (λ_ _=>Z)) jb) jb) jb)$ jd (ki$ jz (zk$ C.e c.m$ ja (pv 0)$ ja jf jb) (jg$ jH$ jZ NZ Ob Oa jO (pv 10)$ ja (ji$ ja jm$ ja (ji$ ja jm$ ja jm$ ja (pv 5)$ ja (ji$ ja jm$ ja (C.e c.m$ ja (pv 0)$ ja jf jb) jb) jb)$ ja (pv 8) jb) jb) jp)$ jd (jA 11 aU.nd$ ji$ ja jm$ ja jf jb)$ jd (jA 12 aU.nd$ jE$ ja (ji$ ja jm$ ja (jr jv (pv 3) jf (λ_ _=>Z))$ ja (pv 11) jb)$ ja (ji$ ja jm$ ja (pv 11)$ ja (cO.e c.m$ ja (pv 0)$ ja (pv 6)$ ja (pv 8) jb) jb) jb)$ jd (ki$ jz (zk$ C.e c.m$ ja (pv 0)$ ja jf jb) (jg$ jA 12 aU.nd$ jE$ ja (ji$ ja jm$ ja (jr jv (pv 3) jf (λ_ _=>Z))$ ja (cO.e c.m$ ja (pv 0)$ ja (pv 6)$ ja (pv 8) jb) jb) jb) jp)$ jd (jA 10 aU.nd$ jx qp (jx qp (pv 10)$ pv 12)$ jE$ ja (ji$ ja jm$ ja (pv 9)$ ja (ji$ ja jm$ ja jm$ ja (pv 5)$ ja (ji$ ja jm$ ja jf jb) jb) jb)$ ja (ji$ ja jm$ ja (jr jv (pv 3) jf (λ_ _=>Z))$ ja (ji$ ja jm$ ja jm$ ja (pv 5)$ ja (pv 4) jb) jb) jb)$ jd (jA 13 aU.nd$ ji$ ja (ji$ ja jm$ ja (jr jv (pv 3) jf (λ_ _=>Z))$ ja (ji$ ja jm$ ja jf jb) jb)$ ja (ji$ ja jm$ ja (pv 9)$ ja (ji$ ja jm$ ja (C.e c.m$ ja (pv 0)$ ja jf jb) jb) jb) jb)$ jd (jA 14 aU.nd$ ji$ ja jm$ ja (ji$ ja jm$ ja (jr jv (pv 3) jf (λ_ _=>Z)) jb)$ ja (jN jP Z m1 PV$ ja (pv 10) jb) jb)$ jg$ jo$ ji$ ja (pv 1)$ ja (ji$ ja (jr jv (pv 3) jf (λ_ _=>Z)) jb)$ ja (jx jV (jJ j8 (pv 13) jT$ jI$ jx jW jf$ C.e c.m$ ja (pv 0)$ ja jf jb)$ ji$ ja (pv 14)$ ja (ji$ ja jm$ ja (pv 6) jb) jb) jb),?_];let W0:Wd H H p W ys:=#[B,aG.refl,hw];erw[ai λF1 f1=>Z6 W0 Z h1 λvn vi vs vx vy H1 xn xi xs xx xy W1=>f1 _ _ ?_];erw[ai λF2 f2=>jY W1 (kQ (Xh (zg Z WL WL) WL) WL) λv2 H2 x2 W2 k2=>f2 _ _ ?_];erw[ai λF3 f3=>IG W2 (KC (Cf:=[(g,2)]) (zb Z WL WM) (jQ Z ay x2) WL) (KC (Cf:=[(g,2)]) (zb Z WL WM) (ZF Z (jQ Z ay$ ay _ _ _ k2.t xi)$ kQ (zg Z WL WL) WL) WL) λlb u3 w3 H3 o3 x3 y3 W3 k3=>f3 _ _ ?_];let a:am H1 H3:=(k2.t.trans k3.t);refine ai λF4 f4=>JM W3 Z o3 (show 2<=100 by decide) (vA (Cf:=[(g,2)]) (zb Z WL WM) (QK Z) Oe (ZF Z (jQ Z ay$ ay _ _ _ a xx)$ kQ (Xc WL (by decide:(3:Int) < 4)) WL) (ZF Z (jQ Z ay$ ay _ _ _ a xi)$ kQ (Xc WL (by decide:(2:Int) < 3)) WL) WL WL) λu4 H4 x4 o4 W4 k4=>f4 _ _ ?_;erw[ai λF5 f5=>eh (λN d=>∃(us:tz V),N=[δ$ tf p,δ$ rz f0,δ$ rz g,δ$ tf W,δ$ vn,δ$ vi,δ$ vs,δ$ vx,δ$ vy,δ$ v2,δ$ tf lb,θ,θ,θ,θ]/\Ow H d p W lb us/\ip [(g,2)] d ys 0 us/\us.length<=4/\Wd H d p W ys/\am H4 d) (λE5 _ f6=>Jd W4 Z WL WL (λH7 W7 u=>?_) (λH7 W7 u=>?_)) λσ1 H6 h2=>?_]
 .clear f5;let o7:=o4.fw u;let D:am H1 H7:=((a.trans k4).trans u.t);refine JM W7 Z o7 (show 3<=100 by decide) (KD (Cf:=[(g,2)]) (qB (n:=1) (qD zC) (jQ Z ay$ ay _ _ _ D xi) (kQ (zg Z WL WL) WL) WL WL) (jQ Z ay$ ay _ _ _ D xy) WL WL) λu8 H8 x8 o8 W8 k8=>f6 _ _ ?_;let G:am H4 H8:=(u.t.trans k8);let I:am H3 H8:=((k4.trans u.t).trans k8);exact#[_,Z,o8,(j7 ((eZ _ _ _ I x3))$ j7 ((eZ _ _ _ I y3))$ j7 ((eZ _ _ _ G x4))$ j7 (x8) KQ),(show 4<=4 by decide),W8,G]
 .clear f5;let o7:=o4.fw u;let J:am H3 H7:=(k4.trans u.t);exact f6 _ _ #[_,Z,o7,(j7 ((eZ _ _ _ J x3))$ j7 ((eZ _ _ _ J y3))$ j7 ((eZ _ _ _ u.t x4)) KQ),(show 3<=4 by decide),W7,u.t]
 let⟨us,rfl,o6,ux,ul,W6,k6⟩:=h2;erw[f5 _ _ ?_];refine ai λF9 f9=>jY W6 (kQ (Xc WL (by decide:(30:Int) < 31)) WL) λv9 H9 x9 W9 k9=>f9 _ _ ?_;let o9:=o6.fw k9;let b:am H1 H9:=(((a.trans k4).trans k6).trans k9.t);erw[ai λF0 f7=>IG W9 (KC (Cf:=[(g,2)]) (zb Z WL WM) (jQ Z ay x9) WL) (KD (Cf:=[(g,2)]) (jQ Z ay x9) (KB Z (jQ Z ay$ ay _ _ _ b xs)$ jQ Z ay$ ay _ _ _ b xy) WL WL) λlm u0 w0 H0 z0 x0 y0 W5 j=>f7 _ _ ?_];let o1:=o9.fw j;erw[ai λF6 y=>eh (λN d=>∃(m:η) (zs:tz V),N=[δ$ tf p,δ$ rz f0,δ$ rz g,δ$ tf W,δ$ vn,δ$ vi,δ$ vs,δ$ vx,δ$ vy,δ$ v2,δ$ tf lb,δ$ v9,↑m,θ,θ]/\Ow H d p W lb us/\Ow H d p W m zs/\ip [(g,2)] d ys 0 zs/\zs.length<=2/\Wd H d p W ys/\am H0 d) (λE1 _ L=>Jd W5 Z WL WL (λH5 O k=>?_) (λH5 O k=>?_)) λσ0 R h0=>?_]
 .clear y;let S:=o1.fw k;let z1:=z0.fw k;let l:am H1 H5:=((b.trans j.t).trans k.t);erw[IF O (JY (Cf:=[(g,2)]) (zb Z WL WM) (KB Z (jQ Z ay$ ay _ _ _ l xs)$ jQ Z ay$ ay _ _ _ l xy) WL) λlq u1 a0 z2 x1 a1 k1=>L _ _ ?_];let o':=S.fw k1;let z:am H0 a0:=(k.t.trans k1.t);exact#[_,_,Z,o',z2,zN x1,(show 1<=2 by decide),a1,z]
 .clear y;let S:=o1.fw k;let z1:=z0.fw k;exact L _ _ #[_,_,Z,S,z1,(j7 ((eZ _ _ _ k.t x0))$ j7 ((eZ _ _ _ k.t y0)) KQ),(show 2<=2 by decide),O,k.t]
 let⟨lm,zs,rfl,a2,z3,zx,zl,a3,T⟩:=h0;erw[y _ _ ?_];let o:am H2 R:=(((((k3.t.trans k4).trans k6).trans k9.t).trans j.t).trans T);let M:am H1 R:=((b.trans j.t).trans T);let U:am H6 R:=((k9.t.trans j.t).trans T);refine ai λF7 f'=>DS a3 Z Z a2 z3 WM (ux.mono U) zx (KD (Cf:=[(g,2)]) (jQ Z ay$ ay _ _ _ o x2) (qB (n:=1) (qD zC) (jQ Z ay$ ay _ _ _ M xi) (kQ (Xc WL (by decide:(1:Int) < 2)) WL) WL WL) WL WL) (JY (Cf:=[(g,2)]) (zb Z WL WM) (qB (n:=1) (qD Xt) (jQ Z ay$ ay _ _ _ M xi) (jQ Z ay$ ay _ _ _ M xn) WL WL) WL) λlc cs a4 a5 cx cl a' k5=>f' _ _ ?_;let cm:cs.length<=8:=by omega
 let X:am H2 a4:=(o.trans k5.t);refine ai λb8 b0=>jY a' (Ea (JY (Cf:=[(g,2)]) (zb Z WL WM) (kQ (Xc WL (by decide:(1:Int) < 2)) WL) WL)$ KD (Cf:=[(g,2)]) (jQ Z ay$ ay _ _ _ X x2) (kQ (zg Z WL WL) WL) WL WL) λv0 b9 x5 b1 Y=>b0 _ _ ?_;let o2:=a5.fw Y;erw[ai λb' b2=>jY b1 (C7 (KA$ zb Z WL WM) (C6 (n:=8) Z o2 (cx.mono Y.t) cm) WL WL) λv1 b3 x7 b4 k0=>b2 _ _ ?_];let c1:=o2.fw k0;let m0:am H1 b3:=(((M.trans k5.t).trans Y.t).trans k0.t);erw[Xi b4 (ZH (QK Z) (C4$ zb Z WL WM) (q8 (Ev.up (D9 Z Z$ Dk _ _ _ k0.t x5) λ_ _=>PB.lift) (ZG (jQ Z eZ x7)$ Ev.up (XT (Cf:=[(g,2)]) (jQ Z ay$ ay _ _ _ m0 xs) WL) λ_ _=>di.lift) WL) WL WM) λv d x W'=>?_];let⟨r,rfl,x⟩:=x;exact q r d x W'.B W'.K
def Mm{y:tz ρ}{lo:Nat}(h:y.length=14)(H:lo<=8):(bH y (δ (lo:Int))$ δ ((lo+6:Nat):Int)).length=6:=by unfold bH;rw[HT.sIx_nat,HT.sIx_nat,Oh,OE,h,Pw$ N6 H WL,Pw$ Nat.add_le_add_right H 6,Nat.add_sub_cancel_left];exact Pw$ Nat.le_sub_of_add_le$ N6 (UU H 6) WL
def Nu{k:Nat}(h:k < n):oO n (k:Int)=δ k:=by unfold oO;rw[N0 WM,N0 WM,OM]
def uK.more(h:uK C n H r f)(k:∀y∈C,y∈D):uK D n H r f:=let #[d,b,a,c]:=h;#[d,b,#[a.1,kL k a.2],c]
def Mo(r:uK [(l,N),(m,j),(o,k)] N H a l)(s:uK [(l,N),(m,j),(o,k)] j H b m)(t:uK [(l,N),(m,j),(o,k)] k H c o)(p:N<=100/\j<=100/\k<=100):∃D,dh H D [.ref a,.ref b,.ref c]/\D.length=3/\((∀d∈D,oE d/\d.b.Cs [(l,N),(m,j),(o,k)])/\D.map Df.f=[l,m,o])/\nG H D [N,j,k]:=by
 let⟨d,u,v,O,y,z,E⟩:=r;let⟨e,A,B,Q,C,F,G⟩:=s;let⟨f,I,J,R,g3,L,M⟩:=t;refine#[[d,e,f],#[_,_,Z,u,_,_,Z,A,_,_,Z,I,Z],Z,#[λx q=>?_,by rw[<- E,<- G,<- M];rfl],Z,λi x n h g=>?_]
 .simp only[P6,Ov,SX]at q;rcases q with rfl |rfl |rfl
  .exact v
  .exact B
  .exact J
 .match i,h,g with
  |0,h,g=>cases h;cases g;exact#[_,y,z,p.1]
  |1,h,g=>cases h;cases g;exact#[_,C,F,p.2.1]
  |2,h,g=>cases h;cases g;exact#[_,g3,L,p.2.2]
inductive mO(b:tz V)(H:Hp)(Q:VK)(a:XK):Prop
 |mk(p:η)(_:b=[.ref p])(_:ax H p)(_:∀(r:η) (ds:tz Df) (xs:tz V) (H':Hp),H' r=δ (.tup xs)->dh H' ds xs->ds.length=3->∀ns,uN ds ns->nG H' ds ns->(∃r,ns=1::r)->ax H' p->aG p H H'->Q (.ref r) H')
def Hn(L:tz ρ)(_:Hp)(v:V):Prop:=∃x,v= .str x/\x∈L
section
variable {ys:tz ρ}{H0 Hb:Hp}{p wl:η}{σ:_L.St}
def Ig{K:β}(e:σ[0]?=δ (↑p))(r:Ev H0 p wl ys Hb σ t (Ak a))(s:Ev H0 p wl ys Hb σ T (Ak b))(u:Ev H0 p wl ys Hb σ x (Ak c)):Ev H0 p wl ys Hb σ (eV (lJ K) (oj$ ap t$ ap T$ ap x aS)$ Af 3) (Hn [a,b,c]):=λH Q m W q=>
 r H _ m W λy z (E:y= .str a) A k=>s z _ (m.trans k) A λC D (F:C= .str b) G f=>u D _ ((m.trans k).trans f) G λI R (J:I= .str c) h j=>#[hZ,λl n=>zg e WL WL _ _ ((((m.trans k).trans f).trans j).trans$ .new n) (h.same$ je n) λv L #[d,M,S,U] N o=>by
  obtain⟨g,i,O⟩:∃g,eM [rz a,.str b,.str c] d=δ (.str g)/\g∈[a,b,c]:=by
   rcases(by omega:d=0∨d=1∨d=2) with rfl |rfl |rfl
   .exact#[a,Z,WN]
   .exact#[b,Z,WN]
   .exact#[c,Z,WN]
  rw[<- E,<- F,<- J]at i;exact#[l,_,d,_,Z,M,aH.of$ o.b _ _ (h.B.ne n) jc,i,q _ L #[g,Z,O] N (((k.trans f).trans j).trans ((Fw.new n).trans o))]]
def vC{K:β}{lo:Nat}(e:σ[0]?=δ (↑p))(E:σ[1]?=δ (↑wl))(d:Ev H0 p wl ys Hb σ t (Ak f))(l:Ev H0 p wl ys Hb σ T (Hn L))(h:ys.length=14)(o:lo<=8)(s:i=(lo:Int))(u:j=((lo+6:Nat):Int)):
  Ev H0 p wl ys Hb σ (eU (dF n) [] E0$ ap (a9 0)$ ap t$ ap T$ ap (LS (BC K) (a9 1) (om$ tC$ .int i)$ om$ tC$ .int j) aS) (PD (L.map λy=>(y,2)) n f):=λH Q m W q=>
 #[_,e,d H _ m W λv x (z:v= .str f) A k=>l x _ (m.trans k) A λV M #[g,D,c] b F=>#[_,E,_,Z,_,Z,wl,_,Z,aH.of b.w,λr N=>#[p,r,f,g,bH ys (δ i)$ δ j,by rw[z,D];rfl,b.B.upd_new N,by rw[jc,zS],by rw[s,u];exact Mm h o,λa G X I C=>
  q _ G #[a,Z,X.more λy J=>by rw[υ.mp J];exact dn.mpr #[g,c,Z]] ((b.same$ je N).but I C) ((k.trans F).trans ((Fw.new N).trans$ .but (b.B.upd_new N) C))]]]
def Je{K:β}{k:Nat}(e:σ[j]?=δ (↑wl))(a:i=(k:Int))(h:ys[k]?=δ y):Ev H0 p wl ys Hb σ (eV (lJ K) (a9 j)$ tC$ .int i) (Ak y):=λH Q m W q=>
 #[_,e,wl,_,_,_,Z,Z,aH.of W.w,(by rw[a];exact jK (by rw[Od,h];rfl)),q _ H Z W .refl]
def Ic{n1 n2 n3:Nat}(s:n1<=100/\n2<=100/\n3<=100)(u:Ev H0 p wl ys Hb σ T (PD [(e,n1),(h,n2),(i,n3)] n1 e))(y:Ev H0 p wl ys Hb σ z (PD [(e,n1),(h,n2),(i,n3)] n2 h))(A:Ev H0 p wl ys Hb σ B (PD [(e,n1),(h,n2),(i,n3)] n3 i)):Ev H0 p wl ys Hb σ (cp$ ap T$ ap z$ ap B aS) (λH v=>∃r D x,v= .ref r/\H r=δ (.tup x)/\dh H D x/\D.length=3/\((∀d∈D,oE d/\d.b.Cs [(e,n1),(h,n2),(i,n3)])/\D.map Df.f=[e,h,i])/\nG H D [n1,n2,n3]):=λH Q m W q=>
 u H _ m W λV C X E k=>y C _ (m.trans k) E λF G I J j=>A G _ ((m.trans k).trans j) J λL H4 M N l=>#[hZ,λr n=>q _ _ (by
  let t:=aa.tm (je (o:=HO.tup [V,F,L]) n);let⟨a,O,R⟩:=mj _ _ _ t (mj _ _ _ (j.trans l).t X);let⟨b,S,U⟩:=mj _ _ _ t (mj _ _ _ l.t I);let⟨c,Y,h3⟩:=mj _ _ _ t M;let⟨D,g⟩:=Mo R U h3 s;exact#[r,D,_,Z,by rw[jc,O,S,Y],g]) (N.same$ je n) (((k.trans j).trans l).trans$ .new n)]
end
def gj:aj ["_law_box_here","_law_w","_law_body_here","_law_deeper","_law_further","_law_first"] z2z (ae xA):=bN
def AY(F:ti K "_law_busy" xA f fd)(T:‹1› fT f0 z0z a7 "_law_take")(cO:‹2› fO f1 z16z n9 "_law_op")(cA:‹2› fA f7 z27z gO "_law_names")(cL:‹3› fL f9 z19z (dF 1) "_law_looped")(cK:‹3› fK f' z19z (dF 1) "_law_ticking")(cI:‹3› fI a0 z37z (dF 2) "_law_inner"):⇑4 f fd z2z mO:=by
 erw[F.ok gj λc0 A U s H vs Q E i h=>?_]
 let⟨p,rfl,B,q⟩:=h;refine#[_,(jd (jA 1 gj.nd$ cA.e i.m$ ja (pv 0)$ ja jf jb)$ jd (ki$ jz (zk$ T.e i.m$ ja (pv 0)$ ja jf jb) (jg$ zA (jr jv (pv 1) jf (λ_ _=>Z))$ qY (pv 1) jf zQ) jp)$ jd (jA 2 gj.nd$ ji$ ja (ji$ ja jm$ ja (jr jv (pv 1) jf (λ_ _=>Z))$ ja (ji$ ja jm$ ja (jr jv (pv 1) jf (λ_ _=>Z)) jb) jb)$ ja (ji$ ja jm$ ja (cO.e i.m$ ja (pv 0)$ ja (ji$ ja jm$ ja (jr jv (pv 1) jf (λ_ _=>Z)) jb)$ ja (ji$ ja jm$ ja (jr jv (pv 1) jf (λ_ _=>Z)) jb) jb) jb) jb)$ jd (jA 3 gj.nd$ ji$ ja (jr jv (pv 1) jf (λ_ _=>Z))$ ja (ji$ ja (jr jv (pv 1) jf (λ_ _=>Z))$ ja (jr jv (pv 1) jf (λ_ _=>Z)) jb)$ ja (pv 2) jb)$ jd (jA 4 gj.nd$ jr jv (jE$ ja (jr jv (pv 1) jf (λ_ _=>Z))$ ja (jr jv (pv 1) jf (λ_ _=>Z))$ ja (jr jv (pv 1) jf (λ_ _=>Z)) jb) (T.e i.m$ ja (pv 0)$ ja jf jb) (λ_ _=>Z))$ jd (jA 5 gj.nd$ cL.e i.m$ ja (pv 0)$ ja (jr jv (pv 1) jf (λ_ _=>Z))$ ja (jr jv (pv 1) jf (λ_ _=>Z))$ ja (jJ kJ (pv 1) (jI jf)$ jI jf) jb)$ jd (ki$ jz (zk$ T.e i.m$ ja (pv 0)$ ja jf jb) (jg$ jA 5 gj.nd$ cK.e i.m$ ja (pv 0)$ ja (jr jv (pv 1) jf (λ_ _=>Z))$ ja (jr jv (pv 1) jf (λ_ _=>Z))$ ja (jJ kJ (pv 1) (jI jf)$ jI jf) jb) jp)$ jg$ jo$ ji$ ja (pv 5)$ ja (cI.e i.m$ ja (pv 0)$ ja (jr jv (pv 1) jf (λ_ _=>Z))$ ja (pv 4)$ ja (jJ kJ (pv 1) (jI jf)$ jI jf) jb)$ ja (pv 3) jb),?_];erw[ai λFa o=>#[_,Z,p,14,Z,B,WL,WL,λj ys Ha X u c d Ba ka=>o _ _ ?_]];let wp:j≠p:=qE Ba u;erw[ai λFa o=>eh (λn g=>∃Y:tz ρ,n=[δ$ tf p,δ$ tf j,θ,θ,θ,θ]/\g j=δ (.lst$ Y.map rz)/\(Y.length=14/\(Y.take 3).Nodup/\∀y∈Y.take 3,y.length<=20)/\ax g p/\aG p H g) (λE0 _ fm=>Jd (W:=#[Ba,ka,u]) Z WL WL (λHb l kb=>?_) (λHb l kb=>fm _ _ #[_,Z,l.w,#[WM,d.2.sublist$ PY _ _,λy hy=>d.1 y (OZ hy)],l.B,l.K])) λσ1 H0 h3=>?_]
 .clear o;let⟨v1,h6,z⟩:=KM (ys:=ys) (k:=1) WL WM;refine#[_,Z,j,_,_,_,Z,Z,aH.of l.w,z,_,Z,j,_,8,8,Z,Z,l.w,Nu (k:=8) (by rw[NO];omega),fm _ _ #[ys.set 8 v1,Z,?_,#[by rw[SV];omega,by rw[List.take_set_of_le WL];exact#[d.2.sublist$ PY _ _,λy hy=>d.1 y (OZ hy)]],l.B.eq$ jh$ Ou wp,l.K.upd_own X]];rw[jc,VV]
 obtain⟨ys,rfl,h4,⟨c,C,D⟩,B1,k1⟩:=h3;obtain⟨y0,h0⟩:∃y,ys[0]?=δ y:=#[_,NK (by omega:0 < ys.length)];obtain⟨G,I⟩:∃y,ys[1]?=δ y:=#[_,NK (by omega:1 < ys.length)];obtain⟨y2,N⟩:∃y,ys[2]?=δ y:=#[_,NK (by omega:2 < ys.length)];let e3:ys.take 3=[y0,G,y2]:=by rw[Rl,Rl,Rl,h0,I,N];rfl
 rw[e3]at C D;erw[o _ _ ?_];let W1:Wd H H0 p j ys:=#[B1,k1,h4];generalize H0=H1 at W1;erw[ai λF2 f2=>jY W1 (ZG (KC (Cf:=[]) (zb Z WL WM) (KA$ zb Z WL WM) WL)$ XT (Cf:=[]) (KB Z (KA$ zb Z WL WM)$ KA$ zb Z WL WM) WL) λv2 H2 x2 W2 k2=>f2 _ _ ?_];erw[ai λF3 f3=>jY W2 (ZH (Cf:=[]) (Je (k:=2) Z Z N) (C5 (zb Z WL WM)$ zb Z WL WM) (Ev.up (jQ Z eN x2) λ_ _=>PB.lift) WL WM) λv3 H3 x3 W3 k3=>f3 _ _ ?_];erw[ai λF4 f4=>jY W3 (Ig Z (Je (k:=1) Z Z I) (Je (k:=2) Z Z N)$ Je (k:=2) Z Z N) λv4 H4 x4 W4 k4=>f4 _ _ ?_];erw[ai λF5 f5=>jY W4 (vC (lo:=6) Z Z (Je (k:=0) Z Z h0) (Ev.up (R:=Hn [G]) (Je (k:=1) Z Z I) λ_ _ e=>#[_,e,Oe]) c WL Z Z) λv5 H5 x5 W5 k5=>f5 _ _ ?_];erw[ai λF6 O=>eh (λn g=>∃(b:V),n=[δ$ tf p,δ$ tf j,δ$ v2,δ$ v3,δ$ v4,δ b]/\PD [(G,2)] 1 y0 g b/\Wd H g p j ys/\am H5 g) (λE6 _ J=>Jd W5 Z WL WL (λH8 W8 S=>?_) (λH8 W8 S=>?_)) λσ2 H7 h5=>?_]
 .clear O;erw[jY W8 (vC (lo:=6) Z Z (Je (k:=0) Z Z h0) (Ev.up (R:=Hn [G]) (Je (k:=1) Z Z I) λ_ _ e=>#[_,e,Oe]) c WL Z Z) λv9 H9 x9 W9 k9=>J _ _ ?_];let M:am H5 H9:=(S.t.trans k9.t);exact#[_,Z,x9,W9,M]
 .clear O;exact J _ _ #[_,Z,(mj _ _ _ S.t x5),W8,S.t]
 let⟨b7,rfl,x7,W7,k7⟩:=h5;erw[O _ _ ?_];let L:am H3 H7:=((k4.t.trans k5.t).trans k7);erw[Xi W7 (Ic (n1:=1) (n2:=2) (n3:=2) #[WL,WL,WL] (Ev.up (jQ Z mj x7) (λ_ _ #[a,e,h]=>#[a,e,h.more WN])) (Ev.up (vC (lo:=7) Z Z (Je (k:=1) Z Z I) (jQ (P:=Hn [G,y2,y2]) Z (λ_ _ _ _ h=>h) x4) c WL Z Z) (λ_ _ #[a,e,h]=>#[a,e,h.more WN])) (Ev.up (jQ Z mj$ mj _ _ _ L x3) (λ_ _ #[a,e,h]=>#[a,e,h.more WN]))) λv g x W'=>?_];let⟨r,ds,xs,rfl,g0,g1,g2,g3,g4⟩:=x;exact q r ds xs g g0 g1 g2 [1,2,2] #[by rw[g3.2];exact g3.1,by rw[g3.2];exact#[C,D]] g4 #[_,Z] W'.B W'.K
noncomputable abbrev rg:cc:=bQ 73
def Gy(h:0<=d)(H:d < 4):∃m:Int,eM [sn 3,.int 3,.int 3,.int 8] d=δ (.int m)/\3<=m/\m<=8:=by
 rcases(by omega:d=0∨d=1∨d=2∨d=3) with rfl |rfl |rfl |rfl
 .exact#[3,Z,WL,WL]
 .exact#[3,Z,WL,WL]
 .exact#[3,Z,WL,WL]
 .exact#[8,Z,WL,WL]
def D6(h:dh H D v)(f:0<=k)(g:k < (v.length:Int)):∃d,eM v k=δ (.ref d.p)/\d∈D/\CJ H d (.ref d.p):=by
 let a:k.toNat < v.length:=by omega
 let E:k=((k.toNat:Nat):Int):=by omega
 let⟨d,c,b⟩:=h.at k.toNat _ (NK a);let e:v[k.toNat]= .ref d.p:=b.elim λ_ z=>z.1;refine#[d,?_,Og c,by rwa[<- e]];rw[E];exact jK (by rw[<- e];exact NK a)
def G8(H:Hp)(D:tz Df)(v a:V):Prop:=∃(d:Df) (p:tz ρ) (t:η) (I:tz Int),d∈D/\v= .str d.f/\H d.pa=δ (.tup$ p.map rz)/\a= .ref t/\H t=δ (.tup$ I.map sn)/\I.length=p.length/\I.length<=100/\∀i∈I,0<=i/\i < 1000000000000000000
inductive mP(b:tz V)(H:Hp)(Q:VK)(a:XK):Prop
 |mk(p:η)(_:b=[.ref p])(_:ax H p)(_:∀(t r:η) (v2 v3:V) (ds:tz Df) (xs:tz V) (H':Hp),H' t=δ (.tup [.ref r,v2,v3])->H' r=δ (.tup xs)->dh H' ds xs->1<=ds.length->ds.length<=8->∀ns,uN ds ns->nG H' ds ns->G8 H' ds v2 v3->ax H' p->aG p H H'->Q (.ref t) H')
def gm:aj z43z z2z (ae rg):=bN
noncomputable def YK:hY:=#[.function,[(".0",.local),("_law_one",.local),("_law_number",.globalImplicit),("_law_box_here",.free)],ν,ν,[]]
def wn:(["_law_one","_law_box_here"]:tz ρ).Nodup:=by decide+kernel
def va:ba z43z (ae rg) YK ["_law_one","_law_box_here"] 1 [0]:=oM
def AZ(F:ti K "_law_case" rg f fd)(M:‹1› fT f0 z0z a7 "_law_take")(cN:‹2› fN f3 z2z iD "_law_number")(cY:‹4› fY f4 z2z mO "_law_busy")(cZ:‹22› fZ f5 z36z rK "_law_any")(ml:mg "len"=θ)(m0:mg "tuple"=θ):⇑23 f fd z2z mP:=by
 erw[F.ok gm λc0 A o1 s H vs Q E y h=>?_]
 let⟨p,rfl,B,q⟩:=h;refine#[_,(jd (jz (jD JX (M.e y.m$ ja (pv 0)$ ja jf jb) jf$ aI _) (jd (jA 1 gm.nd$ cY.e y.m$ ja (pv 0) jb)$ jg$ jo$ ji$ ja (pv 1)$ ja (jy$ jr jL (pv 1) jf (λ_ _=>Z))$ ja (ji$ ja (M.e y.m$ ja (pv 0)$ ja jf jb) jb) jb) jp)$ jd (jA 2 gm.nd$ jr jv (jE$ ja jf$ ja jf$ ja jf$ ja jf jb) (M.e y.m$ ja (pv 0)$ ja jf jb) (λ_ _=>Z))$ jd (jA 1 gm.nd$ cZ.e y.m$ ja (pv 0)$ ja (jx jW jf$ M.e y.m$ ja (pv 0)$ ja (pv 2) jb)$ ja jf jb)$ jd (zA (jr jL (pv 1) (M.e y.m$ ja (pv 0)$ ja (jM jG Z ml OD$ ja (pv 1) jb) jb) (λ_ _=>Z))$ zz (n:=3) Z$ jB (jw (i:=3) gm.nd Z$ ω Z)$ jB (jw (i:=4) gm.nd Z$ ω Z)$ jB (jw (i:=5) gm.nd Z$ ω Z) kj)$ jg$ jo$ ji$ ja (pv 1)$ ja (pv 3)$ ja (jN jP Z m0 PV$ ja (@zp _ _ _ _ _ _ _ (["_law_one","_law_box_here"]) (1) ([0]) _ _ _ _ Z (qo$ pv 4) va (λ_ _ _ _ _=>(jw (i:=0) wn Z$ ω Z)) (λ_ _ _ _ _=>(@zM _)) (λ_ _ _ _ _=>(cN.e y.m$ ja (pv 1) jb)) (by intro _;rfl)) jb) jb),?_];let b0:=aK;erw[ai λF1 a=>pP λG1 g1=>#[_,Z,p,3,Z,B,WL,WL,λd1 H1 a0 a1 B1 e1=>#[_,_,Z,Z,_,Z,g1 _ _ ?_]]];let k1:aG p H H1:=aG.of_eq e1;erw[cg (λc=>?_) (λc=>a _ _ ?_)]
 .clear a;erw[ai λF2 f2=>#[_,Z,p,Z,B1,λr ds xs H2 N C hl ns D b O B2 k2=>f2 _ _ ?_]];let ln:=C.len;let⟨nr,rfl⟩:=O;cases ds with
  |nil=>cases hl
  |cons d r0=>
  let⟨p0,R,S,_⟩:=b.2 0 d 1 Z Z;let h0:=C;obtain⟨u0,rr,rfl,⟨bs,rfl,hp,_⟩,_⟩:=h0;let g:eM (tf d.p::rr) 0=δ (.ref d.p):=eY;refine#[_,Z,ju N g #[d.p,_,_,_,Z,Z,aC.of hp,eY,_,Z,p,6,Z,B2,WL,WL,λd3 H3 d0 d4 B3 e3=>?_]];let c3:aG p H2 H3:=aG.of_eq e3;refine#[iQ,λu nu=>#[hZ,λt U=>?_]];let s4:aa H3 (af (af H3 u$ .tup [.int d3]) t$ .tup [.ref r,.str d.f,.ref u]):=(je nu).trans (je U);let T:=(c3.tm B2).trans (aa.tm s4);exact q t r _ _ _ _ _ jc (T _ _ N) (C.mono T) WM WM _ D (b.mono T) #[d,p0,u,[d3],Oe,Z,T _ _ R,Z,aq jc U,by rw[S];rfl,(by show 1<=100;decide),λi hi=>by rw[υ.mp hi];omega] (B3.same s4) ((k1.trans k2).trans$ c3.trans$ aG.of_same s4)
 erw[ai λF1 a=>#[rY,λl W=>#[_,Z,p,4,Z,B1.upd_new W,WL,WL,λd2 H2 d6 d7 B2 e2=>?_]]];let k2:aG p H1 H2:=((aG.refl).upd_new W).trans (aG.of_eq e2);let⟨m,g,m3,m8⟩:=Gy d6 d7;refine#[l,_,_,_,Z,Z,aH.of (by rw[e2 l$ B1.ne W];exact jc),g,a _ _ ?_];erw[ai λF1 a=>#[_,Z,_,Z,_,Z,p,m,Z,B2,WM,WM,λd3 H3 d0 d4 B3 e3=>#[_,_,Z,Z,p,1+d3,12,Z,B3,WM,WM,WL,WL,λr ds xs H4 G C hl ns D b B4 k4=>a _ _ ?_]]];let ln:=C.len;let K4:aG p H H4:=(k1.trans k2).trans ((aG.of_eq e3).trans k4);erw[ai λF1 a=>#[_,Z,_,Z,_,Z,r,_,Z,.inr$ aC.of G,p,_,Z,B4,WM,WM,λd5 H5 d8 d' B5 e5=>?_]];let c5:aG p H4 H5:=aG.of_eq e5;let o:=c5.tm B4;let⟨d,g,hd,bs,e,hp,_⟩:=D6 (C.mono o) d8 d';refine#[r,_,_,_,Z,Z,aC.of$ o _ _ G,g,d.p,_,Z,aC.of hp,Z,_,_,Z,_,_,Z,_,_,Z,Z,a _ _ ?_];let⟨pv,X,h4⟩:=b.v d hd;let z:=o _ _ X;refine#[_,Z,_,Z,_,Z,d.pa,Z,#[_,aC.of z],?_];refine qR (K:=K) (xs:=pv.map rz) (by rw[NO];omega) (λi L J=>(∃I:tz Int,L=I.map sn/\I.length=i/\∀j∈I,0<=j/\j < 1000000000000000000)/\ax J p/\aG p H5 J) #[#[[],Z,Z,(λ_ h=>nomatch h)],B5,aG.refl] (λi L J k=>?_) (λi x L J hx k=>?_) (λL J k l W=>?_)
 .exact#[aC.of$ k.2.2.tm B5 _ _ z,let #[I,e,l,_]:=k.1;by rw[e,NO,l];exact NQ _]
 .exact#[_,Z,p,Z,k.2.1,λe H7 e0 e1 B7 e7=>#[let #[I,h1,l,h2]:=k.1;#[I++[e],by rw[h1,Ol];rfl,by rw[NP,l];rfl,Js h2 #[e0,e1]],B7,k.2.2.trans$ aG.of_eq e7]]
 .refine#[l,_,Z,.inl #[aH.of jc,λl2 n0=>#[hZ,λt U=>?_]]];let s7:aa J (af (af (af J l$ .lst L) l2$ .tup L) t$ .tup [.ref r,.str d.f,.ref l2]):=((je W).trans$ je n0).trans (je U);let T:=o.trans ((k.2.2.tm B5).trans$ aa.tm s7);let⟨I,hz,Y,h3⟩:=k.1;rw[NO]at Y;exact q t r _ _ ds xs _ jc (T _ _ G) (C.mono T) WM WM ns D (b.mono T) #[d,pv,l2,I,hd,Z,T _ _ X,Z,by rw[<- hz];exact aq jc U,Y,WM,h3] (k.2.1.same s7) (K4.trans$ c5.trans$ k.2.2.trans$ aG.of_same s7)
noncomputable abbrev mz:cc:=bQ 12
noncomputable abbrev mM:cc:=bQ 13
abbrev bf:=tz (bV×V)
def gZ(x:Int):Prop:=0<=x/\x < 1000000000000000000
def GT(k:bf):Prop:=∀p∈k,∃i,p.2= .int i/\gZ i
def GT.nil:GT []:=λ_ h=>absurd h Ov
def GT.put(h:GT a)(k:bV)(H:gZ i):GT (bj a k$ .int i):=by
 intro p hp;unfold bj at hp;split at hp
 .let⟨q,b,rfl⟩:=dn.mp hp;by_cases e:q.1=k
  .rw[N0 e];exact#[i,Z,H]
  .rw[N7 e];exact h q b
 .rcases Ψ.mp hp with hp |hp
  .exact h p hp
  .rw[υ.mp hp];exact#[i,Z,H]
def GT.val(h:GT a)(e:cq a k=δ v):∃i,v= .int i/\gZ i:=by unfold cq at e;let⟨p,H,rfl⟩:=de.mp e;exact h p$ List.mem_of_find?_eq_some H
noncomputable def look(a:bf)(k:bV)(z:Int):Int:=match cq a k with
 |some (.int i)=>i
 |_=>z
def K0(h:GT a)(k:bV)(z:Int):(cq a k).getD (.int z)= .int (look a k z):=by
 unfold look;cases e:cq a k with
 |none=>rfl
 |some v=>let⟨i,rfl,_⟩:=h.val e;rfl
def tH(h:GT a)(e:cq a k=δ v)(z:Int):v= .int (look a k z):=by unfold look;let⟨i,rfl,_⟩:=h.val e;rw[e]
def tG(e:cq a k=θ)(z:Int):look a k z=z:=by unfold look;rw[e]
def Km(h:GT a)(H:gZ z):gZ (look a k z):=by
 unfold look;cases e:cq a k with
 |none=>exact H
 |some v=>let⟨i,rfl,b⟩:=h.val e;exact b
def Kn:gZ 0:=#[WL,WL]
noncomputable def jn(i:Nat)(x y:Int):Int:=match i with
 |0=>(x+y) % 1000000000000000000
 |1=>(x - y) % 1000000000000000000
 |2=>x*y % 1000000000000000000
 |3=>if y=0 then 0 else x / y
 |4=>if x < y then 1 else 0
 |_=>if x=y then 1 else 0
noncomputable def Tm.ev(k:bf):Tm->Int
 | .num n=>n
 | .var x=>look k (.inr x) 0
 | .op i a b=>jn i (a.ev k) (b.ev k)
def Im(H:gZ x)(c:gZ y):gZ (jn i x y):=by
 let a:(1000000000000000000:Int)≠0:=by decide
 let b:(0:Int) < 1000000000000000000:=by decide
 match i with
 |0 |1 |2=>exact#[O3 _ a,OJ _ b]
 |3=>
  show gZ (if y=0 then 0 else x / y);by_cases h:y=0
  .rw[N0 h];exact#[WL,WL]
  .rw[N7 h];let e:=c.1;let d:0 < y:=by omega
   refine#[VE H.1 WM,Int.lt_of_le_of_lt ?_ H.2];exact Int.ediv_le_self _ H.1
 |4=>show gZ (if x < y then 1 else 0);split<;>exact#[WL,WL]
 |n+5=>show gZ (if x=y then 1 else 0);split<;>exact#[WL,WL]
theorem JZ(g:GT k):∀{t:Tm},t.Good y->gZ (t.ev k)
 | .num _,h=>h
 | .var x,_=>Km g Kn
 | .op _ _ _,h=>Im (JZ g h.2.1) (JZ g h.2.2)
inductive lr(b:tz V)(H:Hp)(Q:VK)(a:XK):Prop
 |mk(i:Nat)(x y:Int)(_:b=[.str (MG i),.int x,.int y])(_:i < 6)(_:gZ x)(_:gZ y)(_:Q (.int (jn i x y)) H)
def Na(K:β)(H:Hp)(T:Tm)(a:η):Prop:=bG H T a∨(T= .num 0/\aC K H a [.str "num",.int 0])
inductive db(K:β)(n:Nat)(e:tz V)(H:Hp)(Q:VK)(b:XK):Prop
 |mk(a d:η)(T:Tm)(f:tz ρ)(c:bf)(_:e=[.ref a,.ref d])(_:Na K H T a)(_:T.depth < n)(_:T.Good f)(_:H d=δ (.dK c))(_:GT c)(_:Q (.int (T.ev c)) H)
def ya:aj z24z z24z (ae mz):=bN
def tU(F:ti K "joined" mz f b)(m:mg "TOP"=δ (.int 1000000000000000000 t)):⇑1 f b z24z lr:=by
 erw[F.ok ya (λe A o s H d Q E r h=>?_)]
 let⟨i,x,y,rfl,u,g,j,q⟩:=h;refine#[_,(jd (jz (kh$ pv 0) (jg$ jo$ jx zn (jx jW (pv 1)$ pv 2)$ Jf (v:=.int 1000000000000000000) Z m #[_,Z]) jp)$ jd (jz (kh$ pv 0) (jg$ jo$ jx zn (jx zd (pv 1)$ pv 2)$ Jf (v:=.int 1000000000000000000) Z m #[_,Z]) jp)$ jd (jz (kh$ pv 0) (jg$ jo$ jx zn (jx zK (pv 1)$ pv 2)$ Jf (v:=.int 1000000000000000000) Z m #[_,Z]) jp)$ jd (jz (kh$ pv 0) (jg$ jo$ kU (zk$ pv 2) jf$ jx KW (pv 1)$ pv 2) jp)$ jd (jz (kh$ pv 0) (jg$ jo$ kU (jD QI (pv 1) (pv 2)$ aI _) jf jf) jp)$ jg$ jo$ kU (jD qh (pv 1) (pv 2)$ aI _) jf jf),?_];let⟨k,l⟩:=g;let⟨n,p⟩:=j;rcases(by omega:i=0∨i=1∨i=2∨i=3∨i=4∨i=5) with rfl |rfl |rfl |rfl |rfl |rfl
 .refine#[_,Z,Z,_,Z,c8 WO ?_];exact#[_,Z,_,Z,_,_,Z,Z,_,_,Z,Z,(by show(0:Int) < 1000000000000000000;decide),q]
 .refine#[_,Z,Z,_,Z,aY WO ?_];refine#[_,Z,Z,_,Z,c8 WO ?_];exact#[_,Z,_,Z,_,_,Z,Z,_,_,Z,Z,(by show(0:Int) < 1000000000000000000;decide),q]
 .refine#[_,Z,Z,_,Z,aY WO ?_];refine#[_,Z,Z,_,Z,aY WO ?_];refine#[_,Z,Z,_,Z,c8 WO ?_];exact#[_,Z,_,Z,_,_,Z,Z,.inl #[WM,WM],_,_,Z,Z,(by show(0:Int) < 1000000000000000000;decide),q]
 .refine#[_,Z,Z,_,Z,aY WO ?_];refine#[_,Z,Z,_,Z,aY WO ?_];refine#[_,Z,Z,_,Z,aY WO ?_];refine#[_,Z,Z,_,Z,c8 WO ?_];let a:Q (.int (if y=0 then 0 else x / y)) H:=q;refine#[_,Z,Z,_,Z,?_];erw[cg (λc=>?_) (λc=>?_)]
  .let C:sn y=sn 0:=OQ c;injection C with C;rw[N0 C]at a;exact a
  .let C:y≠0:=λz=>c (by rw[z];rfl);rw[N7 C]at a;exact#[_,Z,_,Z,_,_,Z,Z,#[WM,WM],a]
 .refine#[_,Z,Z,_,Z,aY WO ?_];refine#[_,Z,Z,_,Z,aY WO ?_];refine#[_,Z,Z,_,Z,aY WO ?_];refine#[_,Z,Z,_,Z,aY WO ?_];refine#[_,Z,Z,_,Z,c8 WO ?_];let a:Q (.int (if x < y then 1 else 0)) H:=q;refine#[_,Z,_,Z,_,_,Z,Z,_,Z,?_];erw[cg (λc=>?_) (λc=>?_)]
  .rw[N0$ OQ c]at a;exact a
  .rw[N7$ SY$ mL.mpr c]at a;exact a
 .refine#[_,Z,Z,_,Z,aY WO ?_];refine#[_,Z,Z,_,Z,aY WO ?_];refine#[_,Z,Z,_,Z,aY WO ?_];refine#[_,Z,Z,_,Z,aY WO ?_];refine#[_,Z,Z,_,Z,aY WO ?_];let a:Q (.int (if x=y then 1 else 0)) H:=q;refine#[_,Z,_,Z,Z,_,Z,?_];erw[cg (λc=>?_) (λc=>?_)]
  .let C:sn x=sn y:=OQ c;injection C with C;rw[N0 C]at a;exact a
  .let C:x≠y:=λz=>c (by rw[z];exact N4 Z);rw[N7 C]at a;exact a
def B0:aj z9z z9z (ae mM):=bN
def wO(F:ti K "worth" mM f p)(C:‹n+1› f p z9z (db K n) "worth")(v:‹1› R B z24z lr "joined"):⇑(n+2) f p z9z (db K$ n+1):=by
 erw[F.ok B0 (λD A o s H V Q E j h=>?_)]
 let⟨a,d,T,y,c,rfl,t,I,g,l,G,q⟩:=h;refine#[_,(jd (jz (kh$ jy$ pv 0) (jg$ jo$ jy$ pv 0) jp)$ jd (jz (kh$ jy$ pv 0) (jg$ jo$ @KY _ _ _ _ _ _ _ _ _ (zY j) (pv 1) (jy$ pv 0) jf #[WP,WP,WP,WP]) jp)$ jg$ jo$ v.e j.m$ ja (jy$ pv 0)$ ja (C.e j$ ja (jy$ pv 0)$ ja (pv 1) jb)$ ja (C.e j$ ja (jy$ pv 0)$ ja (pv 1) jb) jb),?_];cases T with
 |num m=>
  let b:aC K H a [.str "num",.int m]:=t.elim (λh=>aC.of h) λz=>by cases z.1;exact z.2
  refine#[_,Z,a,_,_,_,Z,Z,b,Z,Z,_,Z,c8 WO ?_];exact#[_,Z,a,_,_,_,Z,Z,b,Z,q]
 |var x=>
  let b:H a=δ (.tup [.str "var",.str x]):=t.resolve_right λz=>by cases z.1
  refine(ju b Z #[Z,_,Z,aY WO ?_]);refine(ju b Z #[Z,_,Z,c8 WO ?_]);refine#[_,Z,d,Z,.inl #[c,.inl l],ju b Z #[_,gu.k (k:=Sum.inr x) l,?_]];rwa[K0 G]
 |op i r u=>
  let⟨J,L,b,M,N⟩:=t.resolve_right λz=>by cases z.1
  let O:max r.depth u.depth+1 < n+1:=I;refine(ju b Z #[Z,_,Z,aY WO ?_]);refine(ju b Z #[Z,_,Z,aY WO ?_]);refine(ju b Z ?_);refine(ju b Z #[_,Z,J,d,r,y,c,Z,.inl M,WM,g.2.1,l,G,?_]);refine(ju b Z #[_,Z,L,d,u,y,c,Z,.inl N,WM,g.2.2,l,G,?_]);exact#[i,_,_,Z,g.1,JZ G g.2.1,JZ G g.2.2,q]
def wz:⇑1 f e z9z (db K 0):=by
 let n:∀v H Q E,¬db K 0 v H Q E:=λv H Q E h=>by let⟨a,d,T,y,k,_,_,c,_⟩:=h;exact absurd c$ R0 _
 exact#[λv H Q E h=>absurd h (n v H Q E),λA o s H b u v Q E _ _ _ _ h=>absurd h (n v H Q E)]
theorem yY(F:ti K "worth" mM f a)(b:aE K a z9z [])(m:mg "worth"=↑f)(c:‹1› e d z24z lr "joined"):
  ∀n:Nat,⇑(n+1) f a z9z (db K n)
 |0=>wz
 |n+1=>wO F #[(yY F b m c n),b,F.kp,m] c
def TV(H:Hp)(y:tz ρ)(t:η)(T:Tm):Prop:=bG H T t/\dI y T
theorem TV.mono(k:am H a)(h:TV H y t T):TV a y t T:=#[h.1.mono k,h.2]
inductive Gl where
 |give (t:η) (T:Tm) |nought |go (n:Nat)
structure WD where
 sets:List (ρ×η×Tm)
 goal:Gl
noncomputable def Gl.gol(N:η):Gl->LH
 | .give t _=>.give t
 | .nought=>.give N
 | .go n=>.go (n:Int)
noncomputable def WD.wy(n:η)(w:WD):Wy:=#[w.sets.map λs=>(s.1,s.2.1),w.goal.gol n]
def Hf(H:Hp)(y:tz ρ)(m:Nat):Gl->Prop
 | .give t T=>TV H y t T
 | .nought=>True
 | .go n=>n < m
structure Ac(H:Hp)(ys:tz ρ)(m N:Nat)(w:WD):Prop where
 sets:∀s∈w.sets,TV H ys s.2.1 s.2.2
 len:w.sets.length<=N
 goal:Hf H ys m w.goal
def nK(H:Hp)(y:tz ρ)(n:η)(m N:Nat)(w:Wy):Prop:=∃d:WD,d.wy n=w/\Ac H y m N d
def M1(F:iS)(H:Hp)(y:tz ρ):Dd->Prop
 | .st p=>∃(l:Lf) (v:tz V),H p=δ (.tup v)/\Aj H l v/\l.Ok y/\l.isCut=μ/\l.Cs F
 | .ask t=>∃T,TV H y t T
noncomputable def Dd.ways:Dd->Nat
 | .st _=>1
 | .ask _=>2
structure Ah(F:iS)(H:Hp)(ys:tz ρ)(nA:η)(m N:Nat)(c:Ct):Prop where
 mem:∀x,c.M x->x∈ys
 deed:M1 F H ys c.d
 ways:∀w∈c.ws,nK H ys nA m N w
 len:c.ws.length=c.d.ways
structure Ab(H:Hp)(ys:tz ρ)(nA:η)(m N:Nat)(pc:Pc):Prop where
 mem:∀x,pc.M x->x∈ys
 way:nK H ys nA m N pc.w
section
variable {F:iS}{H H':Hp}{ys:tz ρ}{nA:η}{m N N':Nat}
theorem Hf.mono(k:am H H')(h:Hf H ys m g):Hf H' ys m g:=by
 cases g with
 |give t T=>exact TV.mono k h
 |nought=>trivial
 |go n=>exact h
theorem Ac.mono(k:am H H'){w:WD}(h:Ac H ys m N w):Ac H' ys m N w:=#[λs a=>(h.sets s a).mono k,h.len,h.goal.mono k]
def nK.up(a:N<=N'){w:Wy}(h:nK H ys nA m N w):nK H ys nA m N' w:=let #[d,e,v]:=h;#[d,e,v.sets,N6 v.len a,v.goal]
theorem Ah.up(a:N<=N')(h:Ah F H ys nA m N c):Ah F H ys nA m N' c:=#[h.mem,h.deed,λw b=>(h.ways w b).up a,h.len]
theorem Ab.up(a:N<=N')(h:Ab H ys nA m N p):Ab H ys nA m N' p:=#[h.mem,h.way.up a]
def YQ{n:Nat}(a:k=(n:Int))(b:n < m):nK H ys nA m N #[[],.go k]:=#[#[[],.go n],by rw[a];rfl,(λ_ h=>absurd h Ov),NY _,b]
theorem KF:∀(b:Bd) {X:tz V} {g:Pc} {fs:tz Ct} {N:Nat},dX H b X->b.Ok ys->b.Cs F->Ab H ys nA m N g->(∀c∈fs,Ah F H ys nA m N c)->fs.length+b.cuts<=m->
  Ab H ys nA m (N+b.size) (pB (m:Int) b g fs).1/\∀c∈(pB (m:Int) b g fs).2,Ah F H ys nA m (N+b.size) c
 | .nil,_,_,_,_,_,_,_,o,y,_=>#[o,y]
 | .lf p l r,X,g,fs,N,C,i,k,o,y,D=>by
  let⟨vs,zs,_,h1,I,h3⟩:=C;let E:fs.length+(l.cut+r.cuts)<=m:=D;let⟨R,A⟩:=KF r h3 i.2 k.2 o y WM;let hl:=ky (m:Int) r g fs;let S:N+r.size<=N+(r.size+1):=by omega
  let j:=Lf.use_in i.1 R.mem;let J:l.isCut=μ->l.cut=1->Ab H ys nA m (N+(r.size+1)) #[l.use (pB (m:Int) r g fs).1.M,#[[],.go ((m:Int) - ((pB (m:Int) r g fs).2.length:Int) - 1)]]/\∀c∈(pB (m:Int) r g fs).2++[#[l.use (pB (m:Int) r g fs).1.M,.st p,[(pB (m:Int) r g fs).1.w]]],Ah F H ys nA m (N+(r.size+1)) c:=λG h0=>
   #[#[j,YQ (n:=m - (fs.length+r.cuts) - 1) (by rw[hl];omega) WM],λc L=>by
    rcases Ψ.mp L with z |z
    .exact(A c z).up S
    .rw[υ.mp z];exact#[j,#[l,vs,h1,I,i.1,G,k.1],λw hw=>by rw[υ.mp hw];exact R.way.up S,Z]]
  show Ab H ys nA m (N+(r.size+1)) (pL (m:Int) p l$ pB (m:Int) r g fs).1/\∀c∈(pL (m:Int) p l$ pB (m:Int) r g fs).2,Ah F H ys nA m (N+(r.size+1)) c;cases l with
  |gv t T=>exact#[#[j,#[#[[],.give t T],Z,(λ_ h=>absurd h Ov),NY _,I.2,i.1]],λc G=>(A c G).up S]
  |st x t T=>
   refine#[#[j,?_],λc G=>(A c G).up S];show nK H ys nA m _ (i6 x t (pB (m:Int) r g fs).1);unfold i6;split
   .let⟨d,e,v⟩:=R.way;refine#[#[(x,t,T)::d.sets,d.goal],by rw[<- e];rfl,λs hs=>?_,Pq v.len,v.goal];rcases Θ.mp hs with rfl |hs
    .exact#[I.2,i.1.2]
    .exact v.sets s hs
   .exact R.way.up S
  |rd x t T |wr t u T U |cl x f q ts=>exact J Z Z
 | .ite p t T a c r,X,g,fs,N,C,i,k,o,y,D=>by
  let⟨qa,qb,as,bs,zs,_,g1,O,g2,g3,Q,g5,W⟩:=C;let E:fs.length+(1+a.cuts+c.cuts+r.cuts)<=m:=D;let⟨R,A⟩:=KF r W i.2.2.2 k.2.2 o y WM;let B:=ky (m:Int) r g fs;let⟨c1,c2⟩:=KF c g5 i.2.2.1 k.2.1 R A WM;let h4:=ky (m:Int) c (pB (m:Int) r g fs).1 (pB (m:Int) r g fs).2;let⟨Y,a2⟩:=KF a Q i.2.1 k.1 (R.up$ Rr _ _) c2 WM;let S:N+r.size+c.size+a.size<=N+(a.size+c.size+r.size+1):=by omega
  let j:∀x,(Bd.ite p t T a c .nil).use (pB (m:Int) r g fs).1.M x->x∈ys:=Bd.use_in #[i.1,i.2.1,i.2.2.1,trivial] R.mem;let hk:(m:Int) - ((pB (m:Int) r g fs).2.length:Int) - ((Bd.ite p t T a c .nil).cuts:Int)=((m - (fs.length+r.cuts) - (1+a.cuts+c.cuts):Nat):Int):=by show(m:Int) - _ - ((1+a.cuts+c.cuts+0:Nat):Int)=_;rw[B];omega
  unfold pB;dsimp only;refine#[#[j,YQ hk WM],λe he=>?_];rcases Ψ.mp he with z |z
  .exact(a2 e z).up S
  .rw[υ.mp z];refine#[j,#[T,O,i.1],λw hw=>?_,Z];rcases Θ.mp hw with rfl |hw
   .exact Y.way.up S
   .rw[υ.mp hw];exact c1.way.up (by show _<=N+(a.size+c.size+r.size+1);omega)
 | .loop p t T a r,X,g,fs,N,C,i,k,o,y,D=>by
  let⟨qa,as,zs,_,g1,O,g2,Q,W⟩:=C;let E:fs.length+(1+a.cuts+r.cuts)<=m:=D;let⟨R,A⟩:=KF r W i.2.2 k.2 o y WM;let B:=ky (m:Int) r g fs;let j:∀x,(Bd.loop p t T a .nil).use (pB (m:Int) r g fs).1.M x->x∈ys:=Bd.use_in #[i.1,i.2.1,trivial] R.mem;let hk:(m:Int) - ((pB (m:Int) r g fs).2.length:Int) - ((Bd.loop p t T a .nil).cuts:Int)=((m - (fs.length+r.cuts) - (1+a.cuts):Nat):Int):=by show(m:Int) - _ - ((1+a.cuts+0:Nat):Int)=_;rw[B];omega
  let pl:Ab H ys nA m (N+r.size) #[(Bd.loop p t T a .nil).use (pB (m:Int) r g fs).1.M,#[[],.go ((m:Int) - ((pB (m:Int) r g fs).2.length:Int) - ((Bd.loop p t T a .nil).cuts:Int))]]:=#[j,YQ hk WM];let⟨Y,a2⟩:=KF a Q i.2.1 k.1 pl A WM;let S:N+r.size+a.size<=N+(a.size+r.size+1):=by omega
  unfold pB;dsimp only;refine#[pl.up (by show _<=N+(a.size+r.size+1);omega),λe he=>?_];rcases Ψ.mp he with z |z
  .exact(a2 e z).up S
  .rw[υ.mp z];refine#[j,#[T,O,i.1],λw hw=>?_,Z];rcases Θ.mp hw with rfl |hw
   .exact Y.way.up S
   .rw[υ.mp hw];exact R.way.up (by show _<=N+(a.size+r.size+1);omega)
end
def b6(n:η)(d:Df):tz Ct:=(iz n d).2.reverse
def Z7(n:η)(d:Df):(b6 n d).length=d.b.cuts:=by unfold b6;rw[UQ];exact(ky _ _ _ _).trans (Rp _)
def Dq{nA:η}{d:Df}(f:dX H d.b B)(g:d.b.Ok y):Ab H y nA d.b.cuts d.b.size (iz nA d).1/\∀c∈b6 nA d,Ah d.b.calls H y nA d.b.cuts d.b.size c:=by let p:Ab H y nA d.b.cuts 0 (Mx nA):=#[λx i=>absurd i Ov,#[[],.nought],Z,(λ_ h=>absurd h Ov),NQ _,trivial];let⟨a,e⟩:=KF (m:=d.b.cuts) d.b f g (zT d.b) p (fs:=[]) (λ_ h=>absurd h Ov) (by show 0+_<=_;omega);rw[Rp]at a e;exact#[a,λc j=>e c (List.mem_reverse.mp j)]
def Q8{M:ρ->Prop}{y:tz ρ}(h:∀x,M x->x∈y):(canon M).length<=y.length:=by
 by_cases e:∃s,Nm s M
 .let⟨s,H⟩:=e;rw[<- H.canon];exact H.len h
 .unfold canon;rw[dif_neg e];exact NY _
noncomputable def dm:tz (ρ×η×Tm)->bf->bf
 | [],k=>k
 |s::r,k=>dm r (bj k (.inr s.1) (.int (s.2.2.ev k)))
def eQ(N:η)(d:Df)(n:Nat):tz ρ:=match (b6 N d)[n]? with
 |some c=>canon c.M
 |none=>[]
noncomputable def wc(N:Nat->tz ρ)(k:bf):Gl->Tr
 | .give _ T=>aB [aL "give",ar (T.ev k)]
 | .nought=>aB [aL "give",ar 0]
 | .go n=>aB [aL "go",ar (n:Int),aB ((N n).map λx=>ar (look k (.inr x) 0))]
theorem Jk{H:Hp}{ys:tz ρ}:∀{ss:tz (ρ×η×Tm)} {k:bf},(∀s∈ss,TV H ys s.2.1 s.2.2)->GT k->GT (dm ss k)
 | [],_,_,g=>g
 |s::r,k,h,g=>Jk (H:=H) (ys:=ys) (ss:=r) (λS a=>h S (On _ a)) (g.put _ (JZ g (h s Oe).2.1))
def uk{S:tz (ρ×η×Tm)}:∀{i:Nat} {s:ρ×η×Tm} {k:bf},S[i]?=δ s->dm (S.take$ i+1) k=bj (dm (S.take i) k) (.inr s.1) (.int$ s.2.2.ev$ dm (S.take i) k):=by
 induction S with
 |nil=>intro i s k h;simp at h
 |cons a r I=>
  intro i s k h;cases i with
  |zero=>cases h;rfl
  |succ i=>exact I (by simpa using h)
def qk{kvs:bf}{k:bV}{v:V}:(bj kvs k v).length<=kvs.length+1:=by
 unfold bj;split
 .rw[NO];exact OR _
 .rw[NP];exact NQ _
theorem Yh:∀{ss:tz (ρ×η×Tm)} {k:bf},(dm ss k).length<=k.length+ss.length
 | [],_=>NQ _
 |s::r,k=>by let h:=Yh (ss:=r) (k:=bj k (.inr s.1) (.int$ s.2.2.ev k));let H:=qk (kvs:=k) (k:=.inr s.1) (v:=.int (s.2.2.ev k));show(dm r _).length<=k.length+(r.length+1);omega
noncomputable def bq(n:tz ρ)(i:tz Int):bf:=dE [] ((n.map Sum.inr).zip$ i.map sn)
theorem Yi:∀{m:bf} {k:bf},GT k->GT m->GT (dE k m)
 | [],_,g,_=>g
 |p::r,k,g,h=>by
  let⟨i,e,H⟩:=h p Oe;let E:bj k p.1 p.2=bj k p.1 (.int i):=by rw[e]
  show GT (dE (bj k p.1 p.2) r);rw[E];exact Yi (g.put _ H) λq a=>h q (On _ a)
def KR(h:∀i∈I,gZ i):GT (bq n I):=by erw[Yi GT.nil λp H=>?_];let⟨i,a,e⟩:=dn.mp (SU H).2;exact#[i,e.symm,h i a]
def Z8{ns:tz ρ}{is:tz Int}:(bq ns is).length<=ns.length:=by let h:=qU ((ns.map Sum.inr).zip$ is.map sn) [];rw[TK,NO]at h;show(dE [] _).length<=_;let H:(dE [] ((ns.map Sum.inr).zip$ is.map sn)).length<=0+min ns.length (is.map sn).length:=h;omega
noncomputable abbrev oV:cc:=bQ 23
noncomputable abbrev my:cc:=bQ 24
noncomputable abbrev gF:cc:=bQ 28
noncomputable abbrev mx:cc:=bQ 29
noncomputable abbrev iV:cc:=bQ 30
noncomputable abbrev mH:cc:=bQ 31
structure nH(H:Hp)(nA:η)(d:Df)(ys:tz ρ)(v:V):Prop where
 tr:aT H (gf nA d) v []
 bd:∃bs,dX H d.b bs
 ok:d.b.Ok ys
 y20:ys.length<=20
 sz:d.b.size<=3000
structure He(H:Hp)(nA:η)(d:Df)(ys:tz ρ)(c:Ct)(ka na wa:η)(dv:V)(wvs:tz V):Prop where
 at':H ka=δ (.tup [.ref na,dv,.ref wa])
 nms:H na=δ (.tup ((canon c.M).map rz))
 deed:aT H (LO c.d) dv []
 wat:H wa=δ (.tup wvs)
 ways:aT H (aA$ c.ws.map iF) .non wvs
 v:Ah d.b.calls H ys nA d.b.cuts d.b.size c
theorem Z9:∀{S:tz ρ} {v:tz V},aT H (aA$ S.map aL) .non v->v=S.map rz
 | [],v,h=>h
 |s::S,v,h=>by obtain⟨_,_,y,Y,rfl,⟨rfl,_⟩,a⟩:=h;rw[Z9 a];rfl
section
variable {H H':Hp}{nA:η}{d:Df}{ys:tz ρ}{v:V}
theorem nH.mono(k:am H H')(h:nH H nA d ys v):nH H' nA d ys v:=#[h.tr.mono k,let #[b,a]:=h.bd;#[b,a.mono k],h.ok,h.y20,h.sz]
def nH.parts(h:nH H nA d ys v):∃(a c:η) (W:V) (C:tz V),v= .ref a/\H a=δ (.tup [.str d.f,.ref d.pa,W,.ref c])/\aT H (iF (iz nA d).1.w) W []/\H c=δ (.tup C)/\aT H (aA ((b6 nA d).map HN)) .non C:=by obtain⟨_,a,x,rfl,i,_,_,n,Y,rfl,⟨rfl,_⟩,_,_,o,j,rfl,⟨rfl,_⟩,_,_,W,k,rfl,l,_,_,p,y,rfl,m,e⟩:=h.tr;let e:y=[]:=e;subst e;let⟨_,c,C,rfl,b,g⟩:=m;exact#[a,c,W,C,Z,i,l,b,g]
def nH.cut{C:tz V}(h:nH H nA d ys v)(a:aT H (aA ((b6 nA d).map HN)) .non C){n:Nat}{c:Ct}(g:(b6 nA d)[n]?=δ c):∃k N i D W,C[n]?=↑k/\He H nA d ys c k N i D W:=by
 let L:=zq a;rw[NO]at L;let u:n < C.length:=by rw[L];exact(ξ.mp g).1
 let j:C[n]?=δ C[n]:=NK u;let⟨T,b,t⟩:=qZ a n _ j;rw[Od,g]at b;cases b;let⟨B,y⟩:=h.bd;let z:=(Dq (nA:=nA) y h.ok).2 c (Og g);generalize C[n]=x at j t;let⟨_,k,E,rfl,l,_,_,F,G,rfl,m,_,_,D,I,rfl,o,_,_,J,A,rfl,p,e⟩:=t;let e:A=[]:=e;subst e;let⟨_,N,M,rfl,f,q⟩:=m;let⟨_,i,W,rfl,r,s⟩:=p;rw[Z9 q]at f;exact#[k,N,i,D,W,j,l,f,o,r,s,z]
theorem nH.way(h:nH H nA d ys v):nK H ys nA d.b.cuts d.b.size (iz nA d).1.w:=let #[B,a]:=h.bd;(Dq (nA:=nA) a h.ok).1.way
def wu(h:(b6 nA d)[n]?=δ c):eQ nA d n=canon c.M:=by unfold eQ;rw[h]
end
structure Mh(H:Hp)(nA:η)(w:WD)(wa sa ga:η)(ss:tz V)(wd:ρ)(u:V):Prop where
 at':H wa=δ (.tup [.ref sa,.ref ga])
 sat:H sa=δ (.tup ss)
 sets:∀(i:Nat) (x:V),ss[i]?=δ x->∃(s:ρ×η×Tm) (p:η),w.sets[i]?=δ s/\x= .ref p/\H p=δ (.tup [.str s.1,.ref s.2.1])
 len:ss.length=w.sets.length
 gat:H ga=δ (.tup [.str wd,u])
 goal:match w.goal with
  | .give t _=>wd="give"/\u= .ref t
  | .nought=>wd="give"/\u= .ref nA
  | .go n=>wd="go"/\u= .int (n:Int)
def CA{w:WD}(h:aT H (iF$ w.wy N) v []):∃(l S G:η) (A:tz V) (W:ρ) (u:V),v= .ref l/\Mh H N w l S G A W u:=by
 obtain⟨_,r,X,rfl,C,_,_,y0,D,rfl,⟨_,s,c,rfl,E,m⟩,_,_,Y,y,rfl,b,e⟩:=h;let e:y=[]:=e;subst e;let L:=zq m;let st:∀(i:Nat) (x:V),c[i]?=δ x->∃(s:ρ×η×Tm) (p:η),w.sets[i]?=δ s/\x= .ref p/\H p=δ (.tup [.str s.1,.ref s.2.1]):=λi x F=>by let⟨tr,o,I⟩:=qZ m i x F;rw[Od]at o;let⟨q,J,rfl⟩:=de.mp o;let a:(w.sets.map λs=>(s.1,s.2.1))[i]?=δ q:=J;rw[Od]at a;let⟨z,M,rfl⟩:=de.mp a;obtain⟨_,p,X,rfl,O,_,_,Q,R,rfl,⟨rfl,_⟩,_,_,U,B,rfl,⟨rfl,_⟩,e⟩:=I;let e:B=[]:=e;subst e;exact#[z,p,M,Z,O]
 let ln:c.length=w.sets.length:=by rw[L,NO];exact NO ..
 let f:∀g:Gl,w.goal=g->aT H (AF$ g.gol N) Y []->∃(G:η) (W:ρ) (u:V),Y= .ref G/\H G=δ (.tup [.str W,u])/\match g with
  | .give t _=>W="give"/\u= .ref t
  | .nought=>W="give"/\u= .ref N
  | .go n=>W="go"/\u= .int (n:Int):=λg _ b=>by
  cases g with
  |give t T |nought |go n=>obtain⟨_,gl,X,rfl,d,_,_,Q,R,rfl,⟨rfl,_⟩,_,_,U,B,rfl,⟨rfl,_⟩,e⟩:=b;let e:B=[]:=e;subst e;exact#[gl,_,_,Z,d,Z,Z]
 let⟨G,W,u,rfl,j,k⟩:=f w.goal Z b;exact#[r,s,G,c,W,u,Z,C,E,st,ln,j,k]
inductive i7(b:η)(e:tz V)(H:Hp)(Q:VK)(a:XK):Prop
 |mk(v:V)(n:Nat)(d:Df)(f:tz ρ)(c:Ct)(_:e=[v,.int (n:Int)])(_:nH H b d f v)(_:(b6 b d)[n]?=δ c)(_:∀(ka na wa:η) (dv:V) (wvs:tz V),He H b d f c ka na wa dv wvs->Q (.ref ka) H)
inductive lh(f:η)(g:tz V)(H:Hp)(Q:VK)(a:XK):Prop
 |mk(v:V)(n:Nat)(b:η)(d:Df)(h:tz ρ)(c:Ct)(e:tz Int)(_:g=[v,.int (n:Int),.ref b])(_:nH H f d h v)(_:(b6 f d)[n]?=δ c)(_:H b=δ (.tup (e.map sn)))(_:e.length=(canon c.M).length)(_:∀dd:η,H dd=θ->Q (.ref dd) (af H dd (.dK (bq (canon c.M) e))))
def pS:∀(s:tz ρ),(s.map (Sum.inr:ρ->bV)).map kV=s.map rz:=λs=>by rw[Rm];rfl
def BY:aj ["part","n"] ["part","n"] (ae oV):=bN
def wC{f:η}{g:fJ}{N:η}(F:ti K "cut_at" oV f g):⇑1 f g ["part","n"] (i7 N):=by
 erw[F.ok BY λl A o s H V Q E B h=>?_]
 let⟨v,n,d,y,c,rfl,i,m,q⟩:=h;refine#[_,(jg$ jo$ jr jL (jy$ pv 0) (pv 1) (λ_ _=>Z)),?_];let⟨a,p,I,J,rfl,r,L,b,e⟩:=i.parts;let⟨t,u,x,D,W,z,C⟩:=i.cut e m;exact#[_,Z,a,_,_,_,Z,Z,aC.of r,jK (j:=3) Z,_,Z,p,_,_,_,Z,Z,aC.of b,jK z,q t u x D W C]
def x6:aj z12z z12z (ae my):=bN
def tS(F:ti K "held_at" my f g)(i:‹1› J j ["part","n"] (i7 N) "cut_at")(m:mg "dict"=θ)(a:mg "zip"=θ):⇑2 f g z12z (lh N):=by
 erw[F.ok x6 λp A o s H V Q E r h=>?_]
 let⟨v,n,b,d,y,c,I,rfl,t,u,x,z,q⟩:=h;refine#[_,(jg$ jo$ @ZW _ _ _ _ _ _ _ _ Z m Z a Z (ja (jr jL (i.e r$ ja (pv 0)$ ja (pv 1) jb) jf (λ_ _=>Z))$ ja (pv 2) jb) WP WP WP WP),?_];refine#[_,Z,_,Z,v,n,d,y,c,Z,t,u,λB D O R W C=>#[B,_,_,_,Z,Z,aC.of C.at',eY,_,Z,D,b,(canon c.M).map Sum.inr,_,Z,by rw[pS];exact aC.of C.nms,aC.of x,by rw[NO,NO,z],λl G=>q l G]]
inductive Wh where
 |rd (a i:Int) |wr (a b:Int) |ask (b:Int) |cl (f:ρ) (is:List Int) (i:Int)
def DN(H:Hp)(u:V):Wh->Prop
 | .rd a i=>∃p,u= .ref p/\H p=δ (.tup [.str "read",.int a,.int i])
 | .wr a b=>∃p,u= .ref p/\H p=δ (.tup [.str "write",.int a,.int b])
 | .ask b=>∃p,u= .ref p/\H p=δ (.tup [.str "ask",.int b])
 | .cl f I i=>∃p c g e,u= .ref p/\H p=δ (.tup [.str "call",.ref c])/\H c=δ (.tup [.str f,.ref g,e,.int i])/\H g=δ (.tup (I.map sn))
def DN.mono{H d:Hp}(k:am H d){u:V}{w:Wh}(h:DN H u w):DN d u w:=by
 cases w with
 |rd a i |wr a b |ask b=>let⟨p,e,h⟩:=h;exact#[p,e,k _ _ h]
 |cl f I i=>let⟨p,c,g,e,E,j,l,m⟩:=h;exact#[p,c,g,e,E,k _ _ j,k _ _ l,k _ _ m]
inductive DD where
 |st (p:η) (l:Lf) |ask (t:η) (T:Tm)
noncomputable def DD.dd:DD->Dd
 | .st p _=>.st p
 | .ask t _=>.ask t
def CH(H:Hp)(y:tz ρ):DD->Prop
 | .st p l=>∃v,H p=δ (.tup v)/\Aj H l v/\l.Ok y/\l.isCut=μ
 | .ask t T=>TV H y t T
theorem CH.mono(k:am H a)(h:CH H y d):CH a y d:=by
 cases d with
 |st p l=>let⟨v,b,c,e⟩:=h;exact#[v,k _ _ b,c.mono k,e]
 |ask t T=>exact TV.mono k h
def DD.Cs(F:iS):DD->Prop
 | .st _ l=>l.Cs F
 | .ask _ _=>True
def HU{F:iS}(h:M1 F H y d):∃e:DD,e.dd=d/\CH H y e/\e.Cs F:=by
 cases d with
 |st p=>let⟨l,v,a,b,c,f,g⟩:=h;exact#[.st p l,Z,#[v,a,b,c,f],g]
 |ask t=>let⟨T,h⟩:=h;exact#[.ask t T,Z,h,trivial]
def LB:DD->Wh->Prop
 | .st _ (.rd _ _ _),.rd _ i=>gZ i
 | .st _ (.wr _ _ _ _),.wr _ _=>True
 | .st _ (.cl _ _ _ _),.cl _ _ i=>gZ i
 | .ask _ _,.ask b=>b=0∨b=1
 |_,_=>False
noncomputable def uL(d:DD)(w:Wh)(k:bf):bf:=match d,w with
 | .st _ (.rd x _ _),.rd _ i | .st _ (.cl x _ _ _),.cl _ _ i=>bj k (.inr x) (.int i)
 |_,_=>k
noncomputable def Wh.side:Wh->Nat
 | .ask b=>if b=0 then 1 else 0
 |_=>0
def vI(Q:VK)(H:Hp):Wh->Prop
 | .rd _ i | .cl _ _ i=>Q (.int i) H
 |_=>False
inductive fu(b:tz V)(H:Hp)(Q:VK)(a:XK):Prop
 |mk(u:V)(w:Wh)(_:b=[u])(_:DN H u w)(_:vI Q H w)
inductive nX(c:η)(e:tz V)(H:Hp)(Q:VK)(a:XK):Prop
 |mk(v f:V)(b:η)(d:Df)(g:tz ρ)(w:WD)(k:bf)(_:e=[v,f,.ref b])(_:nH H c d g v)(_:aT H (iF (w.wy c)) f [])(_:Ac H g d.b.cuts d.b.size w)(_:H b=δ (.dK k))(_:GT k)(_:k.length<=200)(_:∀(u:V) (H':Hp),aT H' (wc (eQ c d) (dm w.sets k) w.goal) u []->aG b H H'->Q u H')
inductive EI(c:η)(a:_L.St)(j:tz (ρ×η×Tm))(k:bf)(H:Hp)(i:Nat)(l:_L.St)(b:Hp):Prop
 |mk(g h:tT V)(d:l=a++[g,h,θ,θ])(e:b c=δ (.dK (dm (j.take i) k)))(f:aG c H b)
theorem Ko{H:Hp}:∀{is:tz Int},aT H (aA$ is.map ar) .non (is.map sn)
 | []=>rfl
 |i::is=>jl Z jX (Ko (is:=is))
def lT:aj ["what"] ["what"] (ae gF):=bN
def wE(F:ti K "found_in" gF f n):⇑1 f n ["what"] fu:=by
 erw[F.ok lT λC A o s H v Q E t h=>?_]
 let⟨u,W,rfl,d,q⟩:=h;refine#[_,(jg$ jo$ kU (kh$ jy$ pv 0) (jy$ jr jL (pv 0) jf (λ_ _=>Z))$ jr jL (pv 0) (wW YM jf) (λ_ _=>Z)),?_];cases W with
 |rd a i=>let⟨p,rfl,l⟩:=d;exact(ju l eY #[Z,_,Z,aY WO #[_,Z,_,Z,p,_,_,_,Z,Z,aC.of l,Z,q]])
 |cl f I i=>let⟨p,c,g,e,rfl,m,r,_⟩:=d;exact(ju m eY #[Z,_,Z,c8 WO$ ju m iy #[c,_,_,_,Z,Z,aC.of r,jK (j:=3) Z,q]])
 |wr a b |ask b=>exact q.elim
def gJ:aj ["part","way","numbers","name","term","goal","held"] ["part","way","numbers"] (ae mx):=bN
noncomputable def Zz:hY:=#[.function,[(".0",.local),("name",.local),("numbers",.free)],ν,ν,[]]
def AR:(["name","numbers"]:tz ρ).Nodup:=by decide+kernel
def Au:ba ["part","way","numbers","name","term","goal","held"] (ae mx) Zz ["name","numbers"] 1 [2]:=oM
def wD(F:ti K "end_of" mx f fd)(cC:‹1› fC f2 ["part","n"] (i7 U) "cut_at")(cW:‹7› fW f3 z9z (db K 6) "worth")(m0:mg "tuple"=θ)(no:oH K U):⇑8 f fd ["part","way","numbers"] (nX U):=by
 erw[F.ok gJ λc0 A o1 s H vs Q E Y h=>?_]
 let⟨v,w1,D,d,ys,O,k,rfl,hp,hw,wv,hd,gk,hk,q⟩:=h;refine#[_,(jd (j6 Ot Z (qo$ jy$ pv 1) (zz (n:=2) Z$ jB (jw (i:=3) gJ.nd Z$ ω Z)$ jB (jw (i:=4) gJ.nd Z$ ω Z) kj)$ jg$ Jh (zY Y) (pv 2) (pv 3) (cW.e Y.m$ ja (pv 4)$ ja (pv 2) jb) Z)$ jd (jA 5 gJ.nd$ jy$ pv 1)$ jd (jz (kh$ jy$ pv 5) (jg$ jo$ ji$ ja jm$ ja (cW.e Y.m$ ja (jy$ pv 5)$ ja (pv 2) jb) jb) jp)$ jd (@qN _ _ _ _ _ _ _ _ _ _ (6) (["name","numbers"]) (1) ([2]) _ _ _ _ gJ.nd Z (ω Z) Z (qo$ jr jL (cC.e Y.m$ ja (pv 0)$ ja (jy$ pv 5) jb) jf (λ_ _=>Z)) Au (λ_ _ _ _ _=>(jw (i:=0) AR Z$ ω Z)) (λ_ _ _ _ _=>(@zM _)) (λ_ _ _ _ _=>(@KY _ _ _ _ _ _ _ _ _ (zY Y) (pv 1) (pv 0) jf #[WP,WP,WP,WP])) WP (by first |exact .inl Z |exact .inr Z) (by intro _;rfl))$ jg$ jo$ ji$ ja jm$ ja (jy$ pv 5)$ ja (jN jP Z m0 PV$ ja (pv 6) jb) jb),?_];let b0:=aK;let⟨wa,sa,ga,ss,wd,u,rfl,W⟩:=CA hw;let R:∀g,aG D H g->am H g:=λg k b xs e=>k b _ (jR e hd (by intro z;cases z)) e;let h2:=hp.sz;let h3:=wv.len;erw[ai λF1 C=>dD λJ j=>(ju W.at' eY #[sa,Z,#[_,aC.of W.sat],j _ _ ?_])];erw[KZ (K:=K) (xs:=ss) (EI D [δ v,↑wa,↑D] O.sets k H) #[_,_,Z,hd,aG.refl] (λi σ g _ h=>?_) ?_ (λσ g h=>C _ _ ?_)]
 .let⟨_,_,_,_,I⟩:=h;exact aC.of$ R _ I _ _ W.sat
 .intro E _ i x σ H1 hx f0 Gq kq h;let⟨o3,o4,rfl,L,I⟩:=h;let⟨s,p,hs,rfl,h0⟩:=W.sets i x hx;let S:=R _ I;let tv:=(wv.sets s$ Og hs).mono S;let g1:GT (dm (O.sets.take i) k):=Jk (H:=H) (ys:=ys) (λs hs=>wv.sets s (OZ hs)) gk;let l1:=Yh (ss:=O.sets.take i) (k:=k);rw[Oh]at l1;erw[kq ?_];refine#[p,_,Z,aC.of$ S _ _ h0,Z,_,_,Z,_,_,Z,Z,?_];refine#[_,Z,_,Z,s.2.1,D,s.2.2,ys,_,Z,.inl tv.1,tv.2.2,tv.2.1,L,g1,_,Z,_,Z,D,_,Z,.inl #[_,.inr s.1,L,Z,WM,Z],f0 _ _ #[_,_,Z,?_,λc o X e=>by rw[jh X];exact I c o X e]];rw[uk hs];exact jc
 .let⟨o3,o4,rfl,L,I⟩:=h;rw[W.len,OH]at L;let S:=R _ I;let g1:GT (dm O.sets k):=Jk (H:=H) (ys:=ys) wv.sets gk;let B:=wv.goal;let a:=W.goal;generalize dm O.sets k=N at L g1 q;erw[ai λF1 C=>(ju (S _ _ W.at') iy$ C _ _ ?_)];let G:=S _ _ W.gat;erw[ai λF1 C=>me λG1 k3 k0=>(ju G eY #[Z,_,Z,?_])];let give:∀(t:η) (T:Tm),wd="give"->u= .ref t->Na K g T t->dI ys T->(∀(u':V) (H9:Hp),aT H9 (aB [aL "give",ar$ T.ev N]) u' []->aG D H H9->Q u' H9)->G1 (decide$ rz wd=rz "give") g:=by intro t T e1 e2 x1 x2 x3;subst e1;subst e2;rw[N4 Z];erw[k3 _$ ju G iy #[_,Z,t,D,T,ys,N,Z,x1,x2.2,x2.1,L,g1,cj,λr nr=>?_]];exact x3 _ _ (jF jc$ jl Z jU$ jl Z jX jC) λc o X e=>je nr _ _ (I c o X e)
  cases hg:O.goal with
  |give t T=>rw[hg]at B a q;exact give t T a.1 a.2 (.inl$ B.1.mono S) B.2 q
  |nought=>rw[hg]at a q;exact give U (.num 0) a.1 a.2 (.inr #[Z,no _]) #[#[WL,WL],WL] q
  |go n=>
   rw[hg]at B a q;let⟨e1,e2⟩:=a;subst e1;subst e2;let hn:n < (b6 U d).length:=by rw[Z7];exact B
   obtain⟨c,hc⟩:∃c,(b6 U d)[n]?=δ c:=#[_,NK hn];let e0:decide (rz "go"=rz "give")=ν:=by decide+kernel
   rw[e0];erw[k0 _$ C _ _ ?_];erw[ai λF1 C=>#[_,Z,ju G iy #[v,n,d,ys,c,Z,hp.mono S,hc,λka na w2 dv w3 ca=>#[ka,_,_,_,Z,Z,aC.of ca.at',eY,na,Z,#[_,aC.of ca.nms],?_]]]];let cl:=N6 (Q8 ca.v.mem) hp.y20;let q:∀(u:V) (g:Hp),aT g (aB [aL "go",ar (n:Int),aB ((eQ U d n).map λx=>ar (look N (.inr x) 0))]) u []->aG D H g->Q u g:=q;rw[wu hc]at q;refine qR (K:=K) (xs:=(canon c.M).map rz) (by rw[NO];omega) (λi zs Hx=>zs=((canon c.M).take i).map (λx=>sn (look N (.inr x) 0))/\Hx=g) #[Z,Z] (λi zs Hx h=>?_) (λi x zs Hx hx h=>?_) (λzs Hx h l nl=>C _ _ ?_)
   .let⟨rfl,rfl⟩:=h;exact#[aC.of ca.nms,by rw[NO,Oh];omega]
   .let⟨rfl,rfl⟩:=h;rw[Od]at hx;let⟨y,hy,rfl⟩:=de.mp hx;refine#[_,Z,D,Z,.inl #[N,.inl L],_,Z,_,gu.k (k:=Sum.inr y) L,?_,Z];rw[K0 g1,OU,hy,Ol];rfl
   .let⟨rfl,rfl⟩:=h;rw[NO,OH];refine(ju (je nl _ _ G) iy #[_,Z,l,_,Z,.inl #[aH.of jc,λtl n0=>#[hZ,λr nr=>?_]]]);erw[q _ _ (jF jc$ jl Z jU$ jl Z jX$ jl Z (jF (aq jc nr) ?_) jC) λc' o X e=>je nr _ _ (je n0 _ _$ je nl _ _$ I c' o X e)];let:=Ko (H:=af (af (af Hx l$ .lst ((canon c.M).map (λx=>sn (look N (.inr x) 0)))) tl$ .tup ((canon c.M).map (λx=>sn (look N (.inr x) 0)))) r (.tup [.str "go",.int (n:Int),.ref tl])) (is:=(canon c.M).map λx=>look N (.inr x) 0);rw[Rm,Rm]at this;exact this
structure nJ(H:Hp)(nA:η)(d:Df)(ys:tz ρ)(v:V)(sa:η)(n:Nat)(hv:η)(uw:V)(c:Ct)(is:tz Int)(wh:Wh)(e:DD)(wd:WD):Prop where
 prt:nH H nA d ys v
 at':H sa=δ (.tup [.int (n:Int),.ref hv,uw])
 cut:(b6 nA d)[n]?=δ c
 hat:H hv=δ (.tup$ is.map sn)
 hl:is.length=(canon c.M).length
 hin:∀i∈is,gZ i
 whv:DN H uw wh
 ed:e.dd=c.d
 dv:CH H ys e
 fit:LB e wh
 way:c.ws[wh.side]?=δ (wd.wy nA)
 wdv:Ac H ys d.b.cuts d.b.size wd
theorem nJ.mono(k:am H a)(h:nJ H N d y v s n b u c i f e g):nJ a N d y v s n b u c i f e g:=
 #[h.prt.mono k,k _ _ h.at',h.cut,k _ _ h.hat,h.hl,h.hin,h.whv.mono k,h.ed,h.dv.mono k,h.fit,h.way,h.wdv.mono k]
def Mw(n:η)(d:Df)(c:Ct)(i:tz Int)(a:Wh)(e:DD)(W:WD):Tr:=wc (eQ n d) (dm W.sets$ uL e a$ bq (canon c.M) i) W.goal
inductive gN(e:η)(g:tz V)(H:Hp)(Q:VK)(a:XK):Prop
 |mk(v:V)(b:η)(d:Df)(h f:tz ρ)(c:tz Int)(w:WD)(_:g=[v,.ref b])(_:nH H e d h v)(_:H d.pa=δ (.tup (f.map rz)))(_:f.length<=100)(_:H b=δ (.tup (c.map sn)))(_:c.length=f.length)(_:∀i∈c,gZ i)(_:w.wy e=(iz e d).1.w)(_:Ac H h d.b.cuts d.b.size w)(_:∀(u:V) (H':Hp),aT H' (wc (eQ e d) (dm w.sets (bq f c)) w.goal) u []->aa H H'->Q u H')
inductive yw(g:η)(j:tz V)(H:Hp)(Q:VK)(a:XK):Prop
 |mk(v i:V)(h b:η)(n:Nat)(d:Df)(m:tz ρ)(c:Ct)(f:tz Int)(l:Wh)(e:DD)(k:WD)(_:j=[v,.ref h])(_:nJ H g d m v h n b i c f l e k)(_:∀(u:V) (H':Hp),aT H' (Mw g d c f l e k) u []->aa H H'->Q u H')
def uU(h:LB e a)(g:GT k):GT (uL e a k):=by
 cases e with
 |st _ l=>cases l<;>cases a<;>first |exact g |exact g.put _ h
 |_=>exact g
def Ap{e:DD}{wh:Wh}{k:bf}:(uL e wh k).length<=k.length+1:=by
 cases e with
 |st _ l=>cases l<;>cases wh<;>first |exact OR _ |exact qk
 |_=>exact OR _
def uo:aj ["part","args"] ["part","args"] (ae iV):=bN
def ZA(F:ti K "first_of" iV f I)(J:‹8› fE L ["part","way","numbers"] (nX T) "end_of")(M:mg "dict"=θ)(b:mg "zip"=θ):⇑9 f I ["part","args"] (gN T):=by
 erw[F.ok uo λR A O s H vs Q E U h=>?_]
 let⟨v,x,d,y,p,is,z,rfl,C,g,V,i,n,r,t,W,q⟩:=h;refine#[_,(jg$ jo$ J.e U.m$ ja (pv 0)$ ja (jy$ pv 0)$ ja (@ZW _ _ _ _ _ _ _ _ Z M Z b Z (ja (jy$ pv 0)$ ja (pv 1) jb) WP WP WP WP) jb),?_];let⟨a,ca,X,cs,rfl,D,G,Y,h0⟩:=C.parts;rw[<- t]at G;refine#[_,Z,_,Z,a,_,_,_,Z,Z,aC.of D,jK (j:=2) Z,ju D iy #[_,Z,d.pa,x,p.map Sum.inr,_,Z,by rw[pS];exact aC.of g,aC.of i,by rw[NO,NO,n],λl N=>?_]];let S:aa H (af H l$ .dK$ bq p is):=je N;let zl:=Z8 (ns:=p) (is:=is);exact#[.ref a,X,l,d,y,z,bq p is,Z,C.mono$ aa.tm S,G.mono$ aa.tm S,W.mono$ aa.tm S,jc,KR r,WM,λu H' tu k=>q u H' tu λc o e=>k c o (jk e N) (S _ _ e)]
def fo:aj ["part","step","cut","numbers","what","way"] ["part","step"] (ae mH):=bN
def tY{f:η}{fd:fJ}{nA fC fD fF fE:η}{f0 f3 f4 f5:fJ}(F:ti K "onward" mH f fd)(cC:‹1› fC f0 ["part","n"] (i7 nA) "cut_at")(cD:‹2› fD f3 z12z (lh nA) "held_at")(cF:‹1› fF f4 ["what"] fu "found_in")(cE:‹8› fE f5 ["part","way","numbers"] (nX nA) "end_of"):⇑9 f fd ["part","step"] (yw nA):=by
 erw[F.ok fo λc0 A o2 s H vs Q E hr h=>?_]
 let⟨v,L,Y,hv,n,d,ys,c,is,wh,e,wd,rfl,C,q⟩:=h;refine#[_,(jd (jA 2 fo.nd$ cC.e hr.m$ ja (pv 0)$ ja (jy$ pv 1) jb)$ jd (jA 3 fo.nd$ cD.e hr.m$ ja (pv 0)$ ja (jy$ pv 1)$ ja (jy$ pv 1) jb)$ jd (jA 4 fo.nd$ jy$ pv 1)$ jd (jz (jD zF (jy$ pv 4) (ji$ ja jm$ ja jm jb) Z) (jg$ Jh (zY hr) (pv 3) (jy$ jr jL (pv 2) jf (λ_ _=>Z)) (cF.e hr.m$ ja (pv 4) jb) Z) jp)$ jd (jA 5 fo.nd$ kU (jD (Fs$ zY hr) (pv 4) (ji$ ja jm$ ja jf jb)$ aI _) (jy$ jr jL (pv 2) jf (λ_ _=>Z))$ jy$ jr jL (pv 2) jf (λ_ _=>Z))$ jg$ jo$ cE.e hr.m$ ja (pv 0)$ ja (pv 5)$ ja (pv 3) jb),?_];let b0:=aK;let⟨a,ca,wv,cs,rfl,ha,hw,a0,a1⟩:=C.prt.parts;let h0:=C.at';erw[ai λF1 J=>#[_,Z,ju h0 eY #[_,n,d,ys,c,Z,C.prt,C.cut,λka na wa dv w0 cu=>J _ _ ?_]]];erw[ai λF1 J=>#[_,Z,ju h0 eY$ ju h0 iy #[_,n,hv,d,ys,c,is,Z,C.prt,C.cut,C.hat,C.hl,λD n0=>J _ _ ?_]]];let s1:aa H (af H D$ .dK$ bq (canon c.M) is):=je n0;let d1:af H D (.dK$ bq (canon c.M) is) D=δ (.dK$ bq (canon c.M) is):=jc;generalize af H D (.dK$ bq (canon c.M) is)=H1 at s1 d1;let O:=C.mono (aa.tm s1);let g0:GT (bq (canon c.M) is):=KR C.hin;let z0:=Z8 (ns:=canon c.M) (is:=is);let z1:=Q8 cu.v.mem;let z2:=C.prt.y20;generalize h7:bq (canon c.M) is=k0 at d1 g0 z0;erw[ai λF1 J=>#[_,Z,Y,_,_,_,Z,Z,aC.of O.at',jK (j:=2) Z,J _ _ ?_]];let o1:Mw nA d c is wh e wd=wc (eQ nA d) (dm wd.sets$ uL e wh k0) wd.goal:=by unfold Mw;rw[h7]
 rw[o1]at q;let h1:=zq cu.ways;rw[NO]at h1;let G:∃x,w0[wh.side]?=δ x/\aT H (iF$ wd.wy nA) x []:=by
  let hj:wh.side < w0.length:=by rw[h1];exact(ξ.mp C.way).1
  let⟨tr,ht,tx⟩:=qZ cu.ways wh.side _ (NK hj);rw[Od,C.way]at ht;cases ht;exact#[_,NK hj,tx]
 let⟨wx,G,t0⟩:=G;let h4:=cu.at';let h8:=cu.wat;erw[ai λF1 J=>?_];let r0:∀(H3:Hp),H3 D=δ (.dK$ uL e wh k0)->aG D H1 H3->F1 [↑a,↑Y,↑ka,↑D,δ L,θ] H3:=by
  intro H3 h3 k3;erw[J _ _ ?_];let s3:aa H H3:=λc o x=>k3 c o (jk x n0) (s1 _ _ x);let l3:=Ap (e:=e) (wh:=wh) (k:=k0);erw[ai λF2 f2=>?_];let f6:∀H4,aa H3 H4->F2 [↑a,↑Y,↑ka,↑D,δ L,δ wx] H4:=λH4 s4=>f2 _ _ (by
   let S:=s3.trans s4;exact#[_,Z,_,Z,_,Z,.ref a,wx,D,d,ys,wd,_,Z,C.prt.mono$ aa.tm S,t0.mono$ aa.tm S,C.wdv.mono$ aa.tm S,s4 _ _ h3,uU C.fit g0,WM,λu R tu k=>q u R tu λc o x=>k c o (jk x n0) (S _ _ x)])
  let wk:=C.whv.mono (aa.tm s3);let eO:∀(H4:Hp) (j:Nat),aa H3 H4->w0[j]?=δ wx->eV (cR K) (eV (cR K) (a9 2)$ tC$ .int 2) (tC$ .int (j:Int)) [↑a,↑Y,↑ka,↑D,δ L,θ] H4 λx H5=>F2 ([↑a,↑Y,↑ka,↑D,δ L,θ].set 5 (δ x)) H5:=λH4 j s4 hj=>
   #[_,Z,ka,_,_,_,Z,Z,aC.of ((s3.trans s4) _ _ h4),jK (j:=2) Z,wa,_,_,_,Z,Z,aC.of ((s3.trans s4) _ _ h8),jK hj,f6 H4 s4]
  cases wh with
  |rd a' i |wr a' b=>let⟨p,rfl,B⟩:=wk;exact#[_,Z,cj,λt N=>#[p,t,_,_,Z,Z,aC.of$ je N _ _ B,aC.of jc,.inl #[Z,Z,_,Z,aY (by unfold vv;exact Tg _)$ eO _ 0 (je N) G]]]
  |ask b=>
   let⟨p,rfl,B⟩:=wk;let hb:b=0∨b=1:=by
    let:=C.fit;cases e with
    |st p l=>cases l<;>exact this.elim
    |ask t T=>exact this
   rcases hb with rfl |rfl
   .exact#[_,Z,cj,λt N=>#[p,t,_,_,Z,Z,aC.of$ je N _ _ B,aC.of jc,.inl #[Z,Z,_,Z,c8 WO$ eO _ 1 (je N) G]]]
   .exact#[_,Z,cj,λt N=>#[p,t,_,_,Z,Z,aC.of$ je N _ _ B,aC.of jc,.inl #[Z,Z,_,Z,aY WO$ eO _ 0 (je N) G]]]
  |cl f' i0 i=>let⟨p,c',g,e',rfl,B,h',_⟩:=wk;exact#[_,Z,cj,λt N=>#[p,t,_,_,Z,Z,aC.of$ je N _ _ B,aC.of jc,.inr #[_,c',_,_,_,Z,aC.of$ je N _ _ h',Z,_,Z,aY Z$ eO _ 0 (je N) G]]]
 let wk:=O.whv;let dk:=O.dv;let fk:=O.fit;let h5:=s1 _ _ h4;let d0:=cu.deed;rw[<- C.ed]at d0;let skip:∀(p:η) (W:ρ) (r:tz V),L= .ref p->H1 p=δ (.tup (.str W::r))->pQ (.str W) [.str "read",.str "call"]=ν->uL e wh k0=k0->gX (l7$ eV (IQ K ν) (eV (cR K) (a9 4)$ tC$ .int 0)$ cp$ ap (tC$ .str "read")$ ap (tC$ .str "call") aS) (xC (a9 3) (eV (cR K) (eV (cR K) (a9 2)$ tC$ .int 1)$ tC$ .int 1)$ eU fu [] E0$ ap (a9 4) aS) yI { nx:=F1,rt:=Q } [↑a,↑Y,↑ka,↑D,δ L,θ] H1:=by intro p W r I B e2 e3;subst I;erw[me λG1 k1 k2=>(ju B eY #[cj,λt N=>#[t,_,Z,.inr$ aC.of jc,Z,Z,_,Z,?_]])];show G1 (pQ (.str W) [.str "read",.str "call"]) _;rw[e2];exact k2 _$ r0 _ (by rw[e3];exact aq d1 N) λc o _ x=>je N _ _ x
 let p0:∀(p p':η) (W:ρ) (r:tz V) (i:Int) (x:ρ) (y:V) (r':tz V),L= .ref p->H1 p=δ (.tup (.str W::r))->pQ (.str W) [.str "read",.str "call"]=μ->dv= .ref p'->H1 p'=δ (.tup (y:: .str x::r'))->(∀R:Hp,aa H1 R->DN R L wh)->(∀(Q':VK) (R:Hp),Q' (.int i) R->vI Q' R wh)->uL e wh k0=bj k0 (.inr x) (.int i)->gX (l7$ eV (IQ K ν) (eV (cR K) (a9 4)$ tC$ .int 0)$ cp$ ap (tC$ .str "read")$ ap (tC$ .str "call") aS) (xC (a9 3) (eV (cR K) (eV (cR K) (a9 2)$ tC$ .int 1)$ tC$ .int 1)$ eU fu [] E0$ ap (a9 4) aS) yI { nx:=F1,rt:=Q } [↑a,↑Y,↑ka,↑D,δ L,θ] H1:=by intro p p' W r i x y r' I B e2 e4 X e5 e6 e3;subst I;subst e4;erw[me λG1 k1 k2=>(ju B eY #[cj,λt N=>#[t,_,Z,.inr$ aC.of jc,Z,Z,_,Z,?_]])];show G1 (pQ (.str W) [.str "read",.str "call"]) _;rw[e2];erw[k1 _ #[_,Z,.ref p,wh,Z,e5 _$ je N,e6 _ _ ?_]];exact#[_,Z,ju (je N _ _ h5) iy #[p',_,_,_,Z,Z,aC.of$ je N _ _ X,iy,D,_,Z,.inl #[k0,.inr x,aq d1 N,Z,WM,Z],r0 _ (by rw[e3];exact jc) λc o nc z=>by rw[jh nc];exact je N _ _ z]]
 cases e with
 |ask t T=>
  cases wh with
  |ask b=>let⟨p,I,B⟩:=wk;exact skip p _ _ I B WO Z
  |_=>exact fk.elim
 |st p' l=>
  let⟨vs,X,h6,_⟩:=dk;let ed:dv= .ref p':=d0.1;cases l with
  |rd x t T=>
   cases wh with
   |rd b i=>let⟨p,I,B⟩:=wk;let⟨rfl,_⟩:=h6;exact p0 p p' _ _ i x _ _ I B WO ed X (λR s'=>#[p,I,s' _ _ B]) (λ_ _ h=>h) Z
   |_=>exact fk.elim
  |wr t u T U=>
   cases wh with
   |wr b i=>let⟨p,I,B⟩:=wk;exact skip p _ _ I B WO Z
   |_=>exact fk.elim
  |cl x f' q' ts=>
   cases wh with
   |cl f2 i1 i=>let⟨p,c2,g2,e2,I,B,h2,h3⟩:=wk;let⟨rfl,_⟩:=h6;exact p0 p p' _ _ i x _ _ I B WO ed X (λR s'=>#[p,c2,g2,e2,I,s' _ _ B,s' _ _ h2,s' _ _ h3]) (λ_ _ h=>h) Z
   |_=>exact fk.elim
  |st x t T |gv t T=>cases wh<;>exact fk.elim
noncomputable abbrev iM:cc:=bQ 25
noncomputable abbrev mv:cc:=bQ 26
noncomputable def HV(k:bf):DD->Tr
 | .st _ (.rd _ _ T)=>aB [aL "read",ar (T.ev k)]
 | .st _ (.wr _ _ T U)=>aB [aL "write",ar (T.ev k),ar (U.ev k)]
 | .st _ (.cl _ f _ t)=>aB [aL "call",aL f,aB (t.map λc=>ar (c.2.ev k))]
 | .ask _ T=>aB [aL "ask",ar (if T.ev k=0 then 0 else 1)]
 |_=>.nil
inductive gM(g:η)(h:tz V)(H:Hp)(Q:VK)(a:XK):Prop
 |mk(v:V)(n:Nat)(b:η)(d:Df)(j:tz ρ)(c:Ct)(f:tz Int)(e:DD)(_:h=[v,.int (n:Int),.ref b])(_:nH H g d j v)(_:(b6 g d)[n]?=δ c)(_:H b=δ (.tup (f.map sn)))(_:f.length=(canon c.M).length)(_:∀i∈f,gZ i)(_:e.dd=c.d)(_:CH H j e)(_:∀(u:V) (H':Hp),aT H' (HV (bq (canon c.M) f) e) u []->aa H H'->Q u H')
inductive gV(f:tz V)(H:Hp)(Q:VK)(b:XK):Prop
 |mk(a d:η)(e:tz (η×Tm))(g:tz ρ)(k:bf)(_:f=[.ref a,.ref d])(_:H a=δ (.tup (e.map λc=>tf c.1)))(_:e.length<=6)(_:∀c∈e,bG H c.2 c.1/\dI g c.2)(_:H d=δ (.dK k))(_:GT k)(_:∀(r:η) (H':Hp),H' r=δ (.tup (e.map λc=>sn (c.2.ev k)))->aa H H'->Q (.ref r) H')
def yk:aj ["terms","numbers"] ["terms","numbers"] (ae iM):=bN
noncomputable def ZB:hY:=#[.function,[(".0",.local),("term",.local),("worth",.globalImplicit),("numbers",.free)],ν,ν,[]]
def AS:(["term","numbers"]:tz ρ).Nodup:=by decide+kernel
def Av:ba ["terms","numbers"] (ae iM) ZB ["term","numbers"] 1 [1]:=oM
def ua(F:ti K "worths" iM f v)(C:‹7› U B z9z (db K 6) "worth")(M:mg "tuple"=θ):⇑8 f v ["terms","numbers"] gV:=by
 erw[F.ok yk λG A o s H R Q E I h=>?_]
 let⟨a,D,t,g,k,rfl,p,W,b,J,L,q⟩:=h;refine#[_,(jg$ jo$ jN jP Z M PV$ ja (@zp _ _ _ _ _ _ _ (["term","numbers"]) (1) ([1]) _ _ _ _ Z (qo$ pv 0) Av (λ_ _ _ _ _=>(jw (i:=0) AS Z$ ω Z)) (λ_ _ _ _ _=>(@zM _)) (λ_ _ _ _ _=>(C.e I.m$ ja (pv 0)$ ja (pv 1) jb)) (by intro _;rfl)) jb),?_];let N:=aK;refine#[_,Z,a,Z,#[_,aC.of p],?_];refine qR (K:=K) (xs:=t.map λc=>tf c.1) (by rw[NO];omega) (λi z d=>z=(t.take i).map (λc=>sn (c.2.ev k))/\d=H) #[Z,Z] (λi z d h=>?_) (λi x z d r h=>?_) (λz d h l O=>?_)
 .let⟨rfl,rfl⟩:=h;exact#[aC.of p,by rw[NO,Oh];omega]
 .let⟨rfl,rfl⟩:=h;rw[Od]at r;let⟨y,u,rfl⟩:=de.mp r;let Y:=Og u;refine#[_,Z,_,Z,y.1,D,y.2,g,k,Z,.inl (b y Y).1,(b y Y).2.2,(b y Y).2.1,J,L,?_,Z];rw[OU,u,Ol];rfl
 .let⟨rfl,rfl⟩:=h;rw[NO,OH];exact#[l,_,Z,.inl #[aH.of jc,λT n=>q T _ jc ((je O).trans$ je n)]]
def gI:aj ["part","n","held","numbers","deed","word"] z12z (ae mv):=bN
def tP(F:ti K "deed_at" mv f fd)(cH:‹2› fH f0 z12z (lh nA) "held_at")(cC:‹1› fC f2 ["part","n"] (i7 nA) "cut_at")(cW:‹7› fW f3 z9z (db K 6) "worth")(cS:‹8› fS f4 ["terms","numbers"] gV "worths"):⇑9 f fd z12z (gM nA):=by
 erw[F.ok gI λc0 A o1 s H vs Q E L h=>?_]
 let⟨v,n,hv,d,Y,c,is,e,rfl,hp,hc,hh,hl,h0,h1,h2,q⟩:=h;refine#[_,(jd (jA 3 gI.nd$ cH.e L.m$ ja (pv 0)$ ja (pv 1)$ ja (pv 2) jb)$ jd (jA 4 gI.nd$ jr jL (cC.e L.m$ ja (pv 0)$ ja (pv 1) jb) jf (λ_ _=>Z))$ jd (jA 5 gI.nd$ jy$ pv 4)$ jd (jz (kh$ pv 5) (jg$ jo$ ji$ ja (pv 5)$ ja (kU (jD qh (cW.e L.m$ ja (jy$ pv 4)$ ja (pv 3) jb) jf$ aI _) jf jf) jb) jp)$ jd (jz (kh$ pv 5) (jg$ jo$ ji$ ja (pv 5)$ ja (jy$ pv 4)$ ja (cS.e L.m$ ja (jy$ pv 4)$ ja (pv 3) jb) jb) jp)$ jd (jz (kh$ pv 5) (jg$ jo$ ji$ ja (pv 5)$ ja (cW.e L.m$ ja (jy$ pv 4)$ ja (pv 3) jb) jb) jp)$ jg$ jo$ jx jV (ji$ ja (pv 5) jb)$ cS.e L.m$ ja (jJ j8 (pv 4) (jI jf) jT)$ ja (pv 3) jb),?_];let b0:=aK;let⟨a,ca,p0,cs,rfl,ha,_,h7,h8⟩:=hp.parts;erw[ai λi b=>#[_,Z,_,Z,_,Z,.ref a,n,hv,d,Y,c,is,Z,hp,hc,hh,hl,λC n0=>b _ _ ?_]];let S:aa H (af H C$ .dK$ bq (canon c.M) is):=je n0;let O:af H C (.dK$ bq (canon c.M) is) C=δ (.dK$ bq (canon c.M) is):=jc;show dH _ _ _ _ (af H C$ .dK$ bq (canon c.M) is);generalize af H C (.dK$ bq (canon c.M) is)=H1 at S O;let V:GT (bq (canon c.M) is):=KR h0;generalize bq (canon c.M) is=k at O V q;let dk:=h2.mono (aa.tm S);erw[ai λi b=>#[_,Z,_,Z,.ref a,n,d,Y,c,Z,hp.mono$ aa.tm S,hc,λka na wa dv w0 cu=>#[ka,_,_,_,Z,Z,aC.of cu.at',iy,b _ _ ?_]]];let D:=cu.deed;rw[<- h1]at D;cases e with
 |ask t T=>
  obtain⟨_,p,xs,rfl,g,_,_,y0,z0,rfl,⟨rfl,_⟩,_,_,y1,z1,rfl,⟨rfl,_⟩,e⟩:=D;let e:z1=[]:=e;subst e;erw[ai λi b=>(ju g eY$ b _ _ ?_)];erw[ai λi b=>#[_,Z,Z,_,Z,c8 WO #[_,Z,ju g iy #[_,Z,t,C,T,Y,k,Z,.inl dk.1,dk.2.2,dk.2.1,O,V,Z,_,Z,?_]]]];by_cases z:T.ev k=0
  .refine c8 (by rw[z];decide+kernel) #[cj,λr G=>q _ _ (jF jc$ jl Z jU$ jl Z #[?_,Z] jC) (S.trans$ je G)];rw[N0 z]
  .refine aY (by rw[NW];intro e;injection e with e;exact z e) #[cj,λr G=>q _ _ (jF jc$ jl Z jU$ jl Z #[?_,Z] jC) (S.trans$ je G)];rw[N7 z]
 |st p l=>
  let ed:dv= .ref p:=D.1;subst ed;let⟨vs,g,I,B,h3⟩:=dk;cases l with
  |rd x t T=>let⟨rfl,ht⟩:=I;erw[ai λi b=>(ju g eY$ b _ _ ?_)];erw[ai λi b=>#[_,Z,Z,_,Z,aY WO$ b _ _ ?_]];erw[ai λi b=>#[_,Z,Z,_,Z,aY WO$ b _ _ ?_]];erw[ai λi b=>#[_,Z,Z,_,Z,c8 WO #[_,Z,_,Z,p,_,_,_,Z,Z,aC.of g,jK (j:=2) Z,_,Z,t,C,T,Y,k,Z,.inl ht,B.2.2,B.2.1,O,V,cj,λr G=>?_]]];exact q _ _ (jF jc$ jl Z jU$ jl Z jX jC)$ S.trans$ je G
  |wr t u T U=>
   let⟨rfl,ht,hu⟩:=I;erw[ai λi b=>(ju g eY$ b _ _ ?_)];erw[ai λi b=>#[_,Z,Z,_,Z,aY WO$ b _ _ ?_]];erw[ai λi b=>#[_,Z,Z,_,Z,aY WO$ b _ _ ?_]];erw[ai λi b=>#[_,Z,Z,_,Z,aY WO$ b _ _ ?_]];refine#[_,Z,iQ,λr1 N=>#[_,Z,1,Z,p,_,Z,je N _ _ g,λr2 H2 J R=>#[_,Z,r2,C,[(t,T),(u,U)],Y,k,Z,J,(by show 2<=6;decide),?_,R _ _$ je N _ _ O,V,λr3 H3 h4 s3=>#[r1,r3,_,_,Z,Z,s3 _ _$ R _ _ jc,h4,hZ,λr4 H4 h5 s4=>?_]]]]
   .intro y W;let X:=(je (o:=.tup [.str "write"]) N).trans R;simp only[P6,Ov,SX]at W;rcases W with rfl |rfl
    .exact#[ht.same X,B.1]
    .exact#[hu.same X,B.2]
   .exact q _ _ (jF h5$ jl Z jU$ jl Z jX$ jl Z jX jC)$ S.trans ((je N).trans$ R.trans$ s3.trans s4)
  |cl x f' qa ts=>let⟨rfl,hq,h6⟩:=I;erw[ai λi b=>(ju g eY$ b _ _ ?_)];erw[ai λi b=>#[_,Z,Z,_,Z,aY WO$ b _ _ ?_]];let l6:ts.length<=6:=B.2.1;erw[ai λi b=>#[_,Z,Z,_,Z,c8 WO #[_,Z,_,Z,p,_,_,_,Z,Z,aC.of g,jK (j:=2) Z,_,Z,p,_,_,_,Z,Z,aC.of g,jK (j:=3) Z,_,Z,qa,C,ts,Y,k,Z,hq,l6,λy W=>#[h6 y W,B.2.2 y W],O,V,λr2 H2 J R=>#[hZ,λr G=>?_]]]];erw[q _ _ (jF jc$ jl Z jU$ jl Z jU$ jl Z (jF (aq J G) ?_) jC)$ S.trans$ R.trans$ je G];let:=Ko (H:=af H2 r (.tup [.str "call",.str f',.ref r2])) (is:=ts.map λc=>c.2.ev k);rw[Rm,Rm]at this;exact this
  |st x t T |gv t T=>cases h3
noncomputable abbrev mE:cc:=bQ 17
noncomputable abbrev oR:cc:=bQ 18
noncomputable abbrev mw:cc:=bQ 19
abbrev xS:cc:=bK (bQ 20) 0
abbrev oZ:cc:=bK (bQ 20) 1
abbrev xT:cc:=bK (bQ 20) 2
noncomputable abbrev mJ:cc:=bQ 22
def GV(H:Hp)(x:V)(g:ρ):Prop:=∃p r,x= .ref p/\H p=δ (.tup (.str g::r))
inductive ni(c:tz V)(H:Hp)(Q:VK)(b:XK):Prop
 |mk(a:η)(f:ρ)(d:tz V)(i:Nat)(v:V)(_:c=[.ref a,.str f])(_:H a=δ (.tup d))(_:d[i]?=δ v)(_:GV H v f)(_:∀j x,j < i->d[j]?=δ x->∃g,GV H x g/\g≠f)(_:Q v H)
inductive iO(e:tz V)(H:Hp)(Q:VK)(b:XK):Prop
 |mk(a g:η)(f:ρ)(h k:tz V)(i:Nat)(v:V)(p c:η)(r d:tz V)(_:e=[.ref a,.str f,.ref g])(_:H a=δ (.tup h))(_:h[i]?=δ v)(_:v= .ref p)(_:H p=δ (.tup (.str f:: .ref c::r)))(_:H c=δ (.tup d))(_:H g=δ (.tup k))(_:k.length=d.length)(_:∀j x,j < i->h[j]?=δ x->∃g,GV H x g/\g≠f)(_:Q v H)
noncomputable def iR(c l p:η)(m:Int)(t:Nat):tz (ρ×V):=[("cells",.ref c),("most",.int m),("left",.ref l),("turns",.int (t:Int)),("parts",.ref p)]
structure Rn(H:Hp)(C r dx cA lA pA:η)(m:Int)(t:Nat)(L Cs:bf):Prop where
 ins:H r=δ (.ins C dx$ iR cA lA pA m t)
 lf:H lA=δ (.dK L)
 ce:H cA=δ (.dK Cs)
 iL:GT L
 iC:GT Cs
 cl:cA≠lA
structure RK(K:β)(C:η):Prop where
 cl:pw K C
 n1:be K C "cells"
 n2:be K C "most"
 n3:be K C "left"
 n4:be K C "turns"
 n5:be K C "parts"
inductive gQ(C:η)(h:tz V)(H:Hp)(Q:VK)(a:XK):Prop
 |mk(r e d f g:η)(m c:Int)(t:Nat)(L b:bf)(_:h=[.ref r,.int c])(_:Rn H C r e d f g m t L b)(_:Q (.int (look L (.inl c) (look b (.inl c) 0))) H)
inductive ny(C:η)(d:tz V)(H:Hp)(Q:VK)(a:XK):Prop
 |mk(r c b:η)(m:Int)(_:d=[.ref r,.ref b,.int m])(_:H r=δ (.ins C c []))(_:∀lA,H lA=θ->Q .non (af (af H lA (.dK [])) r (.ins C c [("cells",.ref b),("most",.int m),("left",.ref lA),("turns",.int 0)])))
structure XM(K:β)(mg:ρ->tT ζ)(x:ρ)(L:η):Prop where
 ex:excIn K L su "ValueError.__new__"=μ
 kp:iu K (.ref L)=μ
 xc:uT K L
 ty:typeIn K (.ref L)=δ (.type "type")
 m:mg x=↑L
def NX(o:HO):Prop:=∀a,o≠ .ext a
def Kp(H h:Hp):Prop:=∀b o,NX o->H b=δ o->h b=δ o
def Kp.of_same(s:aa H h):Kp H h:=λb o _ e=>s _ _ e
def Kp.trans(a:Kp H h)(b:Kp h d):Kp H d:=λc o n e=>b c o n (a c o n e)
def pU(E:XK):XK:=λC d H=>∀x T t c,C= .ref c->H x=δ (iE c d T x)->H T=δ (g9 T)->H t=θ->E (.ref c) d (af (af H t$ g9 t) x$ iE c d t x)
def qm{P:ψ}{w:bF}{K:β}{mg:ρ->tT ζ}{base:cJ}:dC (gr P w) (gA (gr P w) P w K mg base N q s f g A o a H E) (pU E):=
 Bo λx C d T t i b c e h=>h x T t C Z b c e
def Kq{H h:Hp}(e:h b=δ o)(n:NX o)(a:h x=δ (iE C d T x))(c:h t=θ):af (af h t$ g9 t) x (iE C d t x) b=δ o:=by
 let N:b≠x:=λz=>by rw[z,a]at e;injection e with e;exact n _ e.symm
 rwa[jh N,jh$ jk e c]
def Fl(E:XK)(L:η)(R:Hp->Prop):Prop:=∀(_:Unit) H,R H->E (.ref L) θ H
inductive lE(C L:η)(e:tz V)(H:Hp)(Q:VK)(E:XK):Prop
 |mk(r b a c d:η)(m:Int)(t:Nat)(_:e=[.ref r])(_:H r=δ (.ins C b (iR a c d m t)))(_:(t:Int) < m->Q .non (af H r (.ins C b (iR a c d m (t+1)))))(_:m<=(t:Int)->Fl E L (Kp H))
inductive fq(D:η)(a:tz V)(H:Hp)(Q:VK)(E:XK):Prop
 |mk(d:Int)(_:a=[.int d])(_:d < 15->Q (.int (d+1)) H)(_:15<=d->Fl E D (Kp H))
def Yj{H:Hp}(a:H x=θ)(N:af H x (CN L θ x) T=θ):aa H (af (af (af H x$ CN L θ x) T$ g9 T) x$ iE L d T x):=by intro b o e;let n:b≠x:=jk e a;rw[jh n,jh (λz=>by rw[<- z,jh n,e]at N;cases N),jh n];exact e
def nU:aj ["ones","f","one"] ["ones","f"] (ae mE):=bN
def tW(F:ti K "named" mE f D):⇑1 f D ["ones","f"] ni:=by
 erw[F.ok nU λG A o s H W Q E X h=>?_]
 let⟨a,f,xs,i,v,rfl,t,u,L,d,q⟩:=h;refine#[_,(jd (j6 Ot Z (qo$ pv 0) (jw (i:=2) nU.nd Z$ ω Z)$ jg$ jz (jD qh (jy$ pv 2) (pv 1)$ aI _) (jg$ jo$ pv 2) jp)$ @xj _ _),?_];let M:i < xs.length:=(ξ.mp u).1;erw[ai λY f1=>dD λJ j=>#[_,Z,a,Z,#[_,aC.of t],j _ _ ?_]];refine KZ (K:=K) (xs:=xs) (λk c e=>(∃O,c=[↑a,δ$ .str f,O])/\e=H/\k<=i) #[#[_,Z],Z,NY _] (λk c e _ h=>by rw[h.2.1];exact aC.of t) ?_ (λc e h=>?_)
 .intro l R k x c H2 m N I b h;obtain⟨⟨O,rfl⟩,rfl,y⟩:=h;erw[b ?_];by_cases S:k=i
  .subst S;rw[u]at m;cases m;let⟨p,r,rfl,n⟩:=id L;show gX _ _ _ l _ _;erw[me λT B C=>(ju n eY #[_,Z,Z,_,Z,?_])];rw[N4 (Z:rz f=rz f)];erw[B _ ?_];show gY _ l _ _;unfold gY;rw[R];exact#[_,Z,q]
  .obtain⟨g,⟨p,r,rfl,n⟩,U⟩:=d k x WM m;show gX _ _ _ l _ _;erw[me λT B C=>(ju n eY #[_,Z,Z,_,Z,?_])];rw[NW (λz=>U (by injection z))];exact C _$ N _ _ #[#[_,Z],Z,WM]
 .let⟨_,_,y⟩:=h;exact absurd y WM
def yh:aj ["parts","f"] ["parts","f"] (ae mJ):=bN
def t9(F:ti K "part_of" mJ f c)(C:‹1› r d ["ones","f"] ni "named"):⇑2 f c ["parts","f"] ni:=by
 erw[F.ok yh λg A o s H V Q E j h=>?_]
 let⟨a,f,x,i,v,rfl,l,n,p,b,q⟩:=h;refine#[_,(jg$ jo$ C.e j.m$ ja (pv 0)$ ja (pv 1) jb),?_];exact#[_,Z,_,Z,a,f,x,i,v,Z,l,n,p,b,q]
def rC:aj ["ones","f","args","one"] ["ones","f","args"] (ae oR):=bN
def wA(F:ti K "begun" oR f j)(C:‹1› N l ["ones","f"] ni "named")(M:mg "len"=θ):⇑2 f j ["ones","f","args"] iO:=by
 erw[F.ok rC λn A o s H V Q E t h=>?_]
 let⟨a,g,f,x,y,i,v,p,c,r,u,rfl,z,B,rfl,d,D,G,I,J,q⟩:=h;refine#[_,(jd (jA 3 rC.nd$ C.e t.m$ ja (pv 0)$ ja (pv 1) jb)$ jd (jz (jD ZE (jM jG Z M OD$ ja (pv 2) jb) (jM jG Z M OD$ ja (jy$ pv 3) jb)$ aI _) (@xj _ _) jp)$ jg$ jo$ pv 3),?_];erw[ai λL b=>#[_,Z,_,Z,a,f,x,i,.ref p,Z,z,B,#[p,_,Z,d],J,b _ _ ?_]];refine ai λL b=>#[_,Z,g,_,Z,.inr$ aC.of G,ju d iy #[c,_,Z,.inr$ aC.of D,Z,_,Z,aY (by rw[I];simp)$ b _ _ #[_,Z,q]]]
def xX:aj ["deep"] ["deep"] (ae mw):=bN
def tQ(F:ti K "deeper" mw f a)(M:mg "DEEPEST"=δ (.int 15 t))(X:XM K mg "TooDeep" D):ah P w K mg base (gr P w) 1 f a ["deep"] (fq D):=by
 erw[F.ok1 xX λC A o s H V Q E g h=>?_]
 let⟨d,rfl,q,e⟩:=h;refine#[_,(jd (jz (jD wQ (pv 0) (Jf (v:=.int 15) Z M #[t,Z])$ aI _) (jg$ @X6 _ _ _ _ _ Z Q0$ @QX _ _ _ _ _ X.ex X.kp Z X.m WL) jp)$ jg$ jo$ jx jW (pv 0) jf),?_];erw[ai λi b=>#[_,Z,_,_,Z,Z,_,Z,?_]];by_cases c:(15:Int)<=d
 .refine c8 (N4 c) λx n=>?_;exact#[x,D,θ,Z,jc,X.xc,X.ty,λT N=>e c () _ (Kp.of_same$ Yj n N)]
 .exact aY (NW c)$ b _ _ #[_,Z,_,_,Z,Z,q WM]
def Gm:aj z25z z25z (ae xS):=bN
def Bj(F:aO K "__init__" "Turns.__init__" xS f v)(c:RK K C):⇑1 f v z25z (ny C):=by
 erw[F.ok Gm λx A o s H V Q E B h=>?_]
 let⟨r,D,y,m,rfl,g,q⟩:=h;refine#[_,(jd (@zL _ _ _ _ _ _ _ _ (pv 0) (pv 1) Z)$ jd (@zL _ _ _ _ _ _ _ _ (pv 0) (pv 2) Z)$ jd (@zL _ _ _ _ _ _ _ _ (pv 0) X5 Z)$ jg$ @zL _ _ _ _ _ _ _ _ (pv 0) jf Z),?_];erw[ai λj a=>#[_,Z,_,Z,r,C,D,_,Z,g,c.cl,c.n1,WL,a _ _ ?_]];refine ai λj a=>#[_,Z,_,Z,r,C,D,_,Z,jc,c.cl,c.n2,(by show 1 < 1000;decide),a _ _ ?_];refine ai λj a=>λl n=>#[_,Z,r,C,D,_,Z,aq jc n,c.cl,c.n3,(by show 2 < 1000;decide),a _ _ ?_];refine#[_,Z,r,C,D,_,Z,jc,c.cl,c.n4,(by show 3 < 1000;decide),?_];let N:l≠r:=λe=>by rw[e,jc]at n;cases n
 let z:H l=θ:=by rw[jh N,jh N]at n;exact n
 let e:∀p t u O:HO,af (af (af (af (af H r p) r t) l$ .dK []) r u) r O=af (af H l$ .dK []) r O:=λp t u O=>by
  funext b;by_cases d:b=r
  .rw[d,jc,jc]
  .rw[jh d,jh d,jh d];by_cases i:b=l
   .rw[i,jc,jc]
   .rw[jh i,jh d,jh d,jh i]
 rw[e];exact q l z
def BZ:aj ["self"] ["self"] (ae oZ):=bN
def wK(F:aO K "take_turn" "Turns.take_turn" oZ f g)(b:RK K C)(X:XM K mg "TooLong" L):ah P w K mg base (gr P w) 1 f g ["self"] (lE C L):=by
 erw[F.ok1 BZ λi A o s H v Q E y h=>?_]
 let⟨r,d,j,l,p,m,t,rfl,a,q,e⟩:=h;refine#[_,(jd (jz (jD wQ (ke (pv 0) Z) (ke (pv 0) Z)$ aI _) (jg$ @X6 _ _ _ _ _ Z Q0$ @QX _ _ _ _ _ X.ex X.kp Z X.m WL) jp)$ jg$ @ui _ _ _ _ _ _ _ _ _ _ (pv 0) jf Eh),?_];erw[ai λz n=>#[_,Z,r,C,d,_,_,Z,a,b.cl,b.n4,Z,_,Z,r,C,d,_,_,Z,a,b.cl,b.n2,Z,_,_,Z,Z,_,Z,?_]];by_cases c:m<=(t:Int)
 .refine c8 (N4 c) λx N=>?_;exact#[x,L,θ,Z,jc,X.xc,X.ty,λT u=>e c () _ (Kp.of_same$ Yj N u)]
 .exact aY (NW c)$ n _ _ #[_,Z,r,C,d,_,_,Z,a,b.cl,b.n4,Z,_,_,Z,Z,d,_,a,(by show 5 < 1000;decide),q WM]
def Gn:aj ["self","cell"] ["self","cell"] (ae xT):=bN
def Bk(F:aO K "number_in" "Turns.number_in" xT f p)(b:RK K C):⇑1 f p ["self","cell"] (gQ C):=by
 erw[F.ok Gn λu A o s H V Q E g h=>?_]
 let⟨r,d,i,l,x,m,c,t,L,j,rfl,a,q⟩:=h;refine#[_,(jg$ jo$ kU (KH$ @Fy _ _ _ _ _ (zY g) (pv 1)$ ke (pv 0) Z) (Bq (zY g) (ke (pv 0) Z) (pv 1) (λ_ _=>Z))$ @KY _ _ _ _ _ _ _ _ _ (zY g) (ke (pv 0) Z) (pv 1) jf #[WP,WP,WP,WP]),?_];refine#[_,Z,_,Z,r,C,d,_,_,Z,a.ins,b.cl,b.n3,Z,l,_,Z,gu.k (k:=.inl c) a.lf,_,Z,?_];cases e:cq L (.inl c) with
 |some v=>refine c8 Z #[_,Z,r,C,d,_,_,Z,a.ins,b.cl,b.n3,Z,_,Z,l,v,Z,by rw[<- e];exact gu.k (k:=.inl c) a.lf,?_];rwa[tH a.iL e$ look j (.inl c) 0]
 |none=>erw[aY Z #[_,Z,r,C,d,_,_,Z,a.ins,b.cl,b.n1,Z,i,Z,.inl #[_,.inl a.ce],_,Z,_,gu.k (k:=.inl c) a.ce,?_]];rw[K0 a.iC];rw[tG e]at q;exact q
abbrev xz:cc:=bK (bQ 56) 0
abbrev BF:cc:=bK (bQ 56) 1
abbrev BG:cc:=bK (bQ 56) 2
noncomputable abbrev Ge:cc:=bQ 57
inductive Sk where
 |nil |st (n:Int) (hs:List Int) (w r:Sk) |ask (b:Int) |rd (c i:Int) |wr (c i:Int) |cl (f:ρ) (is:List Int) (s:Sk) (a:Int)
noncomputable def Sk.dep:Sk->Nat
 | .st _ _ w r=>max w.dep r.dep
 | .cl _ _ s _=>s.dep+1
 |_=>0
noncomputable def Sk.size:Sk->Nat
 | .st _ _ w r=>w.size+r.size+1
 | .cl _ _ s _=>s.size
 |_=>0
def Sk.ok:Bool->Sk->Prop
 |true,.nil=>True
 |true,.st _ _ w r=>w.ok ν/\r.ok μ
 |false,.cl _ _ s _=>s.ok μ
 |false,.ask _ |false,.rd _ _ |false,.wr _ _=>True
 |_,_=>False
def dR(H:Hp):Sk->V->tz V->Prop
 | .nil,_,x=>x=[]
 | .st n d w r,_,x=>∃p h u y,x= .ref p::y/\H p=δ (.tup [.int n,.ref h,u])/\H h=δ (.tup (d.map sn))/\dR H w u []/\dR H r .non y
 | .ask b,u,_=>∃p,u= .ref p/\H p=δ (.tup [.str "ask",.int b])
 | .rd c i,u,_=>∃p,u= .ref p/\H p=δ (.tup [.str "read",.int c,.int i])
 | .wr c i,u,_=>∃p,u= .ref p/\H p=δ (.tup [.str "write",.int c,.int i])
 | .cl f I s a,u,_=>∃p c g e S,u= .ref p/\H p=δ (.tup [.str "call",.ref c])/\H c=δ (.tup [.str f,.ref g,.ref e,.int a])/\H g=δ (.tup (I.map sn))/\H e=δ (.tup S)/\dR H s .non S
theorem dR.mono(k:am H i):∀{s:Sk} {u:V} {x:tz V},dR H s u x->dR i s u x
 | .nil,_,_,h=>h
 | .st _ _ _ _,_,_,z=>by let⟨p,h,u,y,e,a,b,d,f⟩:=z;exact #[p,h,u,y,e,k _ _ a,k _ _ b,dR.mono k d,dR.mono k f]
 | .ask _,_,_,z | .rd _ _,_,_,z | .wr _ _,_,_,z=>by let⟨p,e,h⟩:=z;exact #[p,e,k _ _ h]
 | .cl _ _ _ _,_,_,z=>by let⟨p,c,g,e,S,E,a,b,d,f,j⟩:=z;exact #[p,c,g,e,S,E,k _ _ a,k _ _ b,k _ _ d,k _ _ f,dR.mono k j]
noncomputable def Sk.put(n:Int)(h:tz Int)(W:Sk):Sk->Sk
 | .st a b c r=>.st a b c (Sk.put n h W r)
 |_=>.st n h W .nil
theorem Dn{H:Hp}{n:Int}{a:tz Int}{w:Sk}{p h:η}{u:V}(b:H p=δ (.tup [.int n,.ref h,u]))(c:H h=δ (.tup$ a.map sn))(d:dR H w u []):∀{s:Sk} {x:tz V},s.ok μ->dR H s .non x->dR H (Sk.put n a w s) .non (x++[.ref p])
 | .nil,_,_,e=>by let e:_=[]:=e;rw[e];exact#[p,h,u,[],Z,b,c,d,Z]
 | .st _ _ _ r,_,o,z=>by let⟨f,g,U,y,e,i,j,k,l⟩:=z;rw[e];exact#[f,g,U,y++[.ref p],Z,i,j,k,Dn b c d o.2 l]
theorem p7{w:Sk}(h:w.ok ν):∀{s:Sk},s.ok μ->(Sk.put n H w s).ok μ
 | .nil,_=>#[h,trivial]
 | .st _ _ _ _,o=>#[o.1,p7 h o.2]
theorem Yk{n:Int}{hs:tz Int}{w:Sk}:∀{s:Sk},s.ok μ->(Sk.put n hs w s).size=s.size+(w.size+1)
 | .nil,_=>by show w.size+0+1=0+(w.size+1);omega
 | .st _ _ c r,o=>by let:=Yk (n:=n) (hs:=hs) (w:=w) (s:=r) o.2;show c.size+(Sk.put n hs w r).size+1=c.size+r.size+1+(w.size+1);omega
theorem pZ{n:Int}{hs:tz Int}{w:Sk}{j:Nat}(H:w.dep<=j):∀{s:Sk},s.ok μ->s.dep<=j->(Sk.put n hs w s).dep<=j
 | .nil,_,_=>by show max w.dep 0<=j;omega
 | .st _ _ c r,o,h=>by let h:max c.dep r.dep<=j:=h;let:=pZ (n:=n) (hs:=hs) H (s:=r) o.2 WM;show max c.dep (Sk.put n hs w r).dep<=j;omega
theorem q9:∀{s:Sk} {x:tz V},s.ok μ->dR H s .non x->x.length<=s.size
 | .nil,_,_,e=>by let e:_=[]:=e;rw[e];exact NQ 0
 | .st _ _ w r,_,o,z=>by let⟨_,_,_,y,e,_,_,_,h⟩:=z;let:=q9 o.2 h;rw[e];show y.length+1<=w.size+r.size+1;omega
def lM(H:Hp)(f:ρ)(i:tz Int)(s:Sk)(a:Int)(u:V):Prop:=∃c g e S,u= .ref c/\H c=δ (.tup [.str f,.ref g,.ref e,.int a])/\H g=δ (.tup$ i.map sn)/\H e=δ (.tup S)/\dR H s .non S
noncomputable def Sk.wh:Sk->Wh
 | .ask b=>.ask b
 | .rd c i=>.rd c i
 | .wr c i=>.wr c i
 | .cl f I _ a=>.cl f I a
 |_=>.ask 0
def MV{s:Sk}(o:s.ok ν)(h:dR H s u []):DN H u s.wh:=by
 cases s with
 |nil |st=>exact o.elim
 |ask b |rd c i |wr c i=>exact h
 |cl f I s a=>let⟨p,c,g,e,S,E,d,j,k,_⟩:=h;exact#[p,c,g,.ref e,E,d,j,k]
inductive Gd where
 |give (a:Int) |go (n:Nat) (hs:List Int)
noncomputable def iT(N:Nat->tz ρ)(k:bf):Gl->Gd
 | .give _ T=>.give (T.ev k)
 | .nought=>.give 0
 | .go n=>.go n ((N n).map λx=>look k (.inr x) 0)
structure Hc where
 nm:List ρ
 e:DD
 ws:List WD
structure eK where
 f:ρ
 ps:List ρ
 way:WD
 cs:List Hc
structure Hd(H:Hp)(ys:tz ρ)(nA:η)(d:Df)(c:Ct)(cd:Hc):Prop where
 nm:cd.nm=canon c.M
 ed:cd.e.dd=c.d
 dv:CH H ys cd.e
 cs:cd.e.Cs d.b.calls
 len:cd.ws.length=c.ws.length
 ws:∀(j:Nat) (w:Wy) (wd:WD),c.ws[j]?=δ w->cd.ws[j]?=δ wd->wd.wy nA=w/\Ac H ys d.b.cuts d.b.size wd
structure Al(H:Hp)(nA:η)(d:Df)(ys:tz ρ)(pd:eK):Prop where
 f:pd.f=d.f
 ps:H d.pa=δ (.tup$ pd.ps.map rz)
 wy:pd.way.wy nA=(iz nA d).1.w
 wv:Ac H ys d.b.cuts d.b.size pd.way
 len:pd.cs.length=(b6 nA d).length
 cs:∀(n:Nat) (c:Ct) (cd:Hc),(b6 nA d)[n]?=δ c->pd.cs[n]?=δ cd->Hd H ys nA d c cd
theorem Hd.mono(k:am H f)(h:Hd H y n d c C):Hd f y n d c C:=#[h.nm,h.ed,h.dv.mono k,h.cs,h.len,λj w W a b=>let #[e,v]:=h.ws j w W a b;#[e,v.mono k]]
theorem Al.mono(k:am H e)(h:Al H N d y p):Al e N d y p:=#[h.f,k _ _ h.ps,h.wy,h.wv.mono k,h.len,λn c C a b=>(h.cs n c C a b).mono k]
theorem Aq{c d:Type}{R:c->d->Prop}:∀(l:tz c),(∀a∈l,∃b,R a b)->∃m:tz d,m.length=l.length/\∀(i:Nat) (a:c) (b:d),l[i]?=δ a->m[i]?=δ b->R a b
 | [],_=>#[[],Z,λi a b h=>by simp at h]
 |a::l,h=>by
  let⟨b,g⟩:=h a Oe;let⟨m,e,j⟩:=Aq l λx k=>h x (On _ k);refine#[b::m,by rw[Oq,Oq,e],λi x y H f=>?_];cases i with
  |zero=>cases H;cases f;exact g
  |succ i=>exact j i x y (by simpa using H) (by simpa using f)
noncomputable def uM(p:eK)(n:Nat):tz ρ:=match p.cs[n]? with
 |some c=>c.nm
 |none=>[]
def Al.nms(h:Al H N d y p):eQ N d=uM p:=by
 funext n;unfold eQ uM;by_cases a:n < p.cs.length
 .let b:n < (b6 N d).length:=by rwa[<- h.len]
  rw[NK a,NK b];exact(h.cs n _ _ (NK b)$ NK a).nm.symm
 .rw[O6$ SG a,O6 (by rw[<- h.len];exact SG a)]
inductive OW where
 |ok (w:Sk) (L:bf) (t:Nat) |long |deep
inductive OC where
 |ok (s:Sk) (a:Int) (L:bf) (t:Nat) |long |deep
noncomputable def OC.cons(n:Int)(h:tz Int)(w:Sk):OC->OC
 | .ok s a L t=>.ok (.st n h w s) a L t
 | .long=>.long
 | .deep=>.deep
noncomputable def Sk.app:Sk->Sk->Sk
 | .st n h w r,s=>.st n h w (r.app s)
 |_,s=>s
noncomputable def OC.pre(S:Sk):OC->OC
 | .ok s a L t=>.ok (S.app s) a L t
 | .long=>.long
 | .deep=>.deep
theorem Yl:∀{s:Sk},s.ok μ->s.app .nil=s
 | .nil,_=>rfl
 | .st n h w r,o=>by show Sk.st n h w (r.app .nil)=_;rw[Yl o.2]
theorem pY{w:Sk}:∀{s:Sk},s.ok μ->(Sk.put n h w s).app q=s.app (.st n h w q)
 | .nil,_=>rfl
 | .st a b c r,o=>by show Sk.st a b c ((Sk.put n h w r).app q)=Sk.st a b c (r.app (.st n h w q));rw[pY o.2]
def xh{w s:Sk}(o:OC)(h:s.ok μ):(o.cons n H w).pre s=o.pre (Sk.put n H w s):=by
 cases o with
 |ok q a L t=>show OC.ok (s.app (.st n H w q)) a L t= .ok ((Sk.put n H w s).app q) a L t;rw[pY h]
 |long |deep=>rfl
abbrev oq:=ρ->tz Int->bf->Nat->OC
noncomputable def OC.cl(f:ρ)(i:tz Int):OC->OW
 | .ok s a L t=>.ok (.cl f i s a) L t
 | .long=>.long
 | .deep=>.deep
noncomputable def iI(call:oq)(C:bf)(k L:bf)(t:Nat)(e:DD):OW:=if t < 60 then match e with
 | .ask _ T=>.ok (.ask (if T.ev k=0 then 0 else 1)) L (t+1)
 | .st _ (.rd _ _ T)=>.ok (.rd (T.ev k) (look L (.inl (T.ev k)) (look C (.inl (T.ev k)) 0))) L (t+1)
 | .st _ (.wr _ _ T U)=>.ok (.wr (T.ev k) (U.ev k)) (bj L (.inl (T.ev k)) (.int (U.ev k))) (t+1)
 | .st _ (.cl _ f _ a)=>(call f (a.map λc=>c.2.ev k) L (t+1)).cl f (a.map λc=>c.2.ev k)
 |_=>.long
 else .long
def pF{call:oq}(h:¬t < 60):iI call C k L t e= .long:=by unfold iI;rw[N7 h]
def YR{call:oq}(h:t < 60):iI call C k L t (.ask p T)= .ok (.ask (if T.ev k=0 then 0 else 1)) L (t+1):=by unfold iI;rw[N0 h]
def vk{call:oq}(h:t < 60):iI call C k L t (.st p$ .rd x a T)= .ok (.rd (T.ev k)$ look L (.inl$ T.ev k)$ look C (.inl$ T.ev k) 0) L (t+1):=by unfold iI;rw[N0 h]
def vm{call:oq}(h:t < 60):iI call C k L t (.st p$ .wr a b T U)= .ok (.wr (T.ev k)$ U.ev k) (bj L (.inl$ T.ev k)$ .int$ U.ev k) (t+1):=by unfold iI;rw[N0 h]
def QL{call:oq}(h:t < 60):iI call C k L t (.st p$ .cl x f q T)=(call f (T.map λc=>c.2.ev k) L$ t+1).cl f (T.map λc=>c.2.ev k):=by unfold iI;rw[N0 h]
noncomputable def Fo(p:eK)(c:Hc)(h:tz Int)(w:Wh):Gd:=match c.ws[w.side]? with
 |some W=>iT (uM p) (dm W.sets (uL c.e w (bq c.nm h))) W.goal
 |none=>.give 0
noncomputable def lP(call:oq)(C:bf)(p:eK):Nat->Gd->bf->Nat->OC
 |0,_,_,_=>.long
 |_+1,.give a,L,t=>.ok .nil a L t
 |m+1,.go n h,L,t=>match p.cs[n]? with
  |none=>.long
  |some c=>match iI call C (bq c.nm h) L t c.e with
   | .ok w l T=>(lP call C p m (Fo p c h w.wh) l T).cons (n:Int) h w
   | .long=>.long
   | .deep=>.deep
noncomputable def eO:tz eK->ρ->tT eK
 | [],_=>θ
 |p::r,f=>if p.f=f then δ p else eO r f
theorem pX:∀{b:tz eK} {i:Nat} {a:eK},b[i]?=δ a->(∀(j:Nat) (p:eK),j < i->b[j]?=δ p->p.f≠a.f)->eO b a.f=δ a
 | [],i,a,h,_=>by simp at h
 |p::r,0,a,h,_=>by cases h;show(if p.f=p.f then δ p else _)=_;rw[N0 Z]
 |p::r,i+1,a,h,k=>by show(if p.f=a.f then δ p else eO r a.f)=_;rw[N7$ k 0 p (Nat.succ_pos _) Z];exact pX (i:=i) (by simpa using h) λj q H c=>k (j+1) q (Nat.succ_lt_succ H) (by simpa using c)
noncomputable def ci(p:tz eK)(C:bf):Nat->oq
 |0=>λ_ _ _ _=>.deep
 |j+1=>λf i L t=>match eO p f with
  |none=>.long
  |some a=>lP (ci p C j) C a 62 (iT (uM a) (dm a.way.sets (bq a.ps i)) a.way.goal) L t
structure Ps(H:Hp)(nA pA:η)(ds:tz Df)(ns:tz Nat)(xs:tz V)(pds:tz eK):Prop where
 at':H pA=δ (.tup xs)
 tr:aT H (aA$ ds.map$ gf nA) .non xs
 dv:∃zs,dh H ds zs
 ok:uN ds ns
 pa:nG H ds ns
 dl:pds.length=ds.length
 pr:∀(i:Nat) (d:Df) (pd:eK),ds[i]?=δ d->pds[i]?=δ pd->∃ys,(d.b.Ok ys/\ys.length<=20)/\Al H nA d ys pd
theorem Ps.mono(h:Ps H n c D N x p)(k:am H e):Ps e n c D N x p:=#[k _ _ h.at',h.tr.mono k,let #[f,z]:=h.dv;#[f,z.mono k],h.ok,h.pa.mono k,h.dl,λi d g a b=>let #[Y,y,r]:=h.pr i d g a b;#[Y,y,r.mono k]]
def pW(h:aT H (gf n d) v []):GV H v d.f:=by obtain⟨_,a,x,rfl,b,_,_,Y,y,rfl,⟨rfl,_⟩,_⟩:=h;exact#[a,_,Z,b]
theorem vp:∀{D:tz Df} {z:tz V},dh H D z->∀{i:Nat} {d:Df},D[i]?=δ d->∃B,dX H d.b B
 |_::_,_,q,0,d,a=>by obtain⟨u,r,e,⟨B,_,_,_,h⟩,c⟩:=q;cases a;exact#[B,h]
 |_::_,_,#[u,r,e,_,c],i+1,d,a=>vp c (by simpa using a)
section
variable {H:Hp}{nA pA:η}{ds:tz Df}{ns:tz Nat}{xs:tz V}{pds:tz eK}
def Ps.part(h:Ps H nA pA ds ns xs pds){i:Nat}{d:Df}{v:V}(b:ds[i]?=δ d)(q:xs[i]?=δ v):∃y c,nH H nA d y v/\pds[i]?=δ c/\Al H nA d y c/\eO pds d.f=δ c:=by
 let⟨T,n,t⟩:=qZ h.tr i v q;rw[Od,b]at n;cases n;let⟨z,r⟩:=h.dv;let⟨_,_,s⟩:=(h.ok.1 d$ Og b).1;let u:i < ds.length:=(ξ.mp b).1;let g:pds[i]?=δ (pds[i]'(by rwa[h.dl])):=NK _;obtain⟨y,⟨O,Y⟩,k⟩:=h.pr i d _ b g;refine#[y,_,#[t,vp r b,O,Y,s],g,k,?_];rw[<- k.f];erw[pX g λj p A l e=>?_];let a:j < ds.length:=by omega
 let⟨_,_,m⟩:=h.pr j _ p (NK a) l;rw[m.f,k.f]at e;let x:(ds.map Df.f)[j]?=δ (ds[j]).f:=by rw[Od,NK a];rfl
 let o:(ds.map Df.f)[i]?=δ d.f:=by rw[Od,b];rfl
 rw[<- e]at o;let:=(U8 (by rwa[NO]) h.ok.2.1).mp (x.trans o.symm);omega
def Ps.cs(h:Ps H nA pA ds ns xs pds){i:Nat}{d:Df}(a:ds[i]?=δ d):∀f∈d.b.calls,f∈(ds.map Df.f).zip ns:=zU (h.ok.1 d$ Og a).2
def Ps.at(h:Ps H nA pA ds ns xs pds){i:Nat}{d:Df}(b:ds[i]?=δ d):∃v,xs[i]?=δ v/\aT H (gf nA d) v []/\GV H v d.f/\∀j x,j < i->xs[j]?=δ x->∃g,GV H x g/\g≠d.f:=by
 let L:=zq h.tr;rw[NO]at L;let r:i < ds.length:=(ξ.mp b).1;let t:∀(j:Nat) (x:V),xs[j]?=δ x->∃c,ds[j]?=δ c/\aT H (gf nA c) x []:=λj x k=>by let⟨s,m,t⟩:=qZ h.tr j x k;rw[Od]at m;let⟨c,a,rfl⟩:=de.mp m;exact#[c,a,t]
 let n:xs[i]?=δ (xs[i]'WM):=NK WM;let⟨c,a,T⟩:=t _ _ n;rw[b]at a;cases a;refine#[_,n,T,pW T,λj x u k=>?_];let⟨c,a,q⟩:=t j x k;refine#[c.f,pW q,λe=>?_];let o:(ds.map Df.f)[j]?=δ c.f:=by rw[Od,a];rfl
 let p:(ds.map Df.f)[i]?=δ d.f:=by rw[Od,b];rfl
 rw[<- e]at p;let l:j < (ds.map Df.f).length:=(ξ.mp o).1;let:=(U8 l h.ok.2.1).mp (o.trans p.symm);omega
def Ps.find(h:Ps H nA pA ds ns xs pds)(a:(f,n)∈(ds.map Df.f).zip ns):∃(i:Nat) (d:Df),ds[i]?=δ d/\ns[i]?=δ n/\d.f=f:=by
 let⟨i,b,e⟩:=iv.mp a;let E:((ds.map Df.f).zip ns)[i]?=δ (f,n):=by rw[<- e];exact NK b
 rw[Ud]at E;rw[Od]at E;let⟨d,c,g⟩:=de.mp E.1;exact#[i,d,c,E.2,g]
end
def Rn.tm(h:Rn H C r d c l p m t L f)(k:aZ r l H a):am H a:=λb x e=>k b _ (jR e h.ins (by intro z;cases z)) (jR e h.lf (by intro z;cases z)) e
def Rn.same(h:Rn H C r d c l p m t L a)(s:aa H b):Rn b C r d c l p m t L a:=#[s _ _ h.ins,s _ _ h.lf,s _ _ h.ce,h.iL,h.iC,h.cl]
def Rn.rl(h:Rn H C r d c l p m t L a):r≠l/\r≠c:=#[jR h.ins h.lf (by intro z;cases z),jR h.ins h.ce (by intro z;cases z)]
def GU(r l:η)(H h:Hp):Prop:=∀b o,b≠r->b≠l->NX o->H b=δ o->h b=δ o
def Fl.next(h:Fl E L (GU r l H)):Fl (pU E) L (GU r l H):=λd i k x T t c e a j f=>by cases e;exact h d _ λb o N g n e=>Kq (H:=H) (k b o N g n e) n a f
def Fl.nextK(h:Fl E L (Kp H)):Fl (pU E) L (Kp H):=λd g k x T t c e a i f=>by cases e;exact h d _ λb o n e=>Kq (H:=H) (k b o n e) n a f
def Fl.mono{R S:Hp->Prop}(h:Fl E L R)(k:∀H,S H->R H):Fl E L S:=λd H s=>h d H (k H s)
inductive nj(C:η)(e:tz V)(H:Hp)(Q:VK)(a:XK):Prop
 |mk(r c d b:η)(m:Int)(_:e=[.ref r,.ref d,.ref b,.int m])(_:H r=δ (.ins C c []))(_:∀lA,H lA=θ->Q .non (af (af H lA (.dK [])) r (.ins C c (iR b lA d m 0))))
def oK(A B:Prop)(E:XK)(T t:η)(R:Hp->Prop):Prop:=(A->Fl E T R)/\(B->Fl E t R)
theorem oK.mono{R S:Hp->Prop}(h:oK A B E T t R)(k:∀H,S H->R H):oK A B E T t S:=#[λa=>(h.1 a).mono k,λb=>(h.2 b).mono k]
theorem oK.next(h:oK A B E T t (GU r l H)):oK A B (pU E) T t (GU r l H):=#[λa=>(h.1 a).next,λb=>(h.2 b).next]
def oK.imp{R:Hp->Prop}(h:oK A B E T t R)(a:c->A)(b:d->B):oK c d E T t R:=#[λx=>h.1 (a x),λx=>h.2 (b x)]
inductive eP(C g f p:η)(j:Nat)(w:tz V)(H:Hp)(Q:VK)(E:XK):Prop
 |mk(r m k o s h:η)(b t i:Nat)(L e:bf)(v:V)(d:Df)(l:tz Df)(q:tz Nat)(x:tz V)(c:tz eK)(n:tz Int)(_:w=[.ref r,v,.ref h,.int (b:Int)])(_:b+j=16)(_:1<=j)(_:Rn H C r m k o s 60 t L e)(_:L.length<=t)(_:t<=60)(_:Ps H p s l q x c)(_:l[i]?=δ d)(_:q[i]?=δ n.length)(_:x[i]?=δ v)(_:H h=δ (.tup (n.map sn)))(_:∀z∈n,gZ z)(_:∀(u:V) (sk:Sk) (a:Int) (L':bf) (H':Hp),ci c e j d.f n L t= .ok sk a L' (t+sk.size)->lM H' d.f n sk a u->sk.ok μ->sk.dep+1<=j->gZ a->Rn H' C r m k o s 60 (t+sk.size) L' e->L'.length<=t+sk.size->t+sk.size<=60->aZ r o H H'->Q u H')(_:oK (ci c e j d.f n L t= .long) (ci c e j d.f n L t= .deep) E g f (GU r o H))
inductive pk(C f d m:η)(j:Nat)(p:tz V)(H:Hp)(Q:VK)(E:XK):Prop
 |mk(r i g l o:η)(a t:Nat)(L c k:bf)(u:V)(e:DD)(s:tz ρ)(h:tz Df)(n:tz Nat)(q:tz V)(b:tz eK)(_:p=[.ref r,u,.int (a:Int)])(_:a+j=15)(_:Rn H C r i g l o 60 t L c)(_:L.length<=t)(_:t<=60)(_:Ps H m o h n q b)(_:aT H (HV k e) u [])(_:CH H s e)(_:GT k)(_:e.Cs ((h.map Df.f).zip n))(_:∀(w:Sk) (v:V) (L':bf) (H':Hp),iI (ci b c j) c k L t e= .ok w L' (t+1+w.size)->dR H' w v []->w.ok ν->LB e w.wh->w.dep<=j->Rn H' C r i g l o 60 (t+1+w.size) L' c->L'.length<=t+1+w.size->t+1+w.size<=60->aZ r l H H'->Q v H')(_:oK (iI (ci b c j) c k L t e= .long) (iI (ci b c j) c k L t e= .deep) E f d (GU r l H))
def Gk:aj z26z z26z (ae xz):=bN
def Be(F:aO K "__init__" "BookRun.__init__" xz f t)(j:RK K C)(GT:⇑1 u c z25z (ny C))(B:aE K c z25z [])(M:mg "Turns"=↑T)(v:DI K T "__init__" u):⇑2 f t z26z (nj C):=by
 erw[F.ok Gk λx A o s H V Q E y h=>?_]
 let⟨r,d,z,k,m,rfl,g,q⟩:=h;refine#[_,(jd (jH$ @Bp _ _ _ _ _ _ _ _ _ _ _ _ _ _ _ _ _ _ _ _ Z M v GT y.m B .nil bg (ja (pv 0)$ ja (pv 2)$ ja (pv 3) jb) WL WP WP WP)$ jg$ @zL _ _ _ _ _ _ _ _ (pv 0) (pv 1) Z),?_];erw[ai λD n=>#[_,Z,_,Z,_,Z,r,d,k,m,Z,g,λL N=>n _ _ ?_]];refine#[_,Z,_,Z,r,C,d,_,Z,jc,j.cl,j.n5,(by show 4 < 1000;decide),?_];let e:∀(i:Hp) (p O:HO),af (af i r p) r O=af i r O:=λi p O=>by
  funext b;by_cases a:b=r
  .rw[a,jc,jc]
  .rw[jh a,jh a,jh a]
 rw[e];exact q L N
def Kr(h:aT H (aB t) u []):∃a x,u= .ref a/\H a=δ (.tup x)/\aT H (aA t) .non x:=let #[_,a,x,e,b,c]:=h;#[a,x,e,b,c]
def qt(h:aT H (aA (t::T)) .non x):∃y Y,x=y::Y/\aT H t y []/\aT H (aA T) .non Y:=let #[_,_,y,Y,e,a,b]:=h;#[y,Y,e,a,b]
def rX(h:aT H (aL x) y []):y= .str x:=h.1
def Ks(h:aT H (ar n) y []):y= .int n:=h.1
theorem K2:∀{I:tz Int} {v:tz V},aT H (aA$ I.map ar) .non v->v=I.map sn
 | [],v,h=>h
 |i::I,v,h=>by let⟨y,Y,rfl,a,b⟩:=qt h;rw[Ks a,K2 b];rfl
def Xu{H:Hp}{w:ρ}{t:tz Tr}{u:V}(h:aT H (aB (aL w::t)) u []):∃a x,u= .ref a/\H a=δ (.tup (.str w::x))/\aT H (aA t) .non x:=by let⟨a,x,rfl,b,h⟩:=Kr h;let⟨y,Y,rfl,c,d⟩:=qt h;rw[rX c]at b;exact#[a,Y,Z,b,d]
def Xj{H:Hp}{w:ρ}{i:Int}{u:V}(h:aT H (aB [aL w,ar i]) u []):∃a,u= .ref a/\H a=δ (.tup [.str w,.int i]):=by let⟨a,x,rfl,b,h⟩:=Xu h;let⟨y,Y,rfl,c,d⟩:=qt h;let e:Y=[]:=d;rw[Ks c,e]at b;exact#[a,Z,b]
def yU{H:Hp}{w:ρ}{i:Int}{t:Tr}{u:V}(h:aT H (aB [aL w,ar i,t]) u []):∃a y,u= .ref a/\H a=δ (.tup [.str w,.int i,y])/\aT H t y []:=by let⟨a,x,rfl,b,h⟩:=Xu h;let⟨y,Y,rfl,c,d⟩:=qt h;let⟨z,f,rfl,g,j⟩:=qt d;let e:f=[]:=j;rw[Ks c,e]at b;exact#[a,z,Z,b,g]
def IW:aj z20z z20z (ae BG):=bN
def ET(F:aO K "what_of" "BookRun.what_of" BG f fd)(ck:RK K C)(GT:ah P w K mg base (gr P w) 1 fT f0 ["self"] (lE C TL))(bT:aE K f0 ["self"] [])(m0:bu K C "take_turn" fT)(GI:⇑1 fI f2 ["self","cell"] (gQ C))(bI:aE K f2 ["self","cell"] [])(m1:bu K C "number_in" fI)(GD:ah P w K mg base (gr P w) 1 fD f3 ["deep"] (fq TD))(bD:aE K f3 ["deep"] [])(kD:iu K (.ref fD)=μ)(mD:mg "deeper"=↑fD)(cP:‹2› fP f6 ["parts","f"] ni "part_of")(GC:ah P w K mg base (gr P w) (2*j+12) fC f4 z13z (eP C TL TD nA j))(bC:aE K f4 z13z [])(m2:bu K C "chain_of" fC):ah P w K mg base (gr P w) (2*j+13) f fd z20z (pk C TL TD nA j):=by
 erw[F.ok1 IW λc5 A o2 s H vs Q E hr h=>?_]
 let⟨r,D,W,I,O,M,t,L,Cs,k,u,e,ys,ds,ns,X,p1,rfl,h4,J,h5,ht,hP,B,h0,hk,h1,q,t0⟩:=h;refine#[_,(jd (jH$ wV (pv 0) ck.cl m0 GT hr.m bT .nil qm)$ jd (jz (kh$ jy$ pv 1) (jg$ jo$ ji$ ja jm$ ja (jy$ pv 1)$ ja (kf (pv 0) ck.cl m1 GI hr.m bI .nil bg$ ja (jy$ pv 1) jb) jb) jp)$ jd (jz (kh$ jy$ pv 1) (jg$ jo$ ji$ ja jm$ ja (kf (pv 0) ck.cl m2 GC hr.m bC .nil qm$ ja (cP.e hr.m$ ja (ke (pv 0) Z)$ ja (jy$ pv 1) jb)$ ja (jy$ pv 1)$ ja (kW GD hr.m Z mD kD bD .nil qm$ ja (pv 2) jb) jb) jb) jp)$ jd (jz (kh$ jy$ pv 1) (jg$ Jh (zY hr) (ke (pv 0) Z) (jy$ pv 1) (jy$ pv 1) Z) jp)$ jg$ jo$ pv 1),?_];let b0:=aK;erw[ai λY n=>#[_,Z,r,D,_,Z,J.ins,Z,r,D,W,I,O,60,t,Z,J.ins,λlt=>n _ _ ?_,λge=>((t0.1$ pF WM).mono λH' kk=>λb o _ _ nx e=>kk b o nx e).nextK]];let t1:am H (af H r$ .ins C D$ iR W I O 60$ t+1):=λb X e=>by rw[jh$ jR e J.ins (by intro z;cases z)];exact e
 let R:Rn (af H r$ .ins C D$ iR W I O 60$ t+1) C r D W I O 60 (t+1) L Cs:=#[jc,by rw[jh J.rl.1.symm];exact J.lf,by rw[jh J.rl.2.symm];exact J.ce,J.iL,J.iC,J.cl];let k1:aZ r I H (af H r$ .ins C D$ iR W I O 60$ t+1):=λb o n1 n2 e=>by rwa[jh n1]
 generalize af H r (.ins C D$ iR W I O 60$ t+1)=H1 at t1 R k1;let B:=B.mono t1;let lt':t+1<=60:=by omega
 let f5:∀(w:Sk) (X:tz V) (S:Hp) (v:η),S v=θ->dR (af S v$ .tup X) w (.ref v) []->w.ok ν->iI (ci p1 Cs j) Cs k L t e= .ok w L (t+1)->LB e w.wh->w.size=0->w.dep<=j->H1=S->Q (.ref v) (af S v$ .tup X):=λw X S v nv hw ok eq ft sz dp e2=>by subst e2;exact q w _ L _ (by rw[sz];exact eq) hw ok ft dp (by rw[sz];exact R.same$ je nv) WM WM$ k1.trans$ aZ.of_same$ je nv
 cases e with
 |ask ta T=>
  let⟨p,rfl,G⟩:=Xj B;erw[ai λY n=>(ju G Z #[Z,_,Z,aY WO$ n _ _ ?_])];erw[ai λY n=>(ju G Z #[Z,_,Z,aY WO$ n _ _ ?_])];erw[ai λY n=>(ju G Z #[Z,_,Z,aY WO$ n _ _ ?_])];refine#[_,Z,q (.ask (if T.ev k=0 then 0 else 1)) _ L _ (YR WM) #[p,Z,G] trivial ?_ (NY _) R (by show L.length<=t+1+0;omega) lt' k1];show(if T.ev k=0 then (0:Int) else 1)=0∨(if T.ev k=0 then (0:Int) else 1)=1;split
  .exact .inl Z
  .exact .inr Z
 |st p0 l=>
  let⟨vs,_,h6,o1,c0⟩:=h0;cases l with
  |gv ta T |st x ta T=>cases c0
  |rd x ta T=>let⟨p,rfl,G⟩:=Xj B;erw[ai λY n=>(ju G Z #[Z,_,Z,c8 WO$ ju G Z #[_,Z,r,D,_,Z,R.ins,Z,ju G Z #[r,D,W,I,O,60,_,_,_,_,Z,R,hZ,λv nv=>?_]]])];exact f5 (.rd (T.ev k)$ look L (.inl$ T.ev k)$ look Cs (.inl$ T.ev k) 0) _ _ v nv #[v,Z,jc] trivial (vk WM) (Km R.iL$ Km R.iC Kn) Z (NY _) Z
  |wr ta ub T U=>
   let⟨p,y,rfl,G,hy⟩:=yU B;rw[Ks hy]at G;erw[ai λY n=>(ju G Z #[Z,_,Z,aY WO$ n _ _ ?_])];erw[ai λY n=>(ju G Z #[Z,_,Z,aY WO$ n _ _ ?_])];erw[ai λY n=>(ju G Z #[Z,_,Z,c8 WO$ ju G Z #[_,Z,r,C,D,_,_,Z,R.ins,ck.cl,ck.n3,Z,ju G Z #[I,_,Z,oC.k (k:=.inl (T.ev k)) R.lf WM,n _ _ ?_]]])];let pl:=qk (kvs:=L) (k:=.inl (T.ev k)) (v:=.int (U.ev k));let t3:am H1 (af H1 I$ .dK$ bj L (.inl$ T.ev k)$ .int$ U.ev k):=λb X e=>by rw[jh$ jR e R.lf (by intro z;cases z)];exact e
   refine#[_,Z,q (.wr (T.ev k)$ U.ev k) _ (bj L (.inl$ T.ev k)$ .int$ U.ev k) _ (vm WM) #[p,Z,t3 _ _ G] trivial trivial (NY _) #[by rw[jh J.rl.1];exact R.ins,jc,by rw[jh J.cl];exact R.ce,R.iL.put _$ JZ hk o1.2.1,R.iC,R.cl] (by show _<=t+1+0;omega) lt' λb o n1 n2 e=>?_];rw[jh n2];exact k1 b o n1 n2 e
  |cl x f q' ts=>
   let⟨p,y3,rfl,G,hy⟩:=Xu B;let⟨y1,y4,rfl,e1,hy⟩:=qt hy;let⟨y2,y0,rfl,e2,hy⟩:=qt hy;let e3:y0=[]:=hy;subst e3;rw[rX e1]at G;let⟨ag,a0,rfl,ha,N⟩:=Kr e2;let N:aT H1 (aA ((ts.map λc=>c.2.ev k).map ar)) .non a0:=by rw[Rm];exact N
   rw[K2 N]at ha;let⟨i,d,hd,hn,rfl⟩:=hP.find h1;let P1:=hP.mono t1;let⟨v,hv,_,h2,h3⟩:=P1.at hd;erw[ai λY n=>(ju G Z #[Z,_,Z,aY WO$ n _ _ ?_])];erw[ai λY n=>(ju G Z #[Z,_,Z,c8 WO ?_])];refine#[_,Z,r,D,_,Z,R.ins,Z,_,Z,r,C,D,_,_,Z,R.ins,ck.cl,ck.n5,Z,ju G Z #[O,d.f,X,i,v,Z,P1.at',hv,h2,h3,ju G Z #[_,Z,(M:Int),Z,λdl=>?_,λdg=>((t0.2 (by let z:j=0:=WM;rw[QL WM,z];rfl)).mono λS kk=>λb o n1 n2 nx e=>kk b o nx (k1 b o n1 n2 e)).nextK]]];refine#[r,D,W,I,O,ag,M+1,t+1,i,L,Cs,v,d,ds,ns,X,p1,ts.map λc=>c.2.ev k,Z,WM,WM,R,WM,lt',P1,hd,by rw[NO];exact hn,hv,ha,λz hz=>?_,λu sk a L' S eq hc ok dp ia R2 l2 t2 k2=>?_,oK.next ((t0.imp (λz=>by rw[QL WM,z];rfl) (λz=>by rw[QL WM,z];rfl)).mono λS kk=>λb o n1 n2 nx e=>kk b o n1 n2 nx (k1 b o n1 n2 e))]
   .let⟨c,hc,rfl⟩:=dn.mp hz;exact JZ hk (o1.2.2 c hc).1
   .let⟨c,g,ee,ss,rfl,c1,c2,c3,c4⟩:=hc;refine#[cj,λv2 nv=>?_];let s2:aa S (af S v2$ .tup [.str "call",.ref c]):=je nv;refine q (.cl d.f (ts.map λc=>c.2.ev k) sk a) _ L' _ (by rw[QL WM,eq];rfl) #[v2,c,g,ee,ss,Z,jc,s2 _ _ c1,s2 _ _ c2,s2 _ _ c3,c4.mono$ aa.tm s2] ok ia (by show sk.dep+1<=j;omega) (R2.same s2) l2 t2 ((k1.trans k2).trans$ aZ.of_same s2)
def DQ:eM (s++[x]) (-1)=δ x:=by
 let l:(s++[x]).length=s.length+1:=by rw[NP];rfl
 unfold eM oO;rw[l,N7 WM,N0 WM];let e:(-1+((s.length+1:Nat):Int)).toNat=s.length:=by omega
 show(s++[x])[(-1+((s.length+1:Nat):Int)).toNat]?=_;rw[e];simp
inductive LC(H:Hp)(nA:η)(d:Df)(u:V):Gd->Prop
 |give (p:η) (a:Int) (e:u= .ref p) (h:H p=δ (.tup [.str "give",.int a])) (i:gZ a):LC H nA d u (.give a)
 |go (p hv:η) (n:Nat) (c:Ct) (is:List Int) (e:u= .ref p) (h:H p=δ (.tup [.str "go",.int (n:Int),.ref hv])) (h2:H hv=δ (.tup (is.map sn))) (hc:(b6 nA d)[n]?=δ c) (hl:is.length=(canon c.M).length) (hi:∀i∈is,gZ i):LC H nA d u (.go n is)
def we{H:Hp}(h:aT f (wc (eQ N d) k g) u [])(j:GT k)(l:Hf H Y d.b.cuts g):LC f N d u (iT (eQ N d) k g):=by
 cases g with
 |give t T=>let⟨p,e,h⟩:=Xj h;exact .give p _ e h (JZ j l.2.1)
 |nought=>let⟨p,e,h⟩:=Xj h;exact .give p 0 e h Kn
 |go n=>
  let⟨p,y,e,h,q⟩:=yU h;let⟨a,X,rfl,m,c⟩:=Kr q;let r:n < (b6 N d).length:=by rwa[Z7]
  let o:(b6 N d)[n]?=δ (b6 N d)[n]:=NK r;let c:aT f (aA (((eQ N d n).map λx=>look k (.inr x) 0).map ar)) .non X:=by rwa[Rm]
  rw[K2 c]at m;refine .go p a n _ _ e h m o (by rw[NO,wu o]) λi s=>?_;let⟨x,_,rfl⟩:=dn.mp s;exact Km j Kn
inductive CI(a:oq)(K:eK)(h:OC)(C r o n F J l N G:η)(b t j:Nat)(i:bf)(v:V)(d:Df)(H:Hp)(E:Nat)(P:_L.St)(k:Hp):Prop
 |mk(I:tT V)(u:V)(g:Gd)(m:Nat)(M:Sk)(O:tz V)(L:bf)(p:P=[↑r,δ v,↑l,δ (.int (b:Int)),↑N,δ u,I])(q:k N=δ (.lst O))(s:dR k M .non O)(w:M.ok μ)(x:M.dep+1<=j)(y:LC k G d u g)(z:Rn k C r o n F J 60 (t+M.size) L i)(A:L.length<=t+M.size)(B:t+M.size<=60)(D:aZ r F H k)(c:E+t+M.size=61)(e:(lP a i K m g L (t+M.size)).pre M=h)(f:62<=m+(t+M.size))
def nP:aj ["self","part","args","deep","steps","goal","what"] z13z (ae BF):=bN
def EN(F:aO K "chain_of" "BookRun.chain_of" BF f fd)(ck:RK K C)(cF:‹9› fF f2 ["part","args"] (gN nA) "first_of")(cD:‹9› fD f3 z12z (gM nA) "deed_at")(cO:‹9› fO f4 ["part","step"] (yw nA) "onward")(GW:ah P w K mg base (gr P w) (2*j+13) fW f0 z20z (pk C TL TD nA j))(bW:aE K f0 z20z [])(m0:bu K C "what_of" fW)(m1:mg "tuple"=θ):ah P w K mg base (gr P w) (2*j+14) f fd z13z (eP C TL TD nA$ j+1):=by
 erw[F.ok1 nP λc3 A o2 s H vs Q E hr h=>?_]
 let⟨r,dx,cA,lA,pA,ag,U,t,i,L,y,v,d,ds,ns,xs,x,is,rfl,b3,_,hR,a0,ht,hP,hd,hn,hv,ha,h3,q,t4⟩:=h;refine#[_,(jd (jA 4 nP.nd$ jE jb)$ jd (jA 5 nP.nd$ cF.e hr.m$ ja (pv 1)$ ja (pv 2) jb)$ jd (XZ PassesOwn.leaving (kh$ jy$ pv 5)$ jd (jA 6 nP.nd$ kf (pv 0) ck.cl m0 GW hr.m bW .nil qm$ ja (cD.e hr.m$ ja (pv 1)$ ja (jy$ pv 5)$ ja (jy$ pv 5) jb)$ ja (pv 3) jb)$ jd (jH$ jZ PySem.F.plainAttrs_list PySem.F.slot_list_append PySem.F.type_list_append jO (pv 4)$ ja (ji$ ja (jy$ pv 5)$ ja (jy$ pv 5)$ ja (pv 6) jb) jb)$ jg$ jA 5 nP.nd$ cO.e hr.m$ ja (pv 1)$ ja (jr jv (pv 4) (wW YM jf) (λ_ _=>Z)) jb)$ jg$ jo$ ji$ ja (jy$ pv 1)$ ja (pv 2)$ ja (jN jP Z m1 boot_tuple$ ja (pv 4) jb)$ ja (jy$ pv 5) jb),?_];let b4:=aK;let⟨ys,g,h1,b5,pr,a1⟩:=hP.part hd hv;let⟨ps,h4,a2,a3⟩:=hP.pa.2 i d _ hd hn;let e3:ps=g.ps:=by let z:=h4.symm.trans pr.ps;injection z with z;injection z with z;exact(List.map_inj_right λa b e=>by injection e).mp z
 subst e3;let e0:ci x y (j+1) d.f is L t=lP (ci x y j) y g 62 (iT (uM g) (dm g.way.sets$ bq g.ps is) g.way.goal) L t:=by show(match eO x d.f with |none=>OC.long |some g=>lP (ci x y j) y g 62 (iT (uM g) (dm g.way.sets$ bq g.ps is) g.way.goal) L t)=_;rw[a1]
 generalize ci x y (j+1) d.f is L t=X at q t4 e0;erw[ai λF1 J=>#[fc,λS Y=>J _ _ ?_]];let s1:aa H (af H S$ .lst []):=je Y;let l1:af H S (.lst []) S=δ (.lst []):=jc;generalize af H S (.lst [])=H1 at s1 l1 ⊢;let e4:=pr.wy;let h2:=pr.wv;erw[ai λF1 J=>#[_,Z,_,Z,v,ag,d,ys,g.ps,is,g.way,Z,h1.mono$ aa.tm s1,s1 _ _ h4,WM,s1 _ _ ha,a2.symm,h3,e4,h2.mono$ aa.tm s1,λu H2 hu s2=>J _ _ ?_]];let S2:=s1.trans s2;let gz:GT (bq g.ps is):=KR h3;let g0:=we (H:=H) hu (Jk h2.sets gz) h2.goal;rw[pr.nms]at g0;let s0:S≠r:=Ne.symm (jk hR.ins Y);let s3:S≠lA:=Ne.symm (jk hR.lf Y);let s9:cA≠S:=jk hR.ce Y;erw[ai λF1 J=>?_];refine yX (CI (ci x y j) g X C r dx cA lA pA ag S nA U t (j+1) y v d H) (61 - t) #[θ,u,_,62,.nil,[],L,Z,s2 _ _ l1,Z,trivial,by show 0+1<=j+1;omega,g0,hR.same S2,a0,ht,aZ.of_same S2,by show 61 - t+t+0=61;omega,by rw[e0];show OC.pre .nil (lP (ci x y j) y g 62 _ L t)=_;cases lP (ci x y j) y g 62 (iT (uM g) (dm g.way.sets$ bq g.ps is) g.way.goal) L t<;>rfl,by show 62<=62+(t+0);omega] ?_;intro kk σ H3 E' rt fE F kT cF.k Gq kq hW;let⟨o6,u,gd,m,N,R,L1,rfl,w1,w2,w3,w4,w5,w6,w7,w8,w9,b8,W,b9⟩:=hW;obtain⟨m,rfl⟩:∃m',m=m'+1:=#[m - 1,WM];let t0:=hR.tm w9;let P3:=hP.mono t0;cases w5 with
 |give p a e h5 ia=>subst e;erw[kq$ ju h5 Z #[Z,_,Z,?_]];rw[show decide (rz (Str.ofString "give")=rz (Str.ofString "go"))=ν by decide+kernel];erw[cF.k _$ J _ _ ?_];let⟨pa,ca,wv,cs,e,h7,_⟩:=(h1.mono t0).parts;subst e;refine(ju h7 Z #[_,Z,_,Z,S,R,Z,.inl #[aH.of w1,λl2 n0=>?_]]);let s4:aa H3 (af H3 l2$ .tup R):=je n0;refine(ju (s4 _ _ h5) Z #[rY,λv2 nv=>?_]);let s5:=s4.trans (je (o:=.tup [.str d.f,.ref ag,.ref l2,.int a]) nv);let S5:aZ r lA H (af (af H3 l2$ .tup R) v2$ .tup [.str d.f,.ref ag,.ref l2,.int a]):=w9.trans (aZ.of_same s5);let W:OC.ok (N.app .nil) a L1 (t+N.size)=X:=W;rw[Yl w3]at W;exact q _ N a L1 _ W.symm #[v2,ag,l2,R,Z,jc,hR.tm S5 _ _ ha,aq jc nv,w2.mono$ aa.tm s5] w3 w4 ia (w6.same s5) w7 w8 S5
 |go p D n c hs e h5 h6 hc hl hi=>
  subst e;erw[kq$ ju h5 Z #[Z,_,Z,?_]];rw[show decide (rz (Str.ofString "go")=rz (Str.ofString "go"))=μ by decide+kernel];erw[kT _ ?_];clear kT cF.k J;let P1:=h1.mono t0;let⟨pa,ca,wv,cs,e9,h7,_,_,a4⟩:=P1.parts;let⟨ka,na,wa,dv,b',_,c1⟩:=P1.cut a4 hc;let a5:n < g.cs.length:=by rw[pr.len];exact(ξ.mp hc).1
  obtain⟨cd,h8⟩:∃cd,g.cs[n]?=δ cd:=#[_,jq a5];let cr:=(pr.cs n c cd hc h8).mono t0;let⟨c2,e,c0⟩:=cd;let⟨e1,ed,d0,e5,l0,a'⟩:=cr;let e1:c2=canon c.M:=e1;subst e1;let W:OC.pre N (match g.cs[n]? with
   |none=>OC.long
   |some c=>match iI (ci x y j) y (bq c.nm hs) L1 (t+N.size) c.e with
    | .ok w L1 t1=>(lP (ci x y j) y g m (Fo g c hs w.wh) L1 t1).cons (n:Int) hs w
    | .long=>.long
    | .deep=>.deep)=X:=W
  rw[h8]at W;let W:OC.pre N (match iI (ci x y j) y (bq (canon c.M) hs) L1 (t+N.size) e with
    | .ok w L1 t1=>(lP (ci x y j) y g m (Fo g #[canon c.M,e,c0] hs w.wh) L1 t1).cons (n:Int) hs w
    | .long=>.long
    | .deep=>.deep)=X:=W
  let gk:GT (bq (canon c.M) hs):=KR hi;erw[ai λF1 J=>#[_,Z,r,dx,_,Z,w6.ins,Z,_,Z,ju h5 Z$ ju h5 Z #[v,n,D,d,ys,c,hs,e,Z,P1,hc,h6,hl,hi,ed,d0,λud H4 b0 s4=>?_]]];let t8:=t0.trans (aa.tm s4);refine#[_,Z,r,dx,cA,lA,pA,U,t+N.size,L1,y,bq (canon c.M) hs,ud,e,ys,ds,ns,xs,x,Z,WM,w6.same s4,w7,w8,hP.mono t8,b0,d0.mono$ aa.tm s4,gk,?_,λw uw L' H5 e7 hw o1 ft d1 R5 l5 t5 k5=>J _ _ ?_,?_]
  .cases e with
   |ask=>trivial
   |st p0 l=>cases l<;>first |trivial |exact hP.cs hd _ e5
  .clear J;let K5:aZ r lA H3 H5:=(aZ.of_same s4).trans k5;let t6:am H3 H5:=w6.tm K5;let g5:=t6 _ _ h5;let w0:H5 S=δ (.lst R):=K5 _ _ s0 s3 w1;let l3:=q9 w3 w2;erw[ai λF1 J=>#[_,Z,.inl #[Z,_,aH.of w0],ju g5 Z$ ju g5 Z #[_,Z,hZ,λO n3=>?_]]];let s6:aa H5 (af H5 O$ .tup [.int (n:Int),.ref D,uw]):=je n3;let e6:af H5 O (.tup [.int (n:Int),.ref D,uw]) O=δ (.tup [.int (n:Int),.ref D,uw]):=jc;refine#[S,_,_,Z,Z,s6 _ _ w0,WM,J _ _ ?_];generalize af H5 O (.tup [.int (n:Int),.ref D,uw])=H6 at s6 e6;let b7:aG S H6 (af H6 S$ .lst$ R++[.ref O]):=λb o nb e=>by rwa[jh nb]
   let t3:am H6 (af H6 S$ .lst$ R++[.ref O]):=λb xs e=>b7 _ _ (jR e (s6 _ _ w0) (by intro z;cases z)) e;let w':af H6 S (.lst$ R++[.ref O]) S=δ (.lst$ R++[.ref O]):=jc;generalize af H6 S (.lst$ R++[.ref O])=H7 at b7 t3 w';let t2:am H5 H7:=λb xs e=>t3 _ _ (s6 _ _ e);let B:am H3 H7:=t6.trans t2;let G:w.wh.side < c.ws.length:=by
    rw[c1.v.len,<- ed];cases e with
    |ask ta T=>show _ < 2;unfold Wh.side;split<;>(try split)<;>omega
    |st p0 l=>show _ < 1;cases w<;>first |exact Nat.one_pos |exact o1.elim | (cases l<;>exact ft.elim)
   obtain⟨I,h0⟩:∃I,c0[w.wh.side]?=δ I:=#[_,jq (by rw[l0];exact G)];let⟨e2,h'⟩:=a' _ _ I (jq G) h0;let sv:nJ H7 nA d ys v O n D uw c hs w.wh e I:=#[P1.mono B,t3 _ _ e6,hc,B _ _ h6,hl,hi,(MV o1 hw).mono t2,ed,d0.mono B,ft,by rw[e2];exact jq G,h'.mono B];let b1:eM (R++[tf O]) (-1)=↑O:=DQ;refine#[_,Z,_,Z,_,Z,S,_,_,_,Z,Z,aH.of w',b1,v,uw,O,D,n,d,ys,c,hs,w.wh,e,I,Z,sv,λu2 H8 b2 s8=>?_];let t7:=aa.tm s8;let t':=B.trans t7;let g1:=we (H:=H7) b2 (Jk sv.wdv.sets$ uU ft gk) sv.wdv.goal;let e8:Fo g #[canon c.M,e,c0] hs w.wh=iT (uM g) (dm I.sets$ uL e w.wh$ bq (canon c.M) hs) I.goal:=by show(match c0[w.wh.side]? with |some wd=>iT (uM g) (dm wd.sets$ uL e w.wh$ bq (canon c.M) hs) wd.goal |none=>Gd.give 0)=_;rw[h0]
   rw[pr.nms,<- e8]at g1;rw[e7]at W;let W:OC.pre N ((lP (ci x y j) y g m (Fo g #[canon c.M,e,c0] hs w.wh) L'$ t+N.size+1+w.size).cons (n:Int) hs w)=X:=W;rw[xh _ w3]at W;let s7:=Yk (n:=(n:Int)) (hs:=hs) (w:=w) w3;let R7:Rn H7 C r dx cA lA pA 60 (t+N.size+1+w.size) L' y:=#[b7 _ _ (Ne.symm s0)$ s6 _ _ R5.ins,b7 _ _ (Ne.symm s3)$ s6 _ _ R5.lf,b7 _ _ s9$ s6 _ _ R5.ce,R5.iL,R5.iC,R5.cl];let ez:t+N.size+1+w.size=t+(Sk.put (n:Int) hs w N).size:=by rw[s7];omega
   rw[ez]at R7 l5 t5 W;refine fE (kk - (w.size+1)) _ _ WM #[_,u2,_,m,Sk.put (n:Int) hs w N,R++[.ref O],L',Z,s8 _ _ w',(Dn (t3 _ _ e6) (B _ _ h6) (hw.mono t2) w3$ w2.mono B).mono t7,p7 o1 w3,?_,g1,R7.same s8,l5,t5,?_,by rw[s7];omega,W,WM]
   .let:=pZ (n:=(n:Int)) (hs:=hs) (w:=w) (j:=j) d1 w3 WM;omega
   .intro b o n1 n2 e;exact s8 _ _$ b7 _ _ (jk e Y)$ s6 _ _$ K5 _ _ n1 n2$ w9 _ _ n1 n2 e
  .exact oK.next ((t4.imp (λz=>by rw[z]at W;exact W.symm) (λz=>by rw[z]at W;exact W.symm)).mono λH5 kk=>λb o n1 n2 nx e=>kk b o n1 n2 nx (s4 _ _$ w9 _ _ n1 n2 e))
inductive rW(f e l:η)(o:tz V)(H:Hp)(Q:VK)(E:XK):Prop
 |mk(n g h:η)(i:Nat)(c:bf)(d:Df)(j:tz Df)(m:tz Nat)(p:tz V)(b:tz eK)(k:tz Int)(_:o=[.ref n,.str d.f,.ref g,.ref h,.int 60])(_:Ps H l n j m p b)(_:j[i]?=δ d)(_:m[i]?=δ k.length)(_:H g=δ (.tup (k.map sn)))(_:∀z∈k,gZ z)(_:H h=δ (.dK c))(_:GT c)(_:∀(u:V) (sk:Sk) (a:Int) (L':bf) (H':Hp),ci b c 16 d.f k [] 0= .ok sk a L' sk.size->lM H' d.f k sk a u->sk.ok μ->sk.dep<=15->sk.size<=60->aa H H'->Q u H')(_:oK (ci b c 16 d.f k [] 0= .long) (ci b c 16 d.f k [] 0= .deep) E f e (Kp H))
def Bn(h:aT H (gf n d) v []):∃p r,v= .ref p/\H p=δ (.tup (.str d.f:: .ref d.pa::r)):=by obtain⟨_,a,x,rfl,b,_,_,c,y,rfl,⟨rfl,_⟩,_,_,e,Y,rfl,⟨rfl,_⟩,_⟩:=h;exact#[a,_,Z,b]
def ED:ah P w K mg base (gr P w) k f c z13z (eP C T b N 0):=by
 let n:∀{V H Q E},¬eP C T b N 0 V H Q E:=by rintro V H Q E ⟨r,e,g,l,j,m,D,t,i,L,q,v,d,u,x,X,p,I,_,_,z,_⟩;omega
 exact#[λV H Q E h=>(n h).elim,λA o s H a U V Q E y B F G h=>(n h).elim]
theorem Hv(d:RK K C)(F:aO K "chain_of" "BookRun.chain_of" BF k f)(B:aE K f z13z [])(m:bu K C "chain_of" k)(l:aO K "what_of" "BookRun.what_of" BG D e)(o:aE K e z20z [])(M:bu K C "what_of" D)(p:‹9› Q E ["part","args"] (gN n) "first_of")(q:‹9› U H z12z (gM n) "deed_at")(r:‹9› Y I ["part","step"] (yw n) "onward")(GT:ah P w K mg base (gr P w) 1 J g ["self"] (lE C T))(s:aE K g ["self"] [])(a:bu K C "take_turn" J)(G:⇑1 L h ["self","cell"] (gQ C))(t:aE K h ["self","cell"] [])(b:bu K C "number_in" L)(u:ah P w K mg base (gr P w) 1 v i ["deep"] (fq N))(x:aE K i ["deep"] [])(y:iu K (.ref v)=μ)(z:mg "deeper"=↑v)(A:‹2› fP O ["parts","f"] ni "part_of")(c:mg "tuple"=θ):∀j,ah P w K mg base (gr P w) (2*j+12) k f z13z (eP C T N n j)
 |0=>ED
 |j+1=>EN F d p q r (ET l d GT s a G t b u x y z A (Hv d F B m l o M p q r GT s a G t b u x y z A c j) B m) o M c
def Du:aj ["parts","f","args","cells","most","part"] z29z (ae Ge):=bN
def Fi(F:ti K "run" Ge f fd)(ck:RK K C)(mk:Mk K C fI)(GI:⇑2 fI y z26z (nj C))(bI:aE K y z26z [])(mC:mg "BookRun"=↑C)(cB:‹2› fB f0 ["ones","f","args"] iO "begun")(GA:ah P w K mg base (gr P w) 44 fA B z13z (eP C TL TD nA 16))(bA:aE K B z13z [])(M:bu K C "chain_of" fA):ah P w K mg base (gr P w) 45 f fd z29z (rW TL TD nA):=by
 erw[F.ok1 Du λc0 A O s H vs Q E G h=>?_]
 let⟨g,I,j,i,J,d,ds,ns,X,k,is,rfl,x,L,hn,ha,R,t,T,q,U⟩:=h;refine#[_,(jd (jA 5 Du.nd$ cB.e G.m$ ja (pv 0)$ ja (pv 1)$ ja (pv 2) jb)$ jg$ jo$ kf (ZQ mk GI G.m Z mC bI .nil bg$ ja (pv 0)$ ja (pv 3)$ ja (pv 4) jb) ck.cl M GA G.m bA .nil qm$ ja (pv 5)$ ja (pv 2)$ ja jf jb),?_];let⟨v,hv,tv,h0,V⟩:=x.at L;let⟨p,pr,rfl,hp⟩:=Bn tv;let⟨ps,W,h1,_⟩:=x.pa.2 i d _ L hn;refine ai λF1 f1=>#[_,Z,_,Z,_,Z,g,I,d.f,X,_,i,.ref p,p,d.pa,pr,_,Z,x.at',hv,Z,hp,W,ha,by rw[NO,NO];omega,V,f1 _ _ ?_];refine#[_,Z,_,Z,_,Z,λr D N nd ne=>?_];let s0:aa H (af (af H D$ .own r) r$ .ins C D []):=λc o e=>by rwa[jh$ jk e N,jh$ jk e nd]
 refine#[r,D,g,j,60,Z,jc,λl Y=>#[Z,?_]];let n0:l≠r:=λe=>by rw[e,jc]at Y;cases Y
 let n:H l=θ:=by
  cases z:H l with
  |none=>rfl
  |some o=>have:=s0 _ _ z;rw[Y]at this;cases this
 let S:aa H (af (af (af (af H D$ .own r) r$ .ins C D []) l$ .dK []) r$ .ins C D$ iR j l g 60 0):=λc o e=>by rw[jh$ jk e N,jh$ jk e n];exact s0 _ _ e
 let R1:Rn (af (af (af (af H D$ .own r) r$ .ins C D []) l$ .dK []) r$ .ins C D$ iR j l g 60 0) C r D j l g 60 0 [] J:=#[jc,by rw[jh n0];exact jc,S _ _ t,GT.nil,T,jk t n];generalize af (af (af (af H D$ .own r) r$ .ins C D []) l$ .dK []) r (.ins C D$ iR j l g 60 0)=H1 at S R1;let t0:=aa.tm S;refine#[r,D,_,Z,R1.ins,Z,_,Z,_,Z,r,D,j,l,g,I,0,0,i,[],J,.ref p,d,ds,ns,X,k,is,Z,Z,WL,R1,NQ _,WL,x.mono t0,L,hn,hv,S _ _ ha,R,λu sk a L' H2 eq hc ok dp ia R2 l2 t2 k2=>?_,oK.next$ U.mono λH' kk=>λb o nx e=>kk b o (jk e N) (jk e n) nx (S _ _ e)];exact q u sk a L' H2 (by rw[Rp]at eq;exact eq) hc ok WM WM λc o e=>k2 c o (jk e N) (jk e n) (S _ _ e)
noncomputable def gL:Sk->Tr
 | .nil=>.nil
 | .st n h w r=>.cons (aB [ar n,aB (h.map ar),gL w]) (gL r)
 | .ask b=>aB [aL "ask",ar b]
 | .rd c i=>aB [aL "read",ar c,ar i]
 | .wr c i=>aB [aL "write",ar c,ar i]
 | .cl f I s a=>aB [aL "call",aB [aL f,aB (I.map ar),.tp (gL s),ar a]]
theorem ZI:∀{b:Bool} {s:Sk},s.ok b->(gL s).isL=b
 |true,.nil,_ |true,.st _ _ _ _,_ |false,.cl _ _ _ _,_ |false,.ask _,_ |false,.rd _ _,_ |false,.wr _ _,_=>rfl
def zi{H:Hp}{a:tz Int}(e:H h=δ (.tup$ a.map sn)):aT H (aB$ a.map ar) (.ref h) []:=jF e Ko
theorem J1:∀{b:Bool} {s:Sk},s.ok b->∀{u:V} {X:tz V},dR H s u X->(b=ν->X=[])->(b=μ->u= .non)->aT H (gL s) u X
 |true,.nil,_=>λh _ _=>h
 |true,.st n t w r,o=>λq _ z=>by let⟨p,h,u,y,e,d,j,k,l⟩:=q;rw[e,z Z];exact#[Z,ZI o.2,_,_,Z,jF d$ jl Z jX$ jl Z (zi j)$ jl (ZI o.1) (J1 o.1 k (λ_=>Z) (λx=>nomatch x)) jC,J1 o.2 l (λx=>nomatch x) (λ_=>Z)]
 |false,.ask b,_=>λq z _=>by let⟨p,e,h⟩:=q;rw[e,z Z];exact jF h (jl Z jU (jl Z jX jC))
 |false,.rd c i,_ |false,.wr c i,_=>λq z _=>by let⟨p,e,h⟩:=q;rw[e,z Z];exact jF h (jl Z jU (jl Z jX (jl Z jX jC)))
 |false,.cl f I s a,o=>λq z _=>by let⟨p,c,g,e,S,E,d,j,k,l,m⟩:=q;rw[E,z Z];exact jF d$ jl Z jU$ jl Z (jF j$ jl Z jU$ jl Z (zi k)$ jl Z #[ZI o,e,S,Z,l,J1 (b:=μ) o m (λx=>nomatch x) (λ_=>Z)] (jl Z jX jC)) jC
theorem zr:∀i:tz Int,(aA$ i.map ar).dep=0
 | []=>rfl
 |_::i=>by show max 0 (aA (i.map ar)).dep=0;rw[zr i];rfl
theorem Xk:∀{b:Bool} {s:Sk},s.ok b->(gL s).dep<=4*s.dep+(if b=μ then 2 else 1)
 |true,.nil,_=>NY _
 |true,.st n H w r,o=>by let h:=Xk (b:=ν) (s:=w) o.1;let c:=Xk (b:=μ) (s:=r) o.2;let d:=zr H;let h:(gL w).dep<=4*w.dep+1:=h;let c:(gL r).dep<=4*r.dep+2:=c;show max (max 0 (max ((aA$ H.map ar).dep+1)$ max (gL w).dep 0)+1) (gL r).dep<=4*max w.dep r.dep+2;omega
 |false,.ask _,_ |false,.rd _ _,_ |false,.wr _ _,_=>NQ 1
 |false,.cl f i s a,o=>by let h:=Xk (b:=μ) (s:=s) o;let d:=zr i;let h:(gL s).dep<=4*s.dep+2:=h;show max 0 (max (max 0 (max ((aA$ i.map ar).dep+1)$ max ((gL s).dep+1)$ max 0 0)+1) 0)+1<=4*(s.dep+1)+1;omega
noncomputable def At(f:ρ)(i:tz Int)(s:Sk)(a:Int):Tr:=aA [aL f,aB$ i.map ar,.tp$ gL s,ar a]
def CV(h:lM H f i s a u)(o:s.ok μ):aT H (.tp$ At f i s a) u []:=by let⟨c,g,e,S,rfl,d,j,k,l⟩:=h;exact jF d$ jl Z jU$ jl Z (zi j)$ jl Z #[ZI o,e,S,Z,k,J1 (b:=μ) o l (λx=>nomatch x) (λ_=>Z)] (jl Z jX jC)
def DU{s:Sk}(o:s.ok μ)(d:s.dep<=15):(At f i s a).dep < 100:=by let h:=Xk (b:=μ) (s:=s) o;let H:=zr i;let h:(gL s).dep<=4*s.dep+2:=h;show max 0 (max ((aA$ i.map ar).dep+1)$ max ((gL s).dep+1)$ max 0 0) < 100;omega
def Fz{p:tz ρ}{v:V}(h:nH H N d y v)(g:H d.pa=δ (.tup$ p.map rz)):∃q,Al H N d y q:=by
 let⟨W,E,i⟩:=h.way;let⟨a,J,L,O,rfl,Q,m,r,j⟩:=h.parts;let⟨C,s,t⟩:=Aq (R:=λc u=>Hd H y N d c u) (b6 N d) λc k=>by let⟨n,x,z⟩:=iv.mp k;let⟨S,T,U,X,A,_,o⟩:=h.cut j (n:=n) (c:=c) (by rw[<- z];exact NK x);let⟨e,B,D,F⟩:=HU o.v.deed;let⟨G,I,l⟩:=Aq (R:=λ(w:Wy) (W:WD)=>W.wy N=w/\Ac H y d.b.cuts d.b.size W) c.ws λw m=>o.v.ways w m;exact#[#[canon c.M,e,G],Z,B,D,F,I,l]
 exact#[#[d.f,p,W,C],Z,g,E,i,s,t]
def IK{H:Hp}{D:tz Df}(a:H l=δ (.tup x))(T:aT H (aA$ D.map$ gf n) .non x)(g:∃z,dh H D z)(o:uN D N)(j:nG H D N):∃p,Ps H n l D N x p:=by
 let L:=zq T;rw[NO]at L;let⟨p,m,q⟩:=Aq (R:=λd c=>∃y,(d.b.Ok y/\y.length<=20)/\Al H n d y c) D λd e=>by
  let⟨i,r,E⟩:=iv.mp e;let h:D[i]?=δ d:=by rw[<- E];exact NK r
  let s:x[i]?=δ (x[i]'WM):=NK _;let⟨t,k,u⟩:=qZ T i _ s;rw[Od,h]at k;cases k;let⟨z,A⟩:=g;obtain⟨⟨y,Y,o⟩,_,S⟩:=(o.1 d e).1;let⟨C,f,_⟩:=j.v d e;let⟨c,B⟩:=Fz (v:=x[i]'WM) #[u,vp A h,o,Y,S] f;exact#[c,y,#[o,Y],B]
 exact#[p,a,T,g,o,j,m,q]
def CY{call:oq}{w:Sk}(h:iI call C k L t e= .ok w l T):t < 60:=by
 by_cases z:t < 60
 .exact z
 .rw[pF z]at h;cases h
noncomputable def Et:V->Bool
 | .int _ | .str _=>μ
 |_=>ν
def _root_._L.Tr.In:Tr->Prop
 | .lf v=>Et v=μ
 | .tp l=>l.In
 | .nil=>True
 | .cons h t=>h.In/\t.In
def _root_._L.Tr.items:Tr->tz Tr
 | .cons h t=>h::t.items
 |_=>[]
theorem Xl{H:Hp}:∀{t u:Tr} {x:V} {xs:tz V},aT H t x xs->aT H u x xs->t.isL=u.isL->t.In->u.In->t=u
 | .lf v,.lf w=>λh k _ _ _=>by rw[<- h.1,<- k.1]
 | .lf v,.tp m=>λh k _ i _=>by let⟨_,a,_,e,_⟩:=k;let E:=h.1;rw[e]at E;rw[<- E]at i;cases i
 | .tp l,.lf v=>λk h _ _ i=>by let⟨_,a,_,e,_⟩:=k;let E:=h.1;rw[e]at E;rw[<- E]at i;cases i
 | .tp l,.tp m=>λh k _ i j=>by let⟨o,a,xs,e,p,q⟩:=h;let⟨r,b,Y,c,d,f⟩:=k;rw[e]at c;cases c;rw[p]at d;cases d;rw[Xl q f (o.trans r.symm) i j]
 | .nil,.nil=>λ_ _ _ _ _=>rfl
 | .nil,.cons _ _=>λh k _ _ _=>by let⟨_,_,_,_,e,_⟩:=k;let h:_=[]:=h;rw[e]at h;cases h
 | .cons _ _,.nil=>λk h _ _ _=>by let⟨_,_,_,_,e,_⟩:=k;let h:_=[]:=h;rw[e]at h;cases h
 | .cons h t,.cons G T=>λk s _ i j=>by let⟨A,B,y,Y,e,d,f⟩:=k;let⟨C,D,I,F,c,g,n⟩:=s;rw[e]at c;cases c;rw[Xl d g (A.trans C.symm) i.1 j.1,Xl f n (B.trans D.symm) i.2 j.2]
 | .lf _,.nil | .lf _,.cons _ _ | .tp _,.nil | .tp _,.cons _ _ | .nil,.lf _ | .nil,.tp _ | .cons _ _,.lf _ | .cons _ _,.tp _=>λ_ _ z _ _=>nomatch z
theorem qI:∀{l:Tr} {X:tz V},l.isL=μ->l.In->aT H l .non X->X.length=l.items.length/\∀(j:Nat) (x:V),X[j]?=δ x->∃t,l.items[j]?=δ t/\t.isL=ν/\t.In/\t.dep<=l.dep/\aT H t x []
 | .nil,X,_,_,h=>by let h:X=[]:=h;rw[h];exact#[Z,λj x z=>by simp at z]
 | .cons a t,X,_,i,h=>by
  let⟨A,c,y,Y,e,k,d⟩:=h;subst e;let⟨L,f⟩:=qI c i.2 d;refine#[O1 (·+1) L,λj x b=>?_];cases j with
  |zero=>cases b;exact#[a,Z,A,i.1,RB _ _,k]
  |succ j=>let⟨u,g,m,n,o,p⟩:=f j x (by simpa using b);exact#[u,by simpa [_L.Tr.items] using g,m,n,N6 o$ Rq _ _,p]
 | .lf _,_,z,_,_ | .tp _,_,z,_,_=>nomatch z
theorem Ym:∀{l m:Tr} {x y:tz V},l.isL=μ->m.isL=μ->aT H l .non x->aT H m .non y->(l=m↔l.items=m.items)
 | .nil,.nil,_,_,_,_,_,_=>#[λ_=>Z,λ_=>Z]
 | .nil,.cons _ _,_,_,_,_,_,_ | .cons _ _,.nil,_,_,_,_,_,_=>#[λz=>(nomatch z),λz=>(nomatch z)]
 | .cons a t,.cons b u,_,_,_,_,h,k=>by let⟨_,A,_,_,_,_,d⟩:=h;let⟨_,B,_,_,_,_,c⟩:=k;let i:=Ym A B d c;refine#[λz=>by cases z;rfl,λz=>?_];let z:a::t.items=b::u.items:=z;injection z with e f;rw[e,i.mpr f]
 | .lf _,_,_,_,z,_,_,_ | .tp _,_,_,_,z,_,_,_ | .nil,.lf _,_,_,_,z,_,_ | .nil,.tp _,_,_,_,z,_,_ | .cons _ _,.lf _,_,_,_,z,_,_ | .cons _ _,.tp _,_,_,_,z,_,_=>nomatch z
open Classical in
def fQ(t u:Tr):Bool:=decide (t=u)
open Classical in
def zI(h:t=u):fQ t u=μ:=by unfold fQ;exact N4 h
open Classical in
def zh(h:t≠u):fQ t u=ν:=by unfold fQ;exact NW h
def lK(l m:Tr)(j:Nat):Bool:=match l.items[j]?,m.items[j]? with
 |some t,δ u=>fQ t u
 |_,_=>μ
def Yn{l m:Tr}(a:l.isL=μ)(b:m.isL=μ)(h:aT H l .non x)(k:aT H m .non y)(d:n=l.items.length)(E:N=m.items.length):((dN$ min n N).all (lK l m)&&n==N)=fQ l m:=by
 by_cases e:l=m
 .subst e;rw[zI Z,d,E,Sc,Bool.and_true,Sv];intro j _;unfold lK;cases l.items[j]? with
  |none=>rfl
  |some t=>exact zI Z
 .rw[zh e];let f:l.items≠m.items:=λz=>e ((Ym a b h k).mpr z);by_cases g:n=N
  .let z:(dN$ min n N).all (lK l m)=ν:=by rw[Vc];intro z;rw[Sv]at z;erw[f$ Ss WM λj i o=>?_];let:=z j (rs.mpr WM);unfold lK at this;rw[NK i,NK o]at this;exact Classical.byContradiction λc=>by let C:=zh c;dsimp only at this;rw[C]at this;cases this
   rw[z];rfl
  .rw[show(n==N)=ν from beq_eq_false_iff_ne.mpr g,Tg]
section
open PySem.SeqAt
variable {X:Cx}
def Ir{w:V}(H:Et v=μ)(h:Et w=μ)(R:aJ v a)(r:aJ w b):EqAt A s a b (fQ (.lf v)$ .lf w):=by
 cases v with
 |int i=>
  let⟨T,rfl⟩:=R;cases w with
  |int j=>
   let⟨t,rfl⟩:=r;let z:=VX (A:=A) (s:=s) i T j t;by_cases e:i=j
   .subst e;rw[Sc]at z;rwa[zI Z]
   .rw[beq_eq_false_iff_ne.mpr e]at z;rw[zh (λc=>e (by injection c with c;injection c))];exact z
  |str y=>let⟨t,rfl⟩:=r;rw[zh (λc=>by injection c with c;cases c)];exact EqAt.int_str _ _ _ _
  |_=>cases h
 |str i=>
  let⟨T,rfl⟩:=R;cases w with
  |str j=>
   let⟨t,rfl⟩:=r;let z:=VW (A:=A) (s:=s) i T j t;by_cases e:i=j
   .subst e;rw[Sc]at z;rwa[zI Z]
   .rw[beq_eq_false_iff_ne.mpr e]at z;rw[zh (λc=>e (by injection c with c;injection c))];exact z
  |int y=>let⟨t,rfl⟩:=r;rw[zh (λc=>by injection c with c;cases c)];exact EqAt.str_int _ _ _ _
  |_=>cases h
 |_=>cases H
def IV(I:au X p σ H s)(n:Nat)(G:∀(t:Tr) {A:bU},t.dep<=n->A.units+n < cLine->t.In->t.isL=ν->∀{u:Tr} {x y:V},u.In->u.isL=ν->aT H t x []->aT H u y []->∀a b,aJ x a->aJ y b->EqAt A s a b (fQ t u)){l m:Tr}(hn:l.dep<=n)(hu:A.units+n+1 < cLine)(J:l.In)(L:m.In)(d:l.isL=μ)(f:m.isL=μ)(M:H g=δ (.tup i))(N:H B=δ (.tup o))(T:aT H l .non i)(q:aT H m .non o):RcAt A s (.ref g) (.ref B) (fQ (.tp l)$ .tp m):=by
 let⟨v,r,O,_⟩:=I.tuple (aC.of (K:=X.K) M);let⟨C,R,Q,_⟩:=I.tuple (aC.of (K:=X.K) N);let⟨S,U⟩:=qI d J T;let⟨W,Y⟩:=qI f L q;let z:=RcAt.tuples (A:=A) (e:=lK l m) (show s.heap.IsTuple g v.toArray from O) (show s.heap.IsTuple B C.toArray from Q) WM (λj h1 h2=>?_)
 .rw[Yn d f T q (by rw[NR,<- r.length,S]) (by rw[NR,<- R.length,W])]at z;let E:fQ (.tp l) (.tp m)=fQ l m:=by
   by_cases c:l=m
   .rw[zI c,zI (by rw[c])]
   .rw[zh c,zh (λk=>c (by injection k))]
  rwa[E]
 .let la:=r.length;let lb:=R.length;let D:j < i.length:=by simp at h1;omega
  let h:j < o.length:=by simp at h2;omega
  let⟨u1,q1,r1⟩:=r.get (NK D);let⟨u2,q2,r2⟩:=R.get (NK h);let e1:v.toArray[j]=u1:=by let⟨_,e⟩:=ξ.mp q1;simpa using e
  let E:C.toArray[j]=u2:=by let⟨_,e⟩:=ξ.mp q2;simpa using e
  rw[e1,E];let⟨F,g1,g2,g3,g4,g5⟩:=U j _ (NK D);let⟨u',k1,k2,k3,k4,k5⟩:=Y j _ (NK h);let et:lK l m j=fQ F u':=by unfold lK;rw[g1,k1]
  rw[et];exact G F (A:=A.in1) WM (by show A.units+1+n < cLine;omega) g3 g2 k3 k2 g5 k5 _ _ r1 r2
def YS(I:au X z Y H s):∀(n:Nat) (t:Tr) {A:bU},t.dep<=n->A.units+n < cLine->t.In->t.isL=ν->∀{u:Tr} {x y:V},u.In->u.isL=ν->aT H t x []->aT H u y []->∀a b,aJ x a->aJ y b->EqAt A s a b (fQ t u):=by
 intro n;induction n with
 |zero=>
  intro t A k J i L u x y d g j h a b R r;cases t with
  |tp l=>exact absurd k (by show ¬l.dep+1<=0;omega)
  |nil |cons _ _=>cases L
  |lf v=>
   let⟨rfl,_⟩:=j;cases u with
   |nil |cons _ _=>cases g
   |lf w=>let⟨rfl,_⟩:=h;exact Ir i d R r
   |tp m=>
    let⟨_,B,M,rfl,o,_⟩:=h;cases r;let⟨W,N,C,_⟩:=I.tuple (aC.of (K:=X.K) o);rw[zh (λc=>by cases c)];cases x<;>first |cases i |skip
    .let⟨T,rfl⟩:=R;exact EqAt.int_tuple _ _ C WM
    .let⟨T,rfl⟩:=R;exact EqAt.str_tuple _ _ C WM
 |succ n D=>
  intro t A k J i L u x y d g j h a b R r;cases t with
  |nil |cons _ _=>cases L
  |lf v=>exact D (.lf v) (NY _) WM i L d g j h a b R r
  |tp l=>
   let⟨E,p,O,rfl,q,F⟩:=j;cases R;let⟨ia,Q,G,_⟩:=I.tuple (aC.of (K:=X.K) q);cases u with
   |nil |cons _ _=>cases g
   |lf w=>
    let⟨rfl,_⟩:=h;rw[zh (λc=>by cases c)];cases y<;>first |cases d |skip
    .let⟨T,rfl⟩:=r;exact VG _ _ G WM
    .let⟨T,rfl⟩:=r;exact EqAt.tuple_str _ _ G WM
   |tp m=>
    let f:=id h;let⟨S,B,M,rfl,o,U⟩:=h;cases r;by_cases e:p=B
    .subst e;rw[zI$ Xl (H:=H) (t:=.tp l) (u:=.tp m) (x:=.ref p) (xs:=[]) #[E,p,O,Z,q,F] f Z i d];exact EqAt.same _
    .exact EqAt.of_refs e$ IV I n D (by let:l.dep+1<=n+1:=k;omega) WM i d E S q o F U
inductive IN(d:Nat)(x y:V)(H:Hp)(Q:VK):Prop
 |mk(l m:Tr)(_:l.dep < d)(_:l.In)(_:m.In)(_:aT H (.tp l) x [])(_:aT H (.tp m) y [])(_:Q (.bl (fQ (.tp l) (.tp m))) H)
def KS{d:Nat}(c:X.A.units+d+1 < cLine):fX X (compareOp .Eq) (IN d):=by intro p s n H x y v u Q I r R h;obtain⟨l,m,o,i,e,⟨f,a,z,rfl,g,t⟩,⟨j,b,B,rfl,k,T⟩,q⟩:=h;cases r;cases R;exact IV I d (YS I d) WM c i e f j g k t T X.prog X.w _ _ #[.bl _,H,I,Z,q]
end
noncomputable abbrev FY:cc:=bQ 27
def dU{w:V}:eM (v::u::w::y) 2=δ w:=jK (j:=2) Z
def Hu{w:V}:eM (v::u::w::z::y) 3=δ z:=jK (j:=3) Z
def pG{X:tz V}{i:Nat}{x:V}(h:X[i]?=δ x):X.drop i=x::X.drop (i+1):=by let⟨H,e⟩:=ξ.mp h;rw[<- e,O9]
def qc(h:lM H f i s a u)(k:am H b):lM b f i s a u:=by let⟨c,g,e,S,E,d,j,l,m⟩:=h;exact#[c,g,e,S,E,k _ _ d,k _ _ j,k _ _ l,m.mono k]
noncomputable def d9:Sk->Tr
 | .rd c _=>aB [aL "read",ar c]
 | .cl f I _ _=>aB [aL "call",aL f,aB (I.map ar)]
 | .wr c i=>aB [aL "write",ar c,ar i]
 | .ask b=>aB [aL "ask",ar b]
 |_=>.nil
def D7{call:oq}{w:Sk}(h:iI call C k L t e= .ok w i j):d9 w=HV k e:=by
 let b:=CY h;cases e with
 |ask d T=>rw[YR b]at h;cases h;rfl
 |st p l=>
  cases l with
  |gv d T |st x d T=>unfold iI at h;rw[N0 b]at h;cases h
  |rd x d T=>rw[vk b]at h;cases h;rfl
  |wr d u T U=>rw[vm b]at h;cases h;rfl
  |cl x f q g=>
   rw[QL b]at h;cases e:call f (g.map λc=>c.2.ev k) L (t+1) with
   |long |deep=>rw[e]at h;cases h
   |ok s a _L m=>rw[e]at h;cases h;show aB [_,_,aB ((g.map λc=>c.2.ev k).map ar)]=_;rw[Rm];rfl
inductive nW(b:tz V)(H:Hp)(Q:VK)(a:XK):Prop
 |mk(u:V)(w:Sk)(_:b=[u])(_:dR H w u [])(_:w.ok ν)(_:∀(v:V) (H':Hp),aT H' (d9 w) v []->aa H H'->Q v H')
def IY:aj ["what"] ["what"] (ae FY):=bN
def EW(F:ti K "deed_in" FY f B):⇑1 f B ["what"] nW:=by
 erw[F.ok IY λC A o s H V Q E l h=>?_]
 let⟨u,w,rfl,m,t,q⟩:=h;refine#[_,(jd (jz (kh$ jy$ pv 0) (jg$ jo$ jJ j8 (pv 0) jT$ jI jf) jp)$ jd (jz (kh$ jy$ pv 0) (jg$ jo$ jx jV (ji$ ja jm jb)$ jJ j8 (jy$ pv 0) jT$ jI jf) jp)$ jg$ jo$ pv 0),?_];cases w with
 |nil |st=>exact t.elim
 |ask b=>let⟨p,rfl,d⟩:=m;erw[ai λk i=>(ju d Z #[Z,_,Z,aY WO$ i _ _ ?_])];erw[ai λk i=>(ju d Z #[Z,_,Z,aY WO$ i _ _ ?_])];exact#[_,Z,q _ _ (jF d$ jl Z jU$ jl Z jX jC)$ aa.refl _]
 |wr b D=>let⟨p,rfl,d⟩:=m;erw[ai λk i=>(ju d Z #[Z,_,Z,aY WO$ i _ _ ?_])];erw[ai λk i=>(ju d Z #[Z,_,Z,aY WO$ i _ _ ?_])];exact#[_,Z,q _ _ (jF d$ jl Z jU$ jl Z jX$ jl Z jX jC)$ aa.refl _]
 |rd b D=>let⟨p,rfl,d⟩:=m;erw[ai λk i=>(ju d Z #[Z,_,Z,c8 WO #[_,Z,_,Z,p,_,Z,d,λr y l S=>q _ _ ?_ S]])];let l:y r=δ (.tup [.str "read",.int b]):=l;exact jF l$ jl Z jU$ jl Z jX jC
 |cl f R s a=>let⟨p,c,g,e,T,rfl,d,G,I,U,W⟩:=m;erw[ai λk i=>(ju d Z #[Z,_,Z,aY WO$ i _ _ ?_])];erw[ai λk i=>(ju d Z #[Z,_,Z,c8 WO #[iQ,λJ n=>(ju (aq d n) iy #[_,Z,c,_,Z,aq G n,λL y v S=>#[J,L,_,_,Z,Z,S _ _ jc,v,hZ,λM N j z=>q _ _ ?_ (((je n).trans S).trans z)]])]])];let j:N M=δ (.tup [.str "call",.str f,.ref g]):=j;exact jF j$ jl Z jU$ jl Z jU$ jl Z (zi$ z _ _$ S _ _$ aq I n) jC
noncomputable abbrev BV:cc:=bQ 7
noncomputable abbrev BW:cc:=bQ 8
noncomputable abbrev BP:cc:=bQ 9
abbrev aM:=tz Int
abbrev aN:=Int×tz Int×Sk
abbrev RA(a:Type):=Hp->V->a->Prop
def bX{a:Type}(R:RA a)(H:Hp):tz a->tz V->Prop
 | [],v=>v=[]
 |w::W,v=>∃x r,v=x::r/\R H x w/\bX R H W r
def LJ{a:Type}(R:RA a):Prop:=∀(H h:Hp) (x:V) (w:a),am H h->R H x w->R h x w
section
variable {α:Type}{R:RA α}
theorem bX.mono(a:LJ R)(k:am H b):∀{W:tz α} {v:tz V},bX R H W v->bX R b W v
 | [],_,h=>h
 |_::_,_,z=>by let⟨x,r,e,c,d⟩:=z;exact #[x,r,e,a _ _ _ _ k c,bX.mono a k d]
theorem bX.app(a:bX R H b y):∀{W:tz α} {v:tz V},bX R H W v->bX R H (W++b) (v++y)
 | [],_,h=>by let e:_=[]:=h;rwa[e]
 |_::_,_,z=>by let⟨x,r,e,c,d⟩:=z;exact #[x,r++y,by rw[e];rfl,c,bX.app a d]
theorem bX.len:∀{W:tz α} {v:tz V},bX R H W v->v.length=W.length
 | [],_,h=>by let e:_=[]:=h;rw[e];rfl
 |_::_,_,z=>by let⟨x,r,e,b,a⟩:=z;rw[e];exact O1 (·+1) (bX.len a)
theorem bX.at:∀{W:tz α} {v:tz V},bX R H W v->∀{i:Nat} {x:V},v[i]?=δ x->∃w,W[i]?=δ w/\R H x w
 | [],_,h,i,x,a=>by let e:_=[]:=h;rw[e]at a;simp at a
 |w::_,_,q,0,x,a=>by let⟨y,r,e,b,c⟩:=q;rw[e]at a;cases a;exact#[w,Z,b]
 |w::W,_,q,i+1,x,a=>by let⟨y,r,e,b,c⟩:=q;rw[e]at a;exact bX.at c (i:=i) (by simpa using a)
def bX.one{w:α}(h:R H x w):bX R H [w] [x]:=#[x,[],Z,h,Z]
theorem bX.map{a:Type}{S:RA a}{g:α->a}{f:V->V}(h:∀x w,R H x w->S H (f x) (g w)):∀{W:tz α} {v:tz V},bX R H W v->bX S H (W.map g) (v.map f)
 | [],_,e=>by let e:_=[]:=e;rw[e];rfl
 |_::_,_,z=>by let⟨x,r,e,b,c⟩:=z;exact #[f x,r.map f,by rw[e];rfl,h _ _ b,bX.map h c]
end
def iq:RA aM:=λH x p=>∃a,x= .ref a/\H a=δ (.tup$ p.map sn)
def cQ:LJ iq:=λ_ _ _ _ k #[a,e,h]=>#[a,e,k _ _ h]
def Hr:RA (aM×Sk):=λH x w=>∃q p u,x= .ref q/\H q=δ (.tup [.ref p,u])/\H p=δ (.tup$ w.1.map sn)/\dR H w.2 u []
def pT:LJ Hr:=λ_ _ _ _ k #[q,p,u,e,h,H,a]=>#[q,p,u,e,k _ _ h,k _ _ H,a.mono k]
noncomputable def Sk.steps:Sk->tz aN
 | .st n h w r=>(n,h,w)::r.steps
 |_=>[]
noncomputable def Sk.ws:Sk->aM->Nat->tz (aM×Sk)
 | .st _ _ w r,p,k=>((p++[(k:Int)],w)::w.ws (p++[(k:Int)]) 0)++r.ws p (k+1)
 | .cl _ _ s _,p,_=>s.ws p 0
 |_,_,_=>[]
noncomputable def eG:tz aN->aM->Nat->tz (aM×Sk)
 | [],_,_=>[]
 |s::r,p,k=>((p++[(k:Int)],s.2.2)::s.2.2.ws (p++[(k:Int)]) 0)++eG r p (k+1)
theorem zO:∀{s:Sk},s.ok μ->∀p k,s.ws p k=eG s.steps p k
 | .nil,_,_,_=>rfl
 | .st _ _ w r,o,p,k=>by show _++r.ws p (k+1)=_++eG r.steps p (k+1);rw[zO o.2]
theorem qd:∀(a b:tz aN) (p:aM) (k:Nat),eG (a++b) p k=eG a p k++eG b p (k+a.length)
 | [],_,_,_=>rfl
 |s::a,b,p,k=>by show _++eG (a++b) p (k+1)=(_++eG a p (k+1))++eG b p (k+(a.length+1));rw[qd a b,Pt,show k+1+a.length=k+(a.length+1) by omega]
theorem ze:∀{b:Bool} {s:Sk},s.ok b->∀(p:aM) (k:Nat),(s.ws p k).length=s.size
 |true,.nil,_,_,_=>rfl
 |true,.st _ _ w r,o,p,k=>by let h:=ze (b:=ν) (s:=w) o.1 (p++[(k:Int)]) 0;let H:=ze (b:=μ) (s:=r) o.2 p (k+1);show(((p++[(k:Int)],w)::w.ws (p++[(k:Int)]) 0)++r.ws p (k+1)).length=w.size+r.size+1;rw[NP,Oq,h,H];omega
 |false,.cl _ _ s _,o,p,_=>ze (b:=μ) (s:=s) o p 0
 |false,.ask _,_,_,_ |false,.rd _ _,_,_,_ |false,.wr _ _,_,_,_=>rfl
def Xm(a:tz aN)(i:Nat)(p:aM)(k:Nat):(eG (a.take i) p k).length<=(eG a p k).length:=by let:=O1 ot (qd (a.take i) (a.drop i) p k);rw[Rc,NP]at this;omega
theorem qF:∀{s:Sk} {S:tz V},s.ok μ->dR H s .non S->∀{i:Nat} {x:V},S[i]?=δ x->∃n b w p h u,s.steps[i]?=δ (n,b,w)/\w.ok ν/\w.dep<=s.dep/\w.size+1<=s.size/\x= .ref p/\H p=δ (.tup [.int n,.ref h,u])/\H h=δ (.tup$ b.map sn)/\dR H w u []
 | .nil,_,_,e,i,x,a=>by let e:_=[]:=e;rw[e]at a;simp at a
 | .st n b w r,_,o,q,0,x,a=>by let⟨p,h,u,y,e,d,f,g,j⟩:=q;rw[e]at a;cases a;exact#[n,b,w,p,h,u,Z,o.1,RB _ _,by show w.size+1<=w.size+r.size+1;omega,Z,d,f,g]
 | .st n b w r,_,o,q,i+1,x,a=>by let⟨p,h,u,y,e,d,f,g,j⟩:=q;rw[e]at a;let⟨N,c,W,k,l,U,t,T,m,z,v⟩:=qF o.2 j (i:=i) (x:=x) (by simpa using a);exact#[N,c,W,k,l,U,t,T,N6 m$ Rq _ _,by show W.size+1<=w.size+r.size+1;omega,v]
theorem zD:∀{s:Sk} {S:tz V},s.ok μ->dR H s .non S->S.length=s.steps.length
 | .nil,_,_,e=>by let e:_=[]:=e;rw[e];rfl
 | .st n b w r,_,o,z=>by let⟨p,h,u,y,e,c,d,f,a⟩:=z;rw[e];exact O1 (·+1) (zD o.2 a)
def l9(p:aM)(k:Nat):p.map sn++[sn (k:Int)]=(p++[(k:Int)]).map sn:=by rw[Ol];rfl
inductive oi(n:Nat)(d:tz V)(H:Hp)(Q:VK)(a:XK):Prop
 |mk(b:η)(c:aM)(w:Sk)(u:V)(_:d=[.ref b,u])(_:H b=δ (.tup (c.map sn)))(_:c.length+n<=100)(_:dR H w u [])(_:w.ok ν)(_:w.dep < n)(_:w.size<=1000)(_:∀(r:η) (xs:tz V) (H':Hp),H r=θ->H' r=δ (.lst xs)->bX Hr H' ((c,w)::w.ws c 0) xs->aa H H'->Q (.ref r) H')
inductive lG(n:Nat)(g:tz V)(H:Hp)(Q:VK)(b:XK):Prop
 |mk(d:η)(e:aM)(f:ρ)(c:tz Int)(s:Sk)(a:Int)(u:V)(_:g=[.ref d,u])(_:H d=δ (.tup (e.map sn)))(_:e.length+n+1<=100)(_:lM H f c s a u)(_:s.ok μ)(_:s.dep < n)(_:s.size<=1000)(_:∀(r:η) (xs:tz V) (H':Hp),H r=θ->H' r=δ (.lst xs)->bX Hr H' (s.ws e 0) xs->aa H H'->Q (.ref r) H')
inductive Nb(h k:η)(j:aM)(u:V)(s:Sk)(H:Hp)(i:Nat)(m:_L.St)(a:Hp):Prop
 |mk(f g:tT V)(l:tz V)(b:m=[↑h,δ u,↑k,f,g])(c:a k=δ (.lst l))(d:bX Hr a (eG (s.steps.take i) j 0) l)(e:aa H a)
def cy(p:aM)(w:Sk):tz aM:=p::(w.ws p 0).map (·.1)
def qJ{w:Sk}(o:w.ok ν)(p:aM):(cy p w).length=w.size+1:=by unfold cy;rw[Oq,NO,ze o]
inductive lX(n:Nat)(d:tz V)(H:Hp)(Q:VK)(a:XK):Prop
 |mk(b:η)(c:aM)(w:Sk)(u:V)(_:d=[.ref b,u])(_:H b=δ (.tup (c.map sn)))(_:c.length+n<=100)(_:dR H w u [])(_:w.ok ν)(_:w.dep < n)(_:w.size<=1000)(_:∀(r:η) (xs:tz V) (H':Hp),H r=θ->H' r=δ (.lst xs)->bX iq H' (cy c w) xs->aa H H'->Q (.ref r) H')
noncomputable def sU(H:Hp):V->V
 | .ref q=>match H q with
  |some (.tup (x::_))=>x
  |_=>.non
 |_=>.non
def Jq(l:tz V):(dN l.length).map (λi=>(l[i]?).getD .non)=l:=by erw[Ss WN λi H h=>?_];simp [NK h]
def C9{H:Hp}(h:H q=δ (.tup [.ref p,u])):sU H (.ref q)= .ref p:=by show(match H q with |some (.tup (x::_))=>x |_=>V.non)=_;rw[h]
def Dx:aj ["path","what","within"] z7z (ae BV):=bN
def wN{n:Nat}(F:ti K "whats_at" BV f fd)(cI:‹2*n+2› fI f0 ["path","chain"] (lG n) "whats_in"):⇑(2*n+3) f fd z7z (oi$ n+1):=by
 erw[F.ok Dx λc0 A O s H vs Q E hr h=>?_]
 let⟨j,v,w,u,rfl,U,h0,D,k,W,hz,q⟩:=h;refine#[_,(jd (jA 2 Dx.nd$ kU (kh$ jy$ pv 1) (cI.e hr.m$ ja (pv 0)$ ja (jy$ pv 1) jb)$ jE jb)$ jg$ jo$ jx qp (jE$ ja (ji$ ja (pv 0)$ ja (pv 1) jb) jb)$ pv 2),?_];let b0:=aK;let fl:=ze k v 0;erw[ai λF1 G=>?_];suffices X:∀(l:η) (x:tz V) (d:Hp),d l=δ (.lst x)->bX Hr d (w.ws v 0) x->aa H d->F1 [↑j,δ u,↑l] d by
  cases w with
  |nil |st=>exact k.elim
  |ask b |rd c i |wr c i=>let⟨p,rfl,y⟩:=D;exact(ju y Z #[Z,_,Z,aY WO #[fc,λl Y=>X l [] _ jc Z (je Y)]])
  |cl f is s a=>let⟨p,c,g,e,ss,rfl,y,h2,h3,h4,h5⟩:=D;let W:s.dep+1 < n+1:=W;exact(ju y Z #[Z,_,Z,c8 WO #[_,Z,ju y Z #[j,v,f,is,s,a,.ref c,Z,U,WM,#[c,g,e,ss,Z,h2,h3,h4,h5],k,WM,hz,λl x d Y I B S=>X l x d I B S]]])
 intro l x d I B S;erw[G _ _ ?_];let lx:=B.len;refine#[_,Z,_,Z,cj,λt J=>#[iQ,λL N=>#[_,Z,L,l,_,_,Z,Z,jc,aq (aq I J) N,by show 1+x.length<=_;omega,λr M=>?_]]];let C:aa d (af (af (af d t$ .tup [.ref j,u]) L$ .lst [.ref t]) r$ .lst ([.ref t]++x)):=((je J).trans$ je N).trans (je M);let ht:af (af (af d t$ .tup [.ref j,u]) L$ .lst [.ref t]) r (.lst ([.ref t]++x)) t=δ (.tup [.ref j,u]):=aq (aq jc N) M;let R:H r=θ:=by
  cases z:H r with
  |none=>rfl
  |some o=>have:=((je (o:=.lst [.ref t]) N) _ _ ((je (o:=.tup [.ref j,u]) J) _ _ (S _ _ z)));rw[M]at this;cases this
 exact q r _ _ R jc #[.ref t,x,Z,#[t,j,u,Z,ht,C _ _$ S _ _ U,D.mono$ aa.tm$ S.trans C],B.mono pT$ aa.tm C] (S.trans C)
def rJ:aj ["path","chain","told","number","step"] ["path","chain"] (ae BW):=bN
def Fn(F:ti K "whats_in" BW f fd)(cA:‹2*n+1› fA f2 z7z (oi n) "whats_at")(U:mg "enumerate"=θ):⇑(2*n+2) f fd ["path","chain"] (lG n):=by
 erw[F.ok rJ λc0 A V s H vs Q E Y h=>?_]
 let⟨pa,k,f,is,s,a,u,rfl,hp,h6,hc,d,hd,hz,q⟩:=h;refine#[_,(jd (jA 2 rJ.nd$ jE jb)$ jd (j6 Ot Z (Jr Z U$ ja (jy$ pv 1) jb) (zz (n:=2) Z$ jB (jw (i:=3) rJ.nd Z$ ω Z)$ jB (jw (i:=4) rJ.nd Z$ ω Z) kj)$ jg$ jH$ jZ NZ Pf Pe zG (pv 2)$ ja (cA.e Y.m$ ja (jx jV (pv 0)$ ji$ ja (pv 3) jb)$ ja (jy$ pv 4) jb) jb)$ jg$ jo$ pv 2),?_];let b0:=aK;let⟨c,g,e,ss,rfl,h1,h2,h3,h4⟩:=hc;let fl:=ze d k 0;rw[zO d]at fl;let lt:=zD d h4;erw[ai λF1 v=>#[fc,λT N=>v _ _ ?_]];let s1:aa H (af H T$ .lst []):=je N;erw[ai λF1 v=>dD λJ j=>(ju (s1 _ _ h1) Z #[e,Z,#[_,aC.of$ s1 _ _ h3],j _ _ ?_])];erw[qx (K:=K) (xs:=ss) (Nb pa T k (.ref c) s H) #[θ,θ,[],Z,jc,Z,s1] (λi σ Hx _ h=>?_) ?_ (λσ Hx h=>v _ _ ?_)]
 .let⟨_,_,_,_,_,_,y⟩:=h;exact aC.of$ y _ _ h3
 .intro E hE i x B σ O hx np f0 Gq l h;let⟨o3,o4,xs,rfl,R,W,y⟩:=h;let C:aa O (af O B$ .tup [.int i,x]):=je np;let e8:af O B (.tup [.int i,x]) B=δ (.tup [.int i,x]):=jc;erw[l ?_];generalize af O B (.tup [.int i,x])=H8 at C e8 ⊢;let S8:=y.trans C;let⟨n1,D,w,p,hh,u,ht,o1,d0,s2,rfl,h0,h7,hw⟩:=qF d (h4.mono$ aa.tm S8) hx;refine#[B,_,Z,aC.of e8,Z,_,_,Z,_,_,Z,Z,?_];refine#[_,Z,.inl #[Z,_,aH.of$ C _ _ R],_,Z,_,Z,iQ,λt nt=>#[pa,t,_,_,Z,Z,aq (S8 _ _ hp) nt,jc,by rw[NO];show _+1<=_;omega,λr9 H9 e9 s9=>?_]];let S9:=(je (o:=.tup [.int i]) nt).trans s9;rw[l9]at e9;refine(ju (S9 _ _ h0) Z #[r9,_,w,u,Z,e9,by rw[NP];show _+1+_<=_;omega,hw.mono$ aa.tm S9,o1,WM,WM,λr X G nr Y I s0=>?_]);let S:=S9.trans s0;let L:=S _ _ (C _ _ R);let lx:=W.len;let l0:=I.len;let bl:=Xm s.steps (i+1) k 0;let h5:i < s.steps.length:=(ξ.mp ht).1;let et:s.steps.take (i+1)=s.steps.take i++[(n1,D,w)]:=by rw[OU,ht];rfl
  let eb:eG [(n1,D,w)] k (0+(s.steps.take i).length)=(k++[(i:Int)],w)::w.ws (k++[(i:Int)]) 0:=by rw[Oh,Pw$ P5 h5,Rp];show(_::_)++[]=_;rw[Op]
  rw[fl,et,qd,eb]at bl;rw[NP]at bl;let M:am G (af G T$ .lst$ xs++X):=λb ys e=>by rw[jh$ jR e L (by intro z;cases z)];exact e
  refine#[T,r,_,_,Z,Z,L,Y,WM,f0 _ _ #[_,_,xs++X,Z,jc,?_,λb o e=>?_]]
  .rw[et,qd,eb];exact(I.mono pT M).app ((W.mono pT$ aa.tm$ C.trans S).mono pT M)
  .rw[jh$ jk e N];exact S _ _$ S8 _ _ e
 .let⟨o3,o4,xs,rfl,R,W,y⟩:=h;rw[lt,OH,<- zO d]at W;exact#[_,Z,q T xs Hx N R W y]
def EH:⇑k f c ["path","chain"] (lG 0):=by
 let n:∀v H Q E,¬lG 0 v H Q E:=λv H Q E h=>by let⟨p,d,f,i,s,a,u,_,_,_,_,_,z,_⟩:=h;omega
 exact#[λv H Q E h=>absurd h (n v H Q E),λA o s H b U v Q E _ _ _ _ h=>absurd h (n v H Q E)]
theorem Lz(F:ti K "whats_at" BV g a)(B:aE K a z7z [])(M:mg "whats_at"=↑g)(b:ti K "whats_in" BW c f)(d:aE K f ["path","chain"] [])(e:mg "whats_in"=↑c)(m:mg "enumerate"=θ):∀n,⇑(2*n+2) c f ["path","chain"] (lG n)
 |0=>EH
 |n+1=>by let h:=Lz F B M b d e m n;let H:=wN F #[h,d,b.kp,e];exact Fn b #[H,B,F.kp,M] m
def I9:aj z7z z7z (ae BP):=bN
noncomputable def uA:hY:=#[.function,[(".0",.local),("one",.local),("done",.local)],ν,ν,[]]
def wt:(["one","done"]:tz ρ).Nodup:=by decide+kernel
def D2:ba z7z (ae BP) uA ["one","done"] 2 []:=oM
def Fg{n:Nat}(F:ti K "paths_at" BP f I)(J:‹2*n+3› fA L z7z (oi$ n+1) "whats_at"):⇑(2*n+4) f I z7z (lX$ n+1):=by
 erw[F.ok I9 λM A O s H vs Q E R h=>?_]
 let⟨y,p,w,u,rfl,T,j,V,b,W,Y,q⟩:=h;refine#[_,(jg$ jo$ @zp _ _ _ _ _ _ _ (["one","done"]) (2) ([]) _ _ _ _ Z (zj$ J.e R.m$ ja (pv 0)$ ja (pv 1) jb) D2 (λ_ _ _ _ _=>Z2 (K:=K) (n:=2) Z Z (jB (jw (i:=0) wt Z$ ω Z)$ jB (jw (i:=1) wt Z$ ω Z) kj) Z Z) (λ_ _ _ _ _=>(@zM _)) (λ_ _ _ _ _=>(pv 0)) (by intro _;rfl)),?_];let b0:=aK;let fl:=ze b p 0;refine#[_,Z,_,Z,y,p,w,u,Z,T,j,V,b,W,Y,λr X a nr c k C=>?_];let lx:=k.len;rw[Oq,fl]at lx;let lm:(X.map$ sU a).length=X.length:=NO _;refine#[r,Z,#[_,aH.of c],YG (λi=>((X.map$ sU a)[i]?).getD .non) WM (aH.of c) (λi x D=>?_) λl N=>q l (X.map$ sU a) _ ?_ ?_ ?_ (C.trans$ je N)]
 .obtain⟨⟨p',w'⟩,_,t,v,U,rfl,g,G,g3⟩:=k.at D;refine#[t,.ref v,U,Z,aC.of g,λQ d=>#[_,Z,?_]];rw[Od,D]at d;let d:Q (sU a$ .ref t) a:=d;rw[C9 g]at d;exact d
 .cases z:H l with
  |none=>rfl
  |some o=>rw[C _ _ z]at N;cases N
 .rw[jc,<- lm,Jq]
 .let e:cy p w=((p,w)::w.ws p 0).map (·.1):=rfl;rw[e];exact(bX.map (S:=iq) (f:=sU a) (λx w #[t,v,U,e0,g,G,g3]=>by subst e0;rw[C9 g];exact#[v,Z,G]) k).mono cQ (aa.tm$ je N)
noncomputable abbrev xM:cc:=bQ 33
noncomputable abbrev xK:cc:=bQ 34
noncomputable abbrev Gf:cc:=bQ 35
def lQ(h:bY k A):A.units+10+1 < cLine:=by let:=h.un;omega
theorem zV:∀{I J:tz Int},aA (I.map ar)=aA (J.map ar)->I=J
 | [],[],_=>rfl
 | [],_::_,e |_::_,[],e=>by cases e
 |i::I,j::J,e=>by let e:Tr.cons (ar i) (aA$ I.map ar)= .cons (ar j) (aA$ J.map ar):=e;injection e with E a;injection E with E;injection E with E;rw[E,zV a]
theorem Kt:∀{b:Bool} {s S:Sk},s.ok b->S.ok b->gL s=gL S->s=S
 |true,.nil,.nil,_,_=>λ_=>rfl
 |true,.nil,.st _ _ _ _,_,_ |true,.st _ _ _ _,.nil,_,_=>λe=>by cases e
 |true,.st n H w r,.st N h W R,o,O=>λe=>by let e:Tr.cons (aB [ar n,aB$ H.map ar,gL w]) (gL r)= .cons (aB [ar N,aB$ h.map ar,gL W]) (gL R):=e;injection e with E d;let E:Tr.tp (.cons (ar n)$ .cons (aB$ H.map ar)$ .cons (gL w) .nil)= .tp (.cons (ar N)$ .cons (aB$ h.map ar)$ .cons (gL W) .nil):=E;injection E with E;injection E with A l;injection l with B m;injection m with C _;injection A with A;injection A with A;let B:Tr.tp (aA$ H.map ar)= .tp (aA$ h.map ar):=B;injection B with B;rw[A,zV B,Kt o.1 O.1 C,Kt o.2 O.2 d]
 |false,.ask b,.ask j,_,_=>λe=>by injection e with e;injection e with _ e;injection e with e _;injection e with e;injection e with e;rw[e]
 |false,.rd b c,.rd j p,_,_ |false,.wr b c,.wr j p,_,_=>λe=>by injection e with e;injection e with _ e;injection e with E e;injection e with d _;injection E with E;injection E with E;injection d with d;injection d with d;rw[E,d]
 |false,.cl f k s a,.cl q i S t,o,O=>λe=>by let e:Tr.tp (.cons (aL "call")$ .cons (.tp$ .cons (aL f)$ .cons (aB$ k.map ar)$ .cons (.tp$ gL s)$ .cons (ar a) .nil) .nil)= .tp (.cons (aL "call")$ .cons (.tp$ .cons (aL q)$ .cons (aB$ i.map ar)$ .cons (.tp$ gL S)$ .cons (ar t) .nil) .nil):=e;injection e with e;injection e with _ e;injection e with e _;injection e with e;injection e with F e;injection e with I e;injection e with g e;injection e with A _;injection F with F;injection F with F;injection A with A;injection A with A;injection g with g;let I:Tr.tp (aA$ k.map ar)= .tp (aA$ i.map ar):=I;injection I with I;rw[F,A,zV I,Kt (b:=μ) o O g]
 |false,.ask _,.rd _ _,_,_ |false,.ask _,.wr _ _,_,_ |false,.ask _,.cl _ _ _ _,_,_ |false,.rd _ _,.ask _,_,_ |false,.rd _ _,.wr _ _,_,_ |false,.rd _ _,.cl _ _ _ _,_,_ |false,.wr _ _,.ask _,_,_ |false,.wr _ _,.rd _ _,_,_ |false,.wr _ _,.cl _ _ _ _,_,_ |false,.cl _ _ _ _,.ask _,_,_ |false,.cl _ _ _ _,.rd _ _,_,_ |false,.cl _ _ _ _,.wr _ _,_,_=>λe=>by injection e with e;injection e with e _;injection e with e;injection e with e;exact absurd e WL
theorem zE:∀i:tz Int,(aA$ i.map ar).In
 | []=>trivial
 |_::i=>#[Z,zE i]
def JN(n:Int)(h:tz Int):(aA [ar n,aB$ h.map ar]).In:=#[Z,zE h,trivial]
def Xv(n:Int)(H:tz Int):(aA [ar n,aB$ H.map ar]).dep < 10:=by let h:=zr H;show max 0 (max ((aA$ H.map ar).dep+1) 0) < 10;omega
noncomputable def sT(P:aN->Bool):Nat->tz aN->tT Nat
 |_,[]=>θ
 |k,s::r=>if P s=μ then δ k else sT P (k+1) r
def ma(P:aN->Bool)(os:tz aN)(m:Nat):tT Nat:=sT P m (os.drop m)
def YT{P:aN->Bool}{os:tz aN}(h:os[m]?=δ s):ma P os m=if P s=μ then δ m else ma P os (m+1):=by let⟨H,e⟩:=ξ.mp h;unfold ma;rw[<- O9 (h:=H),e];rfl
def pI{P:aN->Bool}{os:tz aN}(h:os.length<=m):ma P os m=θ:=by unfold ma;rw[Ut h];rfl
theorem pK{P:aN->Bool}:∀{os:tz aN} {k j:Nat},sT P k os=δ j->∃i s,j=k+i/\os[i]?=δ s/\P s=μ
 | [],_,_,h=>nomatch h
 |s::r,k,j,h=>by
  let h:(if P s=μ then δ k else sT P (k+1) r)=δ j:=h;by_cases H:P s=μ
  .rw[N0 H]at h;cases h;exact#[0,s,Z,Z,H]
  .rw[N7 H]at h;let⟨i,S,e,a,b⟩:=pK h;exact#[i+1,S,WM,by simpa using a,b]
def pJ{P:aN->Bool}{os:tz aN}(h:ma P os m=δ j):m<=j/\∃s,os[j]?=δ s/\P s=μ:=by let⟨i,s,e,H,a⟩:=pK h;rw[R9]at H;exact#[WM,s,by rw[e];exact H,a]
noncomputable def wS:tT Nat->V
 |some j=>.int (j:Int)
 |none=>.non
noncomputable def aQ(n:Int)(h:tz Int)(s:aN):Bool:=decide (s.1=n/\s.2.1=h)
noncomputable def cX(f:ρ)(i:tz Int)(s:aN):Bool:=match s.2.2 with
 | .cl g j _ _=>decide (g=f/\j=i)
 |_=>ν
noncomputable def lS(os:tz aN)(m:Nat):Sk->tT Nat
 | .cl f i _ _=>ma (cX f i) os m
 |_=>θ
noncomputable def fe(os:tz aN)(m:Nat)(n:Int)(h:tz Int)(w:Sk):tT Nat:=match ma (aQ n h) os m with
 |some j=>δ j
 |none=>lS os m w
def Ay{H h:tz Int}(e:aB [ar n,aB$ H.map ar]=aB [ar N,aB$ h.map ar]):n=N/\H=h:=by let e:Tr.tp (.cons (ar n)$ .cons (aB$ H.map ar) .nil)= .tp (.cons (ar N)$ .cons (aB$ h.map ar) .nil):=e;injection e with e;injection e with a A;injection A with b _;injection a with a;injection a with a;let b:Tr.tp (aA$ H.map ar)= .tp (aA$ h.map ar):=b;injection b with b;exact#[a,zV b]
def YU{a H:tz Int}{w:Sk}:fQ (aB [ar N,aB$ H.map ar]) (aB [ar n,aB$ a.map ar])=aQ n a (N,H,w):=by
 by_cases h:N=n/\H=a
 .rw[h.1,h.2,zI Z];exact(N4 #[Z,Z]).symm
 .rw[zh λe=>h (Ay e)];exact(NW h).symm
def Yo{i j:tz Int}(e:aB [aL "call",aL g,aB$ j.map ar]=aB [aL "call",aL f,aB$ i.map ar]):g=f/\j=i:=by let e:Tr.tp (.cons (aL "call")$ .cons (aL g)$ .cons (aB$ j.map ar) .nil)= .tp (.cons (aL "call")$ .cons (aL f)$ .cons (aB$ i.map ar) .nil):=e;injection e with e;injection e with _ e;injection e with a A;injection A with b _;injection a with a;injection a with a;let b:Tr.tp (aA$ j.map ar)= .tp (aA$ i.map ar):=b;injection b with b;exact#[a,zV b]
def Jl(e:aB (aL a::x)=aB (aL b::y)):a=b:=by let e:Tr.tp (.cons (aL a)$ aA x)= .tp (.cons (aL b)$ aA y):=e;injection e with e;injection e with e _;injection e with e;injection e
def Er{n':Int}{hs':tz Int}{w:Sk}(o:w.ok ν):fQ (d9 w) (d9$ .cl f i s a)=cX f i (n',hs',w):=by
 cases w with
 |nil |st _ _ _ _=>exact o.elim
 |ask b |rd b c |wr b c=>show fQ (aB _) (aB _)=_;rw[zh λe=>absurd (Jl e) WL];rfl
 |cl g j S A=>
  by_cases h:g=f/\j=i
  .rw[h.1,h.2];show fQ (aB _) (aB _)=_;rw[zI Z];exact(N4 #[Z,Z]).symm
  .show fQ (aB _) (aB _)=_;rw[zh λe=>h (Yo e)];exact(NW h).symm
def pE{w:Sk}(o:w.ok ν):∃l,d9 w= .tp l/\l.dep < 10/\l.In/\∃v t,l= .cons (aL v) t/\(v="call"↔∃f i s a,w= .cl f i s a):=by
 cases w with
 |nil |st _ _ _ _=>exact o.elim
 |ask b |rd b B=>exact#[_,Z,by show max 0 (max 0 0) < 10;decide,#[Z,Z,trivial],_,_,Z,λe=>absurd e WL,λ#[_,_,_,_,e]=>nomatch e]
 |wr b B=>exact#[_,Z,by show max 0 (max 0 (max 0 0)) < 10;decide,#[Z,Z,Z,trivial],_,_,Z,λe=>absurd e WL,λ#[_,_,_,_,e]=>nomatch e]
 |cl f i s a=>exact#[_,Z,by show max 0 (max 0 (max ((aA (i.map ar)).dep+1) 0)) < 10;rw[zr];decide,#[Z,Z,zE i,trivial],_,_,Z,λ_=>#[_,_,_,_,Z],λ_=>Z]
inductive mZ(f:tz V)(H:Hp)(Q:VK)(a:XK):Prop
 |mk(e:η)(d:tz V)(s:Sk)(m:Nat)(n:Int)(c:tz Int)(b:V)(_:f=[.ref e,.int (m:Int),b])(_:H e=δ (.tup d))(_:dR H s .non d)(_:s.ok μ)(_:s.size<=1000)(_:m<=1000)(_:aT H (aB [ar n,aB (c.map ar)]) b [])(_:∀H',aa H H'->Q (wS (ma (aQ n c) s.steps m)) H')
inductive mY(d:tz V)(H:Hp)(Q:VK)(a:XK):Prop
 |mk(e:η)(c:tz V)(s w:Sk)(m:Nat)(b:V)(_:d=[.ref e,.int (m:Int),b])(_:H e=δ (.tup c))(_:dR H s .non c)(_:s.ok μ)(_:s.size<=1000)(_:m<=1000)(_:aT H (d9 w) b [])(_:w.ok ν)(_:∀H',aa H H'->Q (wS (lS s.steps m w)) H')
inductive oh(d:tz V)(H:Hp)(Q:VK)(a:XK):Prop
 |mk(e p h:η)(c:tz V)(s w:Sk)(m:Nat)(n:Int)(b:tz Int)(u:V)(_:d=[.ref e,.int (m:Int),.ref p])(_:H e=δ (.tup c))(_:dR H s .non c)(_:s.ok μ)(_:s.size<=1000)(_:m<=1000)(_:H p=δ (.tup [.int n,.ref h,u]))(_:H h=δ (.tup (b.map sn)))(_:dR H w u [])(_:w.ok ν)(_:∀H',aa H H'->Q (wS (fe s.steps m n b w)) H')
def ye:aj ["steps","mark","cut","at"] ["steps","mark","cut"] (ae xM):=bN
def A5(F:ti K "like_from" xM f T)(R:mg "len"=θ)(U:mg "range"=θ):⇑1 f T ["steps","mark","cut"] mZ:=by
 erw[F.ok ye λV A O s H vs Q E W h=>?_]
 let⟨e,v,s,m,n,c,C,rfl,G,g,k,Y,hm,hc,q⟩:=h;refine#[_,(jd (j6 Ot Z (ql Z U$ ja (pv 1)$ ja (jM jG Z R OD$ ja (pv 0) jb) jb) (jw (i:=3) ye.nd Z$ ω Z)$ jg$ jz (jD (KS (d:=10)$ lQ W) (jJ j8 (jr jL (pv 0) (pv 3) (λ_ _=>Z)) jT$ jI jf) (pv 2)$ aI _) (jg$ jo$ pv 3) jp)$ jg$ jo$ @KG _ _ _),?_];let b0:=aK;let l0:=zD k g;let l1:=q9 k g;erw[ai λF1 f1=>dD λJ j=>#[_,Z,_,Z,e,_,Z,.inr$ aC.of G,_,_,Z,#[WM,WM,WM,WM],j _ _ ?_]];erw[kH (λi x I=>(∃y,x=[↑e,δ$ .int (m:Int),δ C,y])/\aa H I/\ma (aQ n c) s.steps m=ma (aQ n c) s.steps (m+i)) #[#[_,Z],aa.refl _,Z] ?_ (λx I h=>f1 _ _ ?_)]
 .intro L rt i x H2 hi fE X l h;obtain⟨⟨y,rfl⟩,S,b⟩:=h;erw[l ?_];let e0:(m:Int)+(i:Int)=((m+i:Nat):Int):=by omega
  rw[e0];let o:m+i < v.length:=by omega
  let⟨N,a,w,p,h,u,ht,o1,_,_,ex,hp,hh,_⟩:=qF k (g.mono$ aa.tm S) (NK o);let B:v[m+i]?=↑p:=by rw[NK o,ex]
  show gX _ _ _ L _ _;erw[me λG1 kT kF=>#[_,Z,_,Z,e,_,_,_,Z,Z,aC.of$ S _ _ G,jK B,_,Z,p,_,Z,hp,λq2 H1 D r=>#[_,Z,_,_,Xv N a,JN N a,JN n c,jF D$ jl Z jX$ jl Z (zi$ r _ _ hh) jC,hc.mono$ aa.tm$ S.trans r,_,Z,?_]]];rw[show fQ (.tp$ aA [ar N,aB$ a.map ar]) (.tp$ aA [ar n,aB$ c.map ar])=aQ n c (N,a,w) from YU];let t:=YT (P:=aQ n c) ht;cases M:aQ n c (N,a,w) with
  |true=>erw[kT _ ?_];show gY _ L _ _;unfold gY;rw[rt];rw[N0 M]at t;let z:=q _ (S.trans r);rw[b,t]at z;exact#[_,Z,z]
  |false=>rw[N7 (by rw[M];intro z;cases z)]at t;exact kF _$ fE _ _ #[#[_,Z],S.trans r,by rw[b,t];rfl]
 .obtain⟨⟨y,rfl⟩,S,b⟩:=h;let z:=q _ S;rw[b,pI WM]at z;exact z
def yd:aj ["steps","mark","deed","at"] ["steps","mark","deed"] (ae xK):=bN
def A4(F:ti K "lender_from" xK f fd)(cI:‹1› fI f0 ["what"] nW "deed_in")(ml:mg "len"=θ)(mr:mg "range"=θ):⇑2 f fd ["steps","mark","deed"] mY:=by
 erw[F.ok yd λc0 A O s H vs Q E hr h=>?_]
 let⟨e,D,s,w,m,dv,rfl,he,c,g,h0,hm,G,L,q⟩:=h;refine#[_,(jd (jz (jD ZE (jy$ pv 2) jm$ aI _) (jg$ jo$ @KG _ _ _) jp)$ jd (j6 Ot Z (ql Z mr$ ja (pv 1)$ ja (jM jG Z ml OD$ ja (pv 0) jb) jb) (jw (i:=3) yd.nd Z$ ω Z)$ jg$ jz (jD (KS (d:=10)$ lQ hr) (cI.e hr.m$ ja (jy$ jr jL (pv 0) (pv 3) (λ_ _=>Z)) jb) (pv 2)$ aI _) (jg$ jo$ pv 3) jp)$ jg$ jo$ @KG _ _ _),?_];let b0:=aK;let l0:=zD g c;let l1:=q9 g c;let⟨l,el,dl,il,v0,ts,ev,r⟩:=pE L;rw[el]at G;let⟨_,da,ds,rfl,M,t⟩:=id G;rw[ev]at t;obtain⟨_,_,y0,y1,rfl,⟨rfl,_⟩,_⟩:=t;erw[ai λF1 y=>(ju M eY #[Z,_,Z,?_])];by_cases B:v0="call"
 .let⟨f,I,s1,a1,rfl⟩:=r.mp B;subst B;erw[aY WO$ y _ _ ?_];erw[ai λF1 y=>dD λJ j=>#[_,Z,_,Z,e,_,Z,.inr$ aC.of he,_,_,Z,#[WM,WM,WM,WM],j _ _ ?_]];erw[kH (λi N R=>(∃T,N=[↑e,δ$ .int (m:Int),↑da,T])/\aa H R/\ma (cX f I) s.steps m=ma (cX f I) s.steps (m+i)) #[#[_,Z],aa.refl _,Z] ?_ (λN R h=>y _ _ ?_)]
  .intro E2 rt i N H2 hi fE Gq n h;obtain⟨⟨T,rfl⟩,S,b⟩:=h;erw[n ?_];let e0:(m:Int)+(i:Int)=((m+i:Nat):Int):=by omega
   rw[e0];let v:m+i < D.length:=by omega
   let⟨n',hs',w,p,h,u,ht,o,_,_,ex,hp,hh,hw⟩:=qF g (c.mono$ aa.tm S) (NK v);let U:D[m+i]?=↑p:=by rw[NK v,ex]
   let⟨l',x,W,X,_⟩:=pE o;show gX _ _ _ E2 _ _;erw[me λG1 kT kF=>#[_,Z,_,Z,e,_,_,_,Z,Z,aC.of$ S _ _ he,jK U,p,_,_,_,Z,Z,aC.of hp,dU,u,w,Z,hw,o,λv1 H1 Y k=>#[_,Z,l',l,W,X,il,x▸Y,G.mono$ aa.tm$ S.trans k,_,Z,?_]]];rw[<- x,<- el,Er (n':=n') (hs':=hs') o];let C:=YT (P:=cX f I) ht;cases hb:cX f I (n',hs',w) with
   |true=>erw[kT _ ?_];show gY _ E2 _ _;unfold gY;rw[rt];rw[N0 hb]at C;let z:Q (wS$ ma (cX f I) s.steps m) H1:=q _ (S.trans k);rw[b,C]at z;exact#[_,Z,z]
   |false=>rw[N7 (by rw[hb];intro z;cases z)]at C;exact kF _$ fE _ _ #[#[_,Z],S.trans k,by rw[b,C];rfl]
  .obtain⟨⟨T,rfl⟩,S,b⟩:=h;let z:Q (wS$ ma (cX f I) s.steps m) R:=q _ S;rw[b,pI WM]at z;exact z
 .refine c8 ?_ ?_
  .show(!decide (rz v0=rz "call"))=μ;rw[NW λz=>B (by injection z)];rfl
  let z:=q _ (aa.refl _);let en:lS s.steps m w=θ:=by
   cases w with
   |cl f I s a=>exact absurd (r.mpr #[f,I,s,a,Z]) B
   |_=>rfl
  rw[en]at z;exact z
def Dv:aj ["steps","mark","step","like"] ["steps","mark","step"] (ae Gf):=bN
def Fk(F:ti K "taken_from" Gf f I)(J:‹1› fL L ["steps","mark","cut"] mZ "like_from")(M:‹2› fD N ["steps","mark","deed"] mY "lender_from")(R:‹1› fI T ["what"] nW "deed_in"):⇑3 f I ["steps","mark","step"] oh:=by
 erw[F.ok Dv λU A O s H vs Q E i h=>?_]
 let⟨e,p,h,k,s,w,m,n,a,u,rfl,y,b,c,d,B,C,V,W,o,q⟩:=h;refine#[_,(jd (jA 3 Dv.nd$ J.e i.m$ ja (pv 0)$ ja (pv 1)$ ja (jJ j8 (pv 2) jT$ jI jf) jb)$ jg$ jo$ kU (KH$ @Xd _ _ _ _ _$ pv 3) (M.e i.m$ ja (pv 0)$ ja (pv 1)$ ja (R.e i.m$ ja (jy$ pv 2) jb) jb)$ pv 3),?_];erw[ai λF1 D=>#[_,Z,_,Z,_,Z,_,Z,p,_,Z,C,λq2 H1 l g=>#[e,k,s,m,n,a,_,Z,g _ _ y,b.mono$ aa.tm g,c,d,B,jF l$ jl Z jX$ jl Z (zi$ g _ _ V) jC,λH2 X=>D _ _ ?_]]];let S:=g.trans X;cases G:ma (aQ n a) s.steps m with
 |some j=>
  refine#[_,Z,_,Z,aY (NW (by intro z;cases z)) #[_,Z,?_]];let z:=q _ S;let r:fe s.steps m n a w=δ j:=by unfold fe;rw[G]
  rw[r]at z;exact z
 |none=>
  refine#[_,Z,_,Z,c8 (N4 Z) #[_,Z,_,Z,ju (S _ _ C) dU #[u,w,Z,W.mono$ aa.tm S,o,λY H3 t v=>#[e,k,s,w,m,Y,Z,v _ _$ S _ _ y,b.mono$ aa.tm$ S.trans v,c,d,B,t,o,λH4 s4=>?_]]]];let z:=q _ ((S.trans v).trans s4);let r:fe s.steps m n a w=lS s.steps m w:=by unfold fe;rw[G]
  rw[r]at z;exact z
abbrev Hq:=aM×aM
structure Ly where
 k:List Hq
 t:List Hq
 f:List aM
 d:List aM
noncomputable def Ly.app(a b:Ly):Ly:=#[a.k++b.k,a.t++b.t,a.f++b.f,a.d++b.d]
noncomputable def Ly.nil:Ly:=#[[],[],[],[]]
noncomputable def Ly.tot(a:Ly):Nat:=a.k.length+a.t.length+a.f.length+a.d.length
def Ly.app_assoc(a b c:Ly):(a.app b).app c=a.app (b.app c):=by unfold Ly.app;simp [Pt]
def Ly.app_nil(a:Ly):a.app .nil=a:=by unfold Ly.app Ly.nil;simp
def Ly.nil_app(a:Ly):Ly.nil.app a=a:=rfl
def Ly.tot_app(a b:Ly):(a.app b).tot=a.tot+b.tot:=by unfold Ly.app Ly.tot;simp only[NP];omega
noncomputable def Sk.fnd:Sk->Int
 | .ask b=>b
 | .rd _ i | .wr _ i=>i
 | .cl _ _ _ a=>a
 |_=>0
def iH:Sk->tz aN
 | .cl _ _ s _=>s.steps
 |_=>[]
noncomputable def dW(p:aM)(os:tz aN)(m j:Nat):tz aM:=(eG ((os.drop m).take$ j - m) p m).map (·.1)
noncomputable def one(p:aM)(o:aN)(a:aM)(n:Int)(h:tz Int)(w:Sk):Ly:=
 if aQ n h o=μ then (if o.2.2.fnd=w.fnd then #[[(p,a)],[],[],[]] else #[[],[(p,a)],[],[]]) else #[[],[],[a],[p]]
noncomputable def c7:Sk->aM->tz aN->Nat->aM->Nat->Ly
 | .st n h w r,p,os,m,a,k=>match fe os m n h w with
  |none=>(#[[],[],cy (a++[(k:Int)]) w,[]]:Ly).app (c7 r p os m a (k+1))
  |some j=>match os[j]? with
   |none=>.nil
   |some o=>((#[[],[],[],dW p os m j]:Ly).app ((one (p++[(j:Int)]) o (a++[(k:Int)]) n h w).app (c7 w (p++[(j:Int)]) (iH o.2.2) 0 (a++[(k:Int)]) 0))).app (c7 r p os (j+1) a (k+1))
 | .cl _ _ s _,p,os,m,a,k=>c7 s p os m a k
 | .nil,p,os,m,_,_=>#[[],[],[],dW p os m os.length]
 |_,_,_,_,_,_=>.nil
def zW{w:Sk}{os:tz aN}(h:fe os m n H w=θ):c7 (.st n H w r) a os m p k=(#[[],[],cy (p++[(k:Int)]) w,[]]:Ly).app (c7 r a os m p$ k+1):=by show(match fe os m n H w with |none=>_ |some j=>_)=_;rw[h]
def zu{w:Sk}{os:tz aN}(h:fe os m n H w=δ j)(b:os[j]?=δ o):c7 (.st n H w r) p os m a k=((#[[],[],[],dW p os m j]:Ly).app ((one (p++[(j:Int)]) o (a++[(k:Int)]) n H w).app$ c7 w (p++[(j:Int)]) (iH o.2.2) 0 (a++[(k:Int)]) 0)).app (c7 r p os (j+1) a$ k+1):=by show(match fe os m n H w with |none=>_ |some j=>match os[j]? with |none=>Ly.nil |some o=>_)=_;rw[h];dsimp only;rw[b]
abbrev DF:=ρ->Int->tz Int->Tr
def Dt(D:DF):ρ->Sk->Prop
 |f,.st n h w r=>d9 w=D f n h/\Dt D f w/\Dt D f r
 |_,.cl g _ s _=>Dt D g s
 |_,_=>True
theorem J2:∀{s:Sk},Dt D f s->∀{j:Nat} {o:aN},s.steps[j]?=δ o->d9 o.2.2=D f o.1 o.2.1/\Dt D f o.2.2
 | .st n H w r,h,0,o,e=>by cases e;exact#[h.1,h.2.1]
 | .st n H w r,h,j+1,o,e=>J2 h.2.2 (j:=j) (by let e:((n,H,w)::r.steps)[j+1]?=δ o:=e;simpa using e)
 | .nil,_,j,o,e | .ask _,_,j,o,e | .rd _ _,_,j,o,e | .wr _ _,_,j,o,e | .cl _ _ _ _,_,j,o,e=>by let e:([]:tz aN)[j]?=δ o:=e;simp at e
def za{os:tz aN}{w:Sk}(h:fe os m n d w=δ j):m<=j/\∃o,os[j]?=δ o/\(aQ n d o=μ∨∃f I s a,w= .cl f I s a/\cX f I o=μ):=by
 unfold fe at h;cases e:ma (aQ n d) os m with
 |some i=>rw[e]at h;cases h;let⟨H,s,b,c⟩:=pJ e;exact#[H,s,b,.inl c]
 |none=>
  rw[e]at h;let h:lS os m w=δ j:=h;cases w with
  |cl f I s a=>let⟨H,S,b,c⟩:=pJ (show ma (cX f I) os m=δ j from h);exact#[H,S,b,.inr #[f,I,s,a,Z,c]]
  |_=>cases h
def ZJ(h:aQ n H o=μ):o.1=n/\o.2.1=H:=OQ h
def wb(h:cX f i o=μ):∃s a,o.2.2= .cl f i s a:=by
 unfold cX at h;split at h
 .rename_i g j s a e
  let⟨rfl,rfl⟩:=OQ h;exact#[s,a,e]
 .cases h
def YV{w:Sk}(o:w.ok ν)(e:d9 w=d9 (.cl f i s a)):∃S A,w= .cl f i S A:=by
 cases w with
 |nil |st _ _ _ _=>exact o.elim
 |ask b |rd b c |wr b c=>exact absurd (Jl e) WL
 |cl g j S A=>let⟨rfl,rfl⟩:=Yo e;exact#[S,A,Z]
def Xn{os s:Sk}{w:Sk}(r:os.ok μ)(k:Dt D f os)(h:fe os.steps m n l w=δ j)(b:os.steps[j]?=δ o)(O:o.2.2.ok ν)(p:d9 w=D f n l):∀g i s a,w= .cl g i s a->∃S A,o.2.2= .cl g i S A:=by
 intro g i s a e;let⟨_,t,H,c⟩:=za h;rw[b]at H;cases H;rcases c with c | ⟨F,I,S,A,E,c⟩
 .let⟨C,q⟩:=ZJ c;let⟨d,_⟩:=J2 k b;rw[C,q,<- p,e]at d;exact YV O d
 .rw[e]at E;cases E;exact wb c
def oA:RA Hq:=λH x p=>∃q a b,x= .ref q/\H q=δ (.tup [.ref a,.ref b])/\H a=δ (.tup$ p.1.map sn)/\H b=δ (.tup$ p.2.map sn)
def f8:LJ oA:=λ_ _ _ _ k #[q,a,b,e,h,H,c]=>#[q,a,b,e,k _ _ h,k _ _ H,k _ _ c]
structure LK(K:β)(C:η):Prop where
 cl:pw K C
 n1:be K C "kept"
 n2:be K C "turned"
 n3:be K C "fresh"
 n4:be K C "dropped"
noncomputable def L9(k t f d:η):tz (ρ×V):=[("kept",.ref k),("turned",.ref t),("fresh",.ref f),("dropped",.ref d)]
structure L4(H:Hp)(ob:HO)(r kA tA fA dA:η)(y:Ly):Prop where
 ins:H r=δ ob
 kv:∃xs,H kA=δ (.lst xs)/\bX oA H y.k xs
 tv:∃xs,H tA=δ (.lst xs)/\bX oA H y.t xs
 fv:∃xs,H fA=δ (.lst xs)/\bX iq H y.f xs
 dv:∃xs,H dA=δ (.lst xs)/\bX iq H y.d xs
 ne:kA≠tA/\kA≠fA/\kA≠dA/\tA≠fA/\tA≠dA/\fA≠dA
 nl:∀xs,ob≠ .lst xs
abbrev Lg(H:Hp)(C r D k t f d:η)(y:Ly):Prop:=L4 H (.ins C D$ L9 k t f d) r k t f d y
abbrev Lt(H:Hp)(z k t f d:η)(y:Ly):Prop:=L4 H (.tup [.ref k,.ref t,.ref f,.ref d]) z k t f d y
def a8(a b c d:η)(H h:Hp):Prop:=∀x o,x≠a->x≠b->x≠c->x≠d->H x=δ o->h x=δ o
def a8.of_same(s:aa H h):a8 a b c d H h:=λ_ _ _ _ _ _ e=>s _ _ e
def a8.trans(h:a8 a b c d H i)(k:a8 a b c d i j):a8 a b c d H j:=λx o n N f g e=>k x o n N f g (h x o n N f g e)
section
variable {H H':Hp}{ob:HO}{r kA tA fA dA:η}{y:Ly}
def L4.tm(h:L4 H ob r kA tA fA dA y)(k:a8 kA tA fA dA H H'):am H H':=λb x e=>by let⟨_,a,_⟩:=h.kv;let⟨_,c,_⟩:=h.tv;let⟨_,d,_⟩:=h.fv;let⟨_,f,_⟩:=h.dv;exact k b _ (jR e a (by intro z;cases z)) (jR e c (by intro z;cases z)) (jR e d (by intro z;cases z)) (jR e f (by intro z;cases z)) e
def L4.same(h:L4 H ob r kA tA fA dA y)(s:aa H H'):L4 H' ob r kA tA fA dA y:=by let⟨x,a,g⟩:=h.kv;let⟨X,b,G⟩:=h.tv;let⟨c,d,g3⟩:=h.fv;let⟨e,f,i⟩:=h.dv;exact#[s _ _ h.ins,#[x,s _ _ a,g.mono f8$ aa.tm s],#[X,s _ _ b,G.mono f8$ aa.tm s],#[c,s _ _ d,g3.mono cQ$ aa.tm s],#[e,s _ _ f,i.mono cQ$ aa.tm s],h.ne,h.nl]
def JO{o:HO}(h:H a=δ (.lst x)):am H (af H a o):=λb Y e=>by rw[jh$ jR e h (by intro z;cases z)];exact e
def L4.setK(h:L4 H ob r kA tA fA dA y)(a:H kA=δ (.lst x))(g:bX oA H p Y):L4 (af H kA$ .lst$ x++Y) ob r kA tA fA dA (y.app #[p,[],[],[]])/\a8 kA tA fA dA H (af H kA$ .lst$ x++Y):=by
 let T:=JO (o:=.lst (x++Y)) a;let⟨v,c,G⟩:=h.kv;let⟨X,i,j⟩:=h.tv;let⟨k,l,g3⟩:=h.fv;let⟨m,n,q⟩:=h.dv;let⟨N,s,u,z,B,C⟩:=h.ne;rw[c]at a;cases a;refine#[#[?_,#[_,jc,(bX.app g G).mono f8 T],#[X,?_,?_],#[k,?_,?_],#[m,?_,?_],h.ne,h.nl],λb o A D E F e=>by rwa[jh A]]
 .rw[jh$ jR h.ins c$ h.nl _];exact h.ins
 .rwa[jh$ Ou N]
 .show bX oA _ (y.t++[]) _;rw[Op];exact j.mono f8 T
 .rwa[jh$ Ou s]
 .show bX iq _ (y.f++[]) _;rw[Op];exact g3.mono cQ T
 .rwa[jh$ Ou u]
 .show bX iq _ (y.d++[]) _;rw[Op];exact q.mono cQ T
def L4.setT(h:L4 H ob r kA tA fA dA y)(a:H tA=δ (.lst x))(g:bX oA H p Y):L4 (af H tA$ .lst$ x++Y) ob r kA tA fA dA (y.app #[[],p,[],[]])/\a8 kA tA fA dA H (af H tA$ .lst$ x++Y):=by
 let t:=JO (o:=.lst (x++Y)) a;let⟨X,i,G⟩:=h.kv;let⟨z,c,j⟩:=h.tv;let⟨l,m,g3⟩:=h.fv;let⟨n,q,s⟩:=h.dv;let⟨N,B,C,u,v,D⟩:=h.ne;rw[c]at a;cases a;refine#[#[?_,#[X,?_,?_],#[_,jc,(bX.app g j).mono f8 t],#[l,?_,?_],#[n,?_,?_],h.ne,h.nl],λb o E A F I e=>by rwa[jh A]]
 .rw[jh$ jR h.ins c$ h.nl _];exact h.ins
 .rwa[jh N]
 .show bX oA _ (y.k++[]) _;rw[Op];exact G.mono f8 t
 .rwa[jh$ Ou u]
 .show bX iq _ (y.f++[]) _;rw[Op];exact g3.mono cQ t
 .rwa[jh$ Ou v]
 .show bX iq _ (y.d++[]) _;rw[Op];exact s.mono cQ t
def L4.setF(h:L4 H ob r kA tA fA dA y)(a:H fA=δ (.lst x))(f:bX iq H p Y):L4 (af H fA$ .lst$ x++Y) ob r kA tA fA dA (y.app #[[],[],p,[]])/\a8 kA tA fA dA H (af H fA$ .lst$ x++Y):=by
 let T:=JO (o:=.lst (x++Y)) a;let⟨X,g,G⟩:=h.kv;let⟨i,j,l⟩:=h.tv;let⟨v,c,g3⟩:=h.fv;let⟨m,n,q⟩:=h.dv;let⟨z,N,B,s,C,u⟩:=h.ne;rw[c]at a;cases a;refine#[#[?_,#[X,?_,?_],#[i,?_,?_],#[_,jc,(bX.app f g3).mono cQ T],#[m,?_,?_],h.ne,h.nl],λb o D E A F e=>by rwa[jh A]]
 .rw[jh$ jR h.ins c$ h.nl _];exact h.ins
 .rwa[jh N]
 .show bX oA _ (y.k++[]) _;rw[Op];exact G.mono f8 T
 .rwa[jh s]
 .show bX oA _ (y.t++[]) _;rw[Op];exact l.mono f8 T
 .rwa[jh$ Ou u]
 .show bX iq _ (y.d++[]) _;rw[Op];exact q.mono cQ T
def L4.setD(h:L4 H ob r kA tA fA dA y)(a:H dA=δ (.lst x))(d:bX iq H p Y):L4 (af H dA$ .lst$ x++Y) ob r kA tA fA dA (y.app #[[],[],[],p])/\a8 kA tA fA dA H (af H dA$ .lst$ x++Y):=by
 let T:=JO (o:=.lst (x++Y)) a;let⟨X,g,G⟩:=h.kv;let⟨i,j,l⟩:=h.tv;let⟨m,n,g3⟩:=h.fv;let⟨v,c,q⟩:=h.dv;let⟨z,B,N,C,s,u⟩:=h.ne;rw[c]at a;cases a;refine#[#[?_,#[X,?_,?_],#[i,?_,?_],#[m,?_,?_],#[_,jc,(bX.app d q).mono cQ T],h.ne,h.nl],λb o D E F A e=>by rwa[jh A]]
 .rw[jh$ jR h.ins c$ h.nl _];exact h.ins
 .rwa[jh N]
 .show bX oA _ (y.k++[]) _;rw[Op];exact G.mono f8 T
 .rwa[jh s]
 .show bX oA _ (y.t++[]) _;rw[Op];exact l.mono f8 T
 .rwa[jh u]
 .show bX iq _ (y.f++[]) _;rw[Op];exact g3.mono cQ T
end
def pH(p:aM)(os:tz aN)(m:Nat):dW p os m m=[]:=by unfold dW;rw[R6,List.take_zero];rfl
def vo{po:aM}{os:tz aN}{m j:Nat}(h:m<=j)(H:os[j]?=δ o):dW po os m (j+1)=dW po os m j++cy (po++[(j:Int)]) o.2.2:=by
 unfold dW;let e:(os.drop m).take (j+1 - m)=(os.drop m).take (j - m)++[o]:=by rw[show j+1 - m=(j - m)+1 by omega,OU,R9,show m+(j - m)=j by omega,H];rfl
 let a:((os.drop m).take$ j - m).length=j - m:=by let:=(ξ.mp H).1;rw[Oh,OE];omega
 rw[e,qd,Ol,a,show m+(j - m)=j by omega];congr 1;show(((_,_)::_)++[]).map _=_;rw[Op];rfl
abbrev xI:cc:=bK (bQ 36) 0
abbrev BO:cc:=bK (bQ 36) 1
abbrev xG:cc:=bK (bQ 36) 2
abbrev BN:cc:=bK (bQ 36) 3
noncomputable abbrev xJ:cc:=bQ 37
section
open SeqAt
variable {X:Cx}
def My(I:au X p σ H s)(n:Nat)(G:∀(t:Tr) {A:bU},t.dep<=n->A.units+n < cLine->t.In->t.isL=ν->∀{u:Tr} {x y:V},u.In->u.isL=ν->aT H t x []->aT H u y []->∀a b,aJ x a->aJ y b->EqAt A s a b (fQ t u)){l m:Tr}(hn:l.dep<=n)(hu:A.units+n+1 < cLine)(J:l.In)(L:m.In)(d:l.isL=μ)(f:m.isL=μ)(M:H g=δ (.tup i))(N:H B=δ (.tup o))(T:aT H l .non i)(q:aT H m .non o):RcNeAt A s (.ref g) (.ref B) (!fQ (.tp l) (.tp m)):=by
 let⟨v,r,O,_⟩:=I.tuple (aC.of (K:=X.K) M);let⟨C,R,Q,_⟩:=I.tuple (aC.of (K:=X.K) N);let⟨S,U⟩:=qI d J T;let⟨W,Y⟩:=qI f L q;let z:=RcNeAt.tuples (A:=A) (e:=lK l m) (show s.heap.IsTuple g v.toArray from O) (show s.heap.IsTuple B C.toArray from Q) WM (λj h1 h2=>?_)
 .rw[Yn d f T q (by rw[NR,<- r.length,S]) (by rw[NR,<- R.length,W])]at z;let E:fQ (.tp l) (.tp m)=fQ l m:=by
   by_cases c:l=m
   .rw[zI c,zI (by rw[c])]
   .rw[zh c,zh (λk=>c (by injection k))]
  rwa[E]
 .let la:=r.length;let lb:=R.length;let D:j < i.length:=by simp at h1;omega
  let h:j < o.length:=by simp at h2;omega
  let⟨u1,q1,r1⟩:=r.get (NK D);let⟨u2,q2,r2⟩:=R.get (NK h);let e1:v.toArray[j]=u1:=by let⟨_,e⟩:=ξ.mp q1;simpa using e
  let E:C.toArray[j]=u2:=by let⟨_,e⟩:=ξ.mp q2;simpa using e
  rw[e1,E];let⟨F,g1,g2,g3,g4,g5⟩:=U j _ (NK D);let⟨u',k1,k2,k3,k4,k5⟩:=Y j _ (NK h);let et:lK l m j=fQ F u':=by unfold lK;rw[g1,k1]
  rw[et];exact G F (A:=A.in1) WM (by show A.units+1+n < cLine;omega) g3 g2 k3 k2 g5 k5 _ _ r1 r2
inductive FK(d:Nat)(x y:V)(H:Hp)(Q:VK):Prop
 |mk(l m:Tr)(_:l.dep < d)(_:l.In)(_:m.In)(_:aT H (.tp l) x [])(_:aT H (.tp m) y [])(_:Q (.bl (!fQ (.tp l) (.tp m))) H)
def wR{d:Nat}(c:X.A.units+d+1 < cLine):fX X (compareOp .NotEq) (FK d):=by intro p s n H x y v u Q I r R h;obtain⟨l,m,o,i,e,⟨f,a,z,rfl,g,t⟩,⟨j,b,B,rfl,k,T⟩,q⟩:=h;cases r;cases R;exact My I d (YS I d) WM c i e f j g k t T X.prog X.w _ _ #[.bl _,H,I,Z,q]
end
inductive lg(b:tz V)(H:Hp)(Q:VK)(a:XK):Prop
 |mk(u:V)(w:Sk)(_:b=[u])(_:dR H w u [])(_:w.ok ν)(_:Q (.int w.fnd) H)
inductive mV(C:η)(d:tz V)(H:Hp)(Q:VK)(a:XK):Prop
 |mk(r c:η)(_:d=[.ref r])(_:H r=δ (.ins C c []))(_:∀(kA tA fA dA:η) (H':Hp),Lg H' C r c kA tA fA dA .nil->(∀b o,b≠r->H b=δ o->H' b=δ o)->H kA=θ->H tA=θ->H fA=θ->H dA=θ->Q .non H')
inductive i9(C:η)(o:tz V)(H:Hp)(Q:VK)(b:XK):Prop
 |mk(r e i n g d k c:η)(l:aM)(f:ρ)(h:tz Int)(s:Sk)(a:Int)(m j:Nat)(y:Ly)(_:o=[.ref r,.ref k,.ref c,.int (m:Int),.int (j:Int)])(_:Lg H C r e i n g d y)(_:H k=δ (.tup (l.map sn)))(_:l.length<=50)(_:lM H f h s a (.ref c))(_:s.ok μ)(_:s.dep<=15)(_:s.size<=1000)(_:m<=j)(_:j<=s.steps.length)(_:y.d.length+(dW l s.steps m j).length<=100000)(_:∀H',Lg H' C r e i n g d (y.app #[[],[],[],dW l s.steps m j])->a8 i n g d H H'->Q .non H')
inductive nZ(C:η)(n:Nat)(A:tz V)(H:Hp)(Q:VK)(b:XK):Prop
 |mk(D:DF)(r f k w h e t q i o p j:η)(v u:aM)(l m:Int)(c d:tz Int)(x z:V)(B E:Sk)(y:Ly)(_:A=[.ref r,.ref t,.ref q,.ref o,.ref p])(_:Lg H C r f k w h e y)(_:H t=δ (.tup (v.map sn)))(_:H o=δ (.tup (u.map sn)))(_:v.length+n<=50)(_:u.length+n<=50)(_:H q=δ (.tup [.int l,.ref i,x]))(_:H i=δ (.tup (c.map sn)))(_:dR H B x [])(_:B.ok ν)(_:B.dep<=15)(_:B.size<=1000)(_:H p=δ (.tup [.int m,.ref j,z]))(_:H j=δ (.tup (d.map sn)))(_:dR H E z [])(_:E.ok ν)(_:E.dep < n)(_:E.dep<=15)(_:E.size<=1000)(_:∀g is s a,E= .cl g is s a->∃s' a',B= .cl g is s' a'/\Dt D g s/\Dt D g s')(_:(y.app ((one v (l,c,B) u m d E).app (c7 E v (iH B) 0 u 0))).tot<=100000)(_:∀H',Lg H' C r f k w h e (y.app ((one v (l,c,B) u m d E).app (c7 E v (iH B) 0 u 0)))->a8 k w h e H H'->Q .non H')
inductive lW(C:η)(n:Nat)(v:tz V)(H:Hp)(Q:VK)(a:XK):Prop
 |mk(D:DF)(r h l u i g o c m b:η)(q p:aM)(f:ρ)(j k:tz Int)(s t:Sk)(d e:Int)(y:Ly)(_:v=[.ref r,.ref o,.ref c,.ref m,.ref b])(_:Lg H C r h l u i g y)(_:H o=δ (.tup (q.map sn)))(_:H m=δ (.tup (p.map sn)))(_:q.length+n<=49)(_:p.length+n<=49)(_:lM H f j s d (.ref c))(_:s.ok μ)(_:s.dep<=15)(_:s.size<=1000)(_:lM H f k t e (.ref b))(_:t.ok μ)(_:t.dep < n)(_:t.dep<=15)(_:t.size<=1000)(_:Dt D f s)(_:Dt D f t)(_:(y.app (c7 t q s.steps 0 p 0)).tot<=100000)(_:∀H',Lg H' C r h l u i g (y.app (c7 t q s.steps 0 p 0))->a8 l u i g H H'->Q .non H')
inductive M3(C r d k q h b o c:η)(p:aM)(n:tz aN)(m j:Nat)(y:Ly)(H:Hp)(i:Nat)(s:_L.St)(a:Hp):Prop
 |mk(l:tT V)(e:s=[↑r,↑o,↑c,δ (.int (m:Int)),δ (.int (j:Int)),l])(f:Lg a C r d k q h b (y.app #[[],[],[],dW p n m (m+i)]))(g:a8 k q h b H a)
inductive M5(D:DF)(C r h w M v g F c x b:η)(J I:aM)(f:ρ)(G:tz aN)(L:tz V)(K:Sk)(d:Ly)(H:Hp)(i:Nat)(N:_L.St)(e:Hp):Prop
 |mk(z A B E:tT V)(m:Nat)(a:Sk)(y:Ly)(j:N=[↑r,↑F,↑c,↑x,↑b,δ (.int (m:Int)),z,A,B,E])(k:Lg e C r h w M v g y)(l:dR e a .non (L.drop i))(n:a.ok μ)(o:a.dep<=K.dep)(p:a.size<=K.size)(q:Dt D f a)(s:m<=G.length)(t:y.app (c7 a J G m I i)=d)(u:a8 w M v g H e)
def ID:one p (n,h,b) a N H c=if aQ N H (n,h,b)=μ then (if b.fnd=c.fnd then #[[(p,a)],[],[],[]] else #[[],[(p,a)],[],[]]) else #[[],[],[a],[p]]:=rfl
def tR(F:ti K "found_in" gF f r):⇑1 f r ["what"] lg:=by
 erw[F.ok lT λC A o s H v Q E x h=>?_]
 let⟨u,w,rfl,l,d,q⟩:=h;refine#[_,(jg$ jo$ kU (kh$ jy$ pv 0) (jy$ jr jL (pv 0) jf (λ_ _=>Z))$ jr jL (pv 0) (wW YM jf) (λ_ _=>Z)),?_];cases w with
 |nil |st _ _ _ _=>exact d.elim
 |ask b |rd a i |wr a i=>let⟨p,rfl,m⟩:=l;exact(ju m eY #[Z,_,Z,aY WO #[_,Z,_,Z,p,_,_,_,Z,Z,aC.of m,Z,q]])
 |cl f I s i=>let⟨p,c,g,e,S,rfl,n,t,_⟩:=l;exact(ju n eY #[Z,_,Z,c8 WO$ ju n iy #[c,_,_,_,Z,Z,aC.of t,jK (j:=3) Z,q]])
def Gi:aj ["self"] ["self"] (ae xI):=bN
def A6(F:aO K "__init__" "Laying.__init__" xI f U)(c:LK K C):⇑1 f U ["self"] (mV C):=by
 erw[F.ok Gi λR A O s H V Q E S h=>?_]
 let⟨r,D,rfl,g,q⟩:=h;refine#[_,(jd (@zL _ _ _ _ _ _ _ _ (pv 0) (jE jb) Z)$ jd (@zL _ _ _ _ _ _ _ _ (pv 0) (jE jb) Z)$ jd (@zL _ _ _ _ _ _ _ _ (pv 0) (jE jb) Z)$ jg$ @zL _ _ _ _ _ _ _ _ (pv 0) (jE jb) Z),?_];refine ai λM d=>#[fc,λk l=>#[_,Z,r,C,D,_,Z,aq g l,c.cl,c.n1,(by show 0 < 1000;decide),d _ _ ?_]];refine ai λM d=>#[fc,λt a=>#[_,Z,r,C,D,_,Z,aq jc a,c.cl,c.n2,(by show 1 < 1000;decide),d _ _ ?_]];refine ai λM d=>#[fc,λi N=>#[_,Z,r,C,D,_,Z,aq jc N,c.cl,c.n3,(by show 2 < 1000;decide),d _ _ ?_]];refine#[fc,λj n=>#[_,Z,r,C,D,_,Z,aq jc n,c.cl,c.n4,(by show 3 < 1000;decide),?_]];let m:k≠r:=(jk g l).symm;let T:t≠r:=λz=>by rw[z,jc]at a;cases a
 let p:i≠r:=λz=>by rw[z,jc]at N;cases N
 let u:j≠r:=λz=>by rw[z,jc]at n;cases n
 rw[jh T]at a;let x:t≠k:=λz=>by rw[z,jc]at a;cases a
 rw[jh x]at a;rw[jh p]at N;let y:i≠t:=λz=>by rw[z,jc]at N;cases N
 rw[jh y,jh p]at N;let B:i≠k:=λz=>by rw[z,jc]at N;cases N
 rw[jh B]at N;rw[jh u]at n;let G:j≠i:=λz=>by rw[z,jc]at n;cases n
 rw[jh G,jh u]at n;let I:j≠t:=λz=>by rw[z,jc]at n;cases n
 rw[jh I,jh u]at n;let J:j≠k:=λz=>by rw[z,jc]at n;cases n
 rw[jh J]at n;refine q k t i j _ #[jc,#[[],?_,Z],#[[],?_,Z],#[[],?_,Z],#[[],?_,Z],#[x.symm,B.symm,J.symm,y.symm,I.symm,G.symm],λ_ z=>nomatch z] (λb o v e=>?_) l a N n
 .rw[jh m,jh J.symm,jh m,jh B.symm,jh m,jh x.symm,jh m,jc]
 .rw[jh T,jh I.symm,jh T,jh y.symm,jh T,jc]
 .rw[jh p,jh G.symm,jh p,jc]
 .rw[jh u,jc]
 .rwa[jh v,jh$ jk e n,jh v,jh$ jk e N,jh v,jh$ jk e a,jh v,jh$ jk e l]
def xY:aj ["self","path","chain","begin","end","at"] z21z (ae xG):=bN
def A2(F:aO K "drop" "Laying.drop" xG f fd)(ck:LK K C)(cP:‹36› fP f0 z7z (lX 17) "paths_at")(mr:mg "range"=θ):⇑37 f fd z21z (i9 C):=by
 erw[F.ok xY λc0 A O s H vs Q E hr h=>?_]
 let⟨r,D,kA,tA,fA,G,I,c,po,f,is,s,a,m,j,y,rfl,hL,M,h5,hc,b,h6,h7,h8,h',h0,q⟩:=h;refine#[_,(jg$ j6 Ot Z (ql Z mr$ ja (pv 3)$ ja (pv 4) jb) (jw (i:=5) xY.nd Z$ ω Z)$ jg$ jH$ jZ NZ Pf Pe zG (ke (pv 0) Z)$ ja (cP.e hr.m$ ja (jx jV (pv 1)$ ji$ ja (pv 5) jb)$ ja (jy$ jr jL (jr jL (pv 2) jf (λ_ _=>Z)) (pv 5) (λ_ _=>Z)) jb) jb),?_];let b1:=aK;let⟨_,g,e,ss,ec,h1,h2,h3,N⟩:=id hc;cases ec;let l0:=zD b N;let l1:=q9 b N;erw[dD λJ jj=>#[_,Z,_,Z,_,_,Z,#[WM,WM,WM,WM],jj _ _ ?_]];erw[kH (M3 C r D kA tA fA G I c po s.steps m j y H) #[θ,Z,?_,λ_ _ _ _ _ _ e=>e] ?_ (λσ H' h=>?_)]
 .rw[V9,pH];exact(Ly.app_nil y).symm▸hL
 .intro E2 rt i σ H2 hi fE Gq k h;let⟨o5,rfl,_L,B⟩:=h;erw[k ?_];let T:=hL.tm B;let e0:(m:Int)+(i:Int)=((m+i:Nat):Int):=by omega
  rw[e0];let n:m+i < ss.length:=by omega
  let⟨n',a0,w,p,h,u,ht,R,d0,s0,ex,hp,hh,hw⟩:=qF b (N.mono T) (NK n);let U:ss[m+i]?=↑p:=by rw[NK n,ex]
  let⟨xs,W,lx⟩:=_L.dv;refine#[_,Z,r,C,D,_,_,Z,_L.ins,ck.cl,ck.n4,Z,.inl #[Z,_,aH.of W],_,Z,_,Z,iQ,λt nt=>#[I,t,_,_,Z,Z,aq (T _ _ M) nt,jc,by rw[NO];show _+1<=_;omega,λr9 H9 z s9=>?_]];let v:=(je (o:=.tup [.int ((m+i:Nat):Int)]) nt).trans s9;let z:H9 r9=δ (.tup$ po.map sn++[.int ((m+i:Nat):Int)]):=z;rw[l9]at z;refine(ju (v _ _$ T _ _ h1) dU #[_,Z,e,_,_,_,Z,Z,aC.of$ v _ _$ T _ _ h3,jK U,p,_,_,_,Z,Z,aC.of$ v _ _ hp,dU,r9,_,w,u,Z,z,by rw[NP];show _+1+_<=_;omega,hw.mono$ aa.tm v,R,WM,WM,λl zs H0 nl hl hz X=>?_]);let S:=v.trans X;let Y:=_L.same S;let lz:=hz.len;let x:=lx.len;let ds:dW po s.steps m (m+i+1)=dW po s.steps m (m+i)++cy (po++[((m+i:Nat):Int)]) w:=vo (po:=po) (os:=s.steps) (m:=m) (j:=m+i) WM ht;let dl:(dW po s.steps m$ m+i+1).length<=(dW po s.steps m j).length:=by unfold dW;rw[NO,NO];let:=Xm ((s.steps.drop m).take$ j - m) (m+i+1 - m) po m;rw[T6,Pw WM]at this;exact this
  rw[ds,NP]at dl;let x:xs.length=y.d.length+(dW po s.steps m$ m+i).length:=by rw[x];exact NP
  let⟨L,b0⟩:=Y.setD (S _ _ W) hz;refine#[G,l,_,_,Z,Z,S _ _ W,hl,WM,fE _ _ #[_,Z,?_,(B.trans$ a8.of_same S).trans b0]];rw[Ly.app_assoc]at L;let ee:(#[[],[],[],dW po s.steps m$ m+i]:Ly).app #[[],[],[],cy (po++[((m+i:Nat):Int)]) w]=#[[],[],[],dW po s.steps m$ m+(i+1)]:=by rw[show m+(i+1)=m+i+1 by omega,ds];rfl
  rw[ee]at L;exact L
 .let⟨o5,rfl,_L,B⟩:=h;rw[show m+((j:Int) - (m:Int)).toNat=j by omega]at _L;exact q _ _L B
def v6{w:Sk}{os:tz aN}(o:w.ok ν)(h:∀f i s a,w≠ .cl f i s a):c7 w p os m b k= .nil:=by
 cases w with
 |nil |st _ _ _ _=>exact o.elim
 |cl f i s a=>exact absurd Z (h f i s a)
 |_=>rfl
def Jm{w:Sk}(o:w.ok ν)(h:dR H w u []):∃p v r,u= .ref p/\H p=δ (.tup (.str v::r))/\(v="call"↔∃f i s a,w= .cl f i s a):=by
 cases w with
 |nil |st _ _ _ _=>exact o.elim
 |ask b |rd b c |wr b c=>let⟨p,e,h⟩:=h;exact#[p,_,_,e,h,λe=>absurd e WL,λ#[_,_,_,_,e]=>nomatch e]
 |cl f i s a=>let⟨p,c,g,E,S,e,h,_⟩:=h;exact#[p,_,_,e,h,λ_=>#[_,_,_,_,Z],λ_=>Z]
def qO:decide (rz a=rz b)=decide (a=b):=by
 by_cases h:a=b
 .rw[N4 h,N4 (by rw[h])]
 .rw[NW h,NW λz=>h (by injection z)]
def Ly.f_le(a b:Ly):a.f.length<=(a.app b).tot/\a.k.length<=(a.app b).tot/\a.t.length<=(a.app b).tot/\a.d.length<=(a.app b).tot:=by rw[Ly.tot_app];unfold Ly.tot;omega
def I8:aj z4z z4z (ae BN):=bN
def Fd(F:aO K "lay_step" "Laying.lay_step" BN f fd)(l:LK K C)(cF:‹1› fF f3 ["what"] lg "found_in")(GL:⇑(2*n+38) fL f0 z4z (lW C n))(bL:aE K f0 z4z [])(m0:bu K C "lay" fL):⇑(2*n+39) f fd z4z (nZ C$ n+1):=by
 erw[F.ok I8 λc2 A o2 s H vs Q E hr h=>?_]
 let⟨D,r,x,kA,tA,fA,dA,O,q0,h0,N,p,h1,B,G,I,V,b,c,u0,u1,W,w1,y,rfl,hL,h3,h4,a',b0,X,h',h5,o1,h6,a2,hp,a3,Y,o,h7,J,a4,h2,L,q⟩:=h;refine#[_,(jd (jz (jD (wR (d:=10)$ lQ hr) (jJ j8 (pv 2) jT$ jI jf) (jJ j8 (pv 4) jT$ jI jf)$ aI _) (jd (jH$ jZ NZ Ob Oa jO (ke (pv 0) Z)$ ja (pv 3) jb)$ jg$ jH$ jZ NZ Ob Oa jO (ke (pv 0) Z)$ ja (pv 1) jb)$ jg$ jz (jD qh (cF.e hr.m$ ja (jy$ pv 2) jb) (cF.e hr.m$ ja (jy$ pv 4) jb)$ aI _) (jg$ jH$ jZ NZ Ob Oa jO (ke (pv 0) Z)$ ja (ji$ ja (pv 1)$ ja (pv 3) jb) jb)$ jg$ jH$ jZ NZ Ob Oa jO (ke (pv 0) Z)$ ja (ji$ ja (pv 1)$ ja (pv 3) jb) jb)$ jg$ jz (kh$ jy$ jr jL (pv 4) jf (λ_ _=>Z)) (jg$ jH$ kf (pv 0) l.cl m0 GL hr.m bL .nil bg$ ja (pv 1)$ ja (jy$ jr jL (pv 2) jf (λ_ _=>Z))$ ja (pv 3)$ ja (jy$ jr jL (pv 4) jf (λ_ _=>Z)) jb) jp),?_];let b1:=aK;erw[ai λF1 f1=>?_];suffices M:∀H',Lg H' C r x kA tA fA dA (y.app$ one B (I,b,W) G V c w1)->a8 kA tA fA dA H H'->F1 [↑r,↑O,↑q0,↑N,↑p] H' by
  let wP:=Ly.f_le y ((one B (I,b,W) G V c w1).app$ c7 w1 B (iH W) 0 G 0);refine#[_,Z,_,Z,q0,_,Z,X,λq1 H1 e1 u=>#[_,Z,_,Z,p,_,Z,u _ _ hp,λq2 H2 e2 s2=>#[_,_,Xv I b,JN I b,JN V c,jF (s2 _ _ e1)$ jl Z jX$ jl Z (zi$ s2 _ _$ u _ _ h') jC,jF e2$ jl Z jX$ jl Z (zi$ s2 _ _$ u _ _ a3) jC,_,Z,?_]]];rw[show fQ (.tp$ aA [ar I,aB$ b.map ar]) (.tp$ aA [ar V,aB$ c.map ar])=aQ V c (I,b,W) from YU];let v:=u.trans s2;let _L:=hL.same v;let t0:=aa.tm v;let i:=v _ _ h3;let j:=v _ _ h4;rw[ID]at M;cases hb:aQ V c (I,b,W) with
  |false=>
   rw[hb,N7 (by intro z;cases z)]at M;erw[c8 Z ?_];let⟨xs,k,lx⟩:=_L.fv;let l0:=lx.len;erw[ai λF2 f2=>#[_,Z,r,C,x,_,_,Z,_L.ins,l.cl,l.n3,Z,.inl #[Z,_,aH.of k],_,Z,fA,_,_,Z,Z,k,WM,f2 _ _ ?_]];let⟨U,b3⟩:=_L.setF k (bX.one (R:=iq) (w:=G) #[N,Z,j]);let T:=_L.tm b3;generalize af H2 fA (.lst$ xs++[.ref N])=H3 at U b3 T ⊢;let⟨zs,hz,lz⟩:=U.dv;let l1:=lz.len;let l1:zs.length=y.d.length:=by rw[l1];show(y.d++[]).length=_;rw[Op]
   refine#[_,Z,r,C,x,_,_,Z,U.ins,l.cl,l.n4,Z,.inl #[Z,_,aH.of hz],_,Z,dA,_,_,Z,Z,hz,WM,?_];let⟨L4,b4⟩:=U.setD hz (bX.one (R:=iq) (w:=B) #[O,Z,T _ _ i]);rw[Ly.app_assoc]at L4;exact M _ L4 (((a8.of_same v).trans b3).trans b4)
  |true=>
   rw[hb,N0 Z]at M;erw[aY Z ?_];refine(ju (v _ _ X) dU #[u0,W,Z,h5.mono t0,o1,ju (v _ _ hp) dU #[u1,w1,Z,Y.mono t0,o,Z,_,Z,?_]]);by_cases hf:W.fnd=w1.fnd
   .rw[N0 hf]at M;refine c8 (N4 (by rw[hf])) ?_;let⟨xs,k,lx⟩:=_L.kv;let l0:=lx.len;refine#[_,Z,r,C,x,_,_,Z,_L.ins,l.cl,l.n1,Z,.inl #[Z,_,aH.of k],_,Z,_,Z,cj,λt nt=>#[kA,_,_,Z,Z,aq k nt,WM,?_]];let S:aa H2 (af H2 t$ .tup [.ref O,.ref N]):=je nt;let⟨L4,b4⟩:=(_L.same S).setK (S _ _ k) (bX.one (R:=oA) (w:=(B,G)) #[t,O,N,Z,jc,S _ _ i,S _ _ j]);exact M _ L4 ((a8.of_same$ v.trans S).trans b4)
   .rw[N7 hf]at M;refine aY (NW λz=>hf (by injection z)) ?_;let⟨xs,k,lx⟩:=_L.tv;let l0:=lx.len;refine#[_,Z,r,C,x,_,_,Z,_L.ins,l.cl,l.n2,Z,.inl #[Z,_,aH.of k],_,Z,_,Z,cj,λt nt=>#[tA,_,_,Z,Z,aq k nt,WM,?_]];let S:aa H2 (af H2 t$ .tup [.ref O,.ref N]):=je nt;let⟨L4,b4⟩:=(_L.same S).setT (S _ _ k) (bX.one (R:=oA) (w:=(B,G)) #[t,O,N,Z,jc,S _ _ i,S _ _ j]);exact M _ L4 ((a8.of_same$ v.trans S).trans b4)
 intro H3 U b3;erw[f1 _ _ ?_];let T:=hL.tm b3;rw[<- Ly.app_assoc]at L q;let⟨p3,v3,r3,eu,a5,h8⟩:=Jm o (Y.mono T);subst eu;refine(ju (T _ _ hp) dU #[p3,_,_,_,Z,Z,aC.of a5,eY,Z,_,Z,?_]);rw[qO];by_cases hv:v3="call"
 .let⟨g,is,u,a1,rfl⟩:=h8.mp hv;let⟨s0,a0,rfl,D1,D0⟩:=h2 g is u a1 Z;erw[c8 (N4 hv) ?_];let⟨x1,c1,g1,e1,s4,e3,k1,k2,k3,k4,k5⟩:=Y.mono T;let⟨x0,c0,g0,e0,s5,e4,i1,i2,i3,i4,i5⟩:=h5.mono T;cases e3;subst e4;let h7:u.dep+1 < n+1:=h7;let J:u.dep+1<=15:=J;let h6:s0.dep+1<=15:=h6;exact#[_,Z,r,x,_,Z,U.ins,Z,_,Z,ju (T _ _ X) dU #[x0,_,_,_,Z,Z,aC.of i1,iy,_,Z,ju (T _ _ hp) dU #[p3,_,_,_,Z,Z,aC.of k1,iy,D,r,x,kA,tA,fA,dA,O,c0,N,c1,B,G,g,is,is,s0,u,a0,a1,_,Z,U,T _ _ h3,T _ _ h4,WM,WM,#[c0,g0,e0,s5,Z,i2,i3,i4,i5],o1,WM,a2,#[c1,g1,e1,s4,Z,k2,k3,k4,k5],o,WM,WM,a4,D0,D1,L,λH4 L4 b4=>q H4 L4 (b3.trans b4)]]]
 .refine aY (NW hv) ?_;rw[v6 o (λf is s a e=>hv (h8.mpr #[f,is,s,a,e])),Ly.app_nil]at q;exact q H3 U b3
def iX:aj ["self","old_path","old","new_path","new","mark","number","step","here","taken"] z4z (ae BO):=bN
def wG(F:aO K "lay" "Laying.lay" BO f fd)(ck:LK K C)(cT:‹3› fT f3 ["steps","mark","step"] oh "taken_from")(cP:‹36› fP f4 z7z (lX 17) "paths_at")(GD:⇑37 fD f0 z21z (i9 C))(bD:aE K f0 z21z [])(m0:bu K C "drop" fD)(GS:⇑(2*n+37) fS f2 z4z (nZ C n))(bS:aE K f2 z4z [])(m1:bu K C "lay_step" fS)(m2:mg "enumerate"=θ)(ml:mg "len"=θ):⇑(2*n+38) f fd z4z (lW C n):=by
 erw[F.ok iX λd3 A o1 s H vs Q E hr h=>?_]
 let⟨D,r,U,kA,tA,fA,dA,X,c,na,b,u,G,f,is,js,p,s1,a0,a1,y,rfl,hL,h6,c1,d4,d5,h7,O,a3,h8,c2,o2,d6,c9,d7,D0,D1,M,q⟩:=h;refine#[_,(jd (jA 5 iX.nd jf)$ jd (j6 Ot Z (Jr Z m2$ ja (jy$ pv 4) jb) (zz (n:=2) Z$ jB (jw (i:=6) iX.nd Z$ ω Z)$ jB (jw (i:=7) iX.nd Z$ ω Z) kj)$ jd (jA 8 iX.nd$ jx jV (pv 3)$ ji$ ja (pv 6) jb)$ jd (jA 9 iX.nd$ cT.e hr.m$ ja (jy$ pv 2)$ ja (pv 5)$ ja (pv 7) jb)$ jg$ jz (KH$ @Xd _ _ _ _ _$ pv 9) (jg$ jH$ jZ NZ Pf Pe zG (ke (pv 0) Z)$ ja (cP.e hr.m$ ja (pv 8)$ ja (jy$ pv 7) jb) jb)$ jd (jH$ kf (pv 0) ck.cl m0 GD hr.m bD .nil bg$ ja (pv 1)$ ja (pv 2)$ ja (pv 5)$ ja (pv 9) jb)$ jd (jH$ kf (pv 0) ck.cl m1 GS hr.m bS .nil bg$ ja (jx jV (pv 1)$ ji$ ja (pv 9) jb)$ ja (jr jL (jy$ pv 2) (pv 9) (λ_ _=>Z))$ ja (pv 8)$ ja (pv 7) jb)$ jg$ jA 5 iX.nd$ jx jW (pv 9) jf)$ jg$ jH$ kf (pv 0) ck.cl m0 GD hr.m bD .nil bg$ ja (pv 1)$ ja (pv 2)$ ja (pv 5)$ ja (jM jG Z ml OD$ ja (jy$ pv 2) jb) jb),?_];let d8:=aK;let⟨_,g0,e0,s2,e4,h1,h2,h3,h4⟩:=id h7;cases e4;let⟨_,g1,e1,s3,e6,k1,k2,k3,k4⟩:=id c2;cases e6;let l0:=zD O h4;let l1:=q9 O h4;erw[ai λF1 v=>v _ _ ?_];erw[ai λF1 v=>dD λJ jj=>(ju k1 dU #[e1,Z,#[_,aC.of k3],jj _ _ ?_])];erw[qx (K:=K) (xs:=s3) (M5 D C r U kA tA fA dA X c na b u G f p.steps s3 s1 (y.app$ c7 s1 u p.steps 0 G 0) H) #[θ,θ,θ,θ,0,s1,y,Z,hL,k4,o2,NQ _,NQ _,D1,NY _,Z,λ_ _ _ _ _ _ e=>e] (λk σ Hx _ h=>?_) ?_ (λσ Hx h=>v _ _ ?_)]
 .let⟨_,_,_,_,_,_,_,_,_,_,_,_,_,_,_,_,b7⟩:=h;exact aC.of$ hL.tm b7 _ _ k3
 .intro E rt k x pp σ H4 c3 n2 fE Gq kq h;let⟨o6,o7,o8,o9,m,R,Y,rfl,L4,w2,w3,w4,w5,w6,w7,W,b4⟩:=h;let s5:aa H4 (af H4 pp$ .tup [.int k,x]):=je n2;let e5:af H4 pp (.tup [.int k,x]) pp=δ (.tup [.int k,x]):=jc;erw[kq ?_];generalize af H4 pp (.tup [.int k,x])=H5 at s5 e5 ⊢;let b5:=b4.trans (a8.of_same s5);let c4:=hL.tm b5;let L5:=L4.same s5;refine#[pp,_,Z,aC.of e5,Z,_,_,Z,_,_,Z,Z,?_];rw[pG c3]at w2;let w2:=w2.mono (aa.tm s5);cases R with
  |nil=>exact nomatch (show _::_=[] from w2)
  |ask _ |rd _ _ |wr _ _ |cl _ _ _ _=>exact w3.elim
  |st n1 h5 w r1=>
   let⟨p',h',u',y0,ex,i1,i2,i3,i4⟩:=w2;injection ex with ex ey;subst ex;subst ey;let d':w.dep<=s1.dep:=N6 (RB _ _) w4;let d2:r1.dep<=s1.dep:=N6 (Rq _ _) w4;let w5:w.size+r1.size+1<=s1.size:=w5;show dH (dJ _ _) (dH _ _) E [↑r,↑X,↑c,↑na,↑b,δ$ .int (m:Int),δ$ .int k,↑p',o8,o9] H5;refine ai λF1 v=>#[_,Z,_,Z,iQ,λt nt=>#[na,t,_,_,Z,Z,aq (c4 _ _ c1) nt,jc,by rw[NO];show _+1<=_;omega,λr9 H9 e9 s9=>v _ _ ?_]];let S9:aa H5 H9:=(je (o:=.tup [.int k]) nt).trans s9;let e9:H9 r9=δ (.tup$ G.map sn++[.int (k:Int)]):=e9;rw[l9]at e9;let b9:=b5.trans (a8.of_same S9);let a2:=hL.tm b9;erw[ai λF1 v=>(ju (a2 _ _ h1) dU #[_,Z,_,Z,e0,p',h',s2,p,w,m,n1,h5,u',Z,a2 _ _ h3,h4.mono a2,O,h8,WM,S9 _ _ i1,S9 _ _ i2,i3.mono$ aa.tm S9,w3.1,λH0 s4=>v _ _ ?_])];let B:=S9.trans s4;let b1:=b5.trans (a8.of_same B);let t5:=hL.tm b1;let L:=L5.same B;let e3:=s4 _ _ e9;let i0:=B _ _ i1;let j0:=i3.mono (aa.tm B);cases hb:fe p.steps m n1 h5 w with
   |none=>
    rw[zW hb]at W;show gX _ _ _ E [↑r,↑X,↑c,↑na,↑b,δ$ .int (m:Int),δ$ .int k,↑p',↑r9,δ .non] H0;erw[me λG1 yT yF=>#[_,Z,_,Z,?_]];rw[N4 Z];erw[yT _ ?_];let⟨xs,hx,lx⟩:=L.fv;let l2:=lx.len;let pl:=qJ w3.1 (G++[(k:Int)]);let tt:Y.tot+((w.size+1)+(c7 r1 u p.steps m G$ k+1).tot)<=100000:=by
     let z:=M;rw[<- W,Ly.tot_app,Ly.tot_app]at z;let z2:(#[[],[],cy (G++[(k:Int)]) w,[]]:Ly).tot=w.size+1:=by show 0+0+(cy (G++[(k:Int)]) w).length+0=_;rw[pl];omega
     rw[z2]at z;exact z
    let ty:Y.f.length<=Y.tot:=by unfold Ly.tot;omega
    refine#[_,Z,r,C,U,_,_,Z,L.ins,ck.cl,ck.n3,Z,.inl #[Z,_,aH.of hx],_,Z,ju i0 dU #[r9,G++[(k:Int)],w,u',Z,e3,by rw[NP];show _+1+_<=_;omega,j0,w3.1,WM,WM,λl zs H1 nl hl hz I=>?_]];let lz:=hz.len;let⟨L1,b2⟩:=(L.same I).setF (I _ _ hx) hz;refine#[fA,l,_,_,Z,Z,I _ _ hx,hl,WM,fE _ _ #[_,_,_,_,m,r1,_,Z,L1,?_,w3.2,d2,WM,w6.2.2,w7,?_,?_]]
    .exact i4.mono ((aa.tm$ B.trans I).trans ((L.same I).tm b2))
    .rw[Ly.app_assoc];exact W
    .exact(b1.trans$ a8.of_same I).trans b2
   |some j=>
    let⟨c5,o,ho,e7⟩:=za hb;let e8:=(ξ.mp ho).1;let⟨n0,a4,w0⟩:=o;rw[zu hb ho]at W;show gX _ _ _ E [↑r,↑X,↑c,↑na,↑b,δ$ .int (m:Int),δ$ .int k,↑p',↑r9,δ$ .int (j:Int)] H0;erw[me λG1 yT yF=>#[_,Z,_,Z,?_]];rw[NW (by intro z;cases z)];erw[yF _ ?_];let tt:=M;rw[<- W,Ly.tot_app,Ly.tot_app,Ly.tot_app,Ly.tot_app]at tt;let z2:(#[[],[],[],dW u p.steps m j]:Ly).tot=(dW u p.steps m j).length:=Rp _;rw[z2]at tt;let ty:Y.d.length<=Y.tot:=by unfold Ly.tot;omega
    show dH _ (dH _ _) E [↑r,↑X,↑c,↑na,↑b,δ$ .int (m:Int),δ$ .int k,↑p',↑r9,δ$ .int (j:Int)] H0;erw[ai λF1 v=>#[_,Z,r,U,_,Z,L.ins,Z,_,Z,_,Z,_,Z,_,Z,r,U,kA,tA,fA,dA,X,c,u,f,is,p,a0,m,j,Y,Z,L,t5 _ _ h6,WM,qc h7 t5,O,a3,h8,c5,WM,WM,λH1 L0 b3=>v _ _ ?_]];let b0:=b1.trans b3;let T:=hL.tm b0;let N:=L.tm b3;obtain⟨xv,a5⟩:∃xv,s2[j]?=δ xv:=#[_,NK WM];let⟨n4,c',w1,q,h0,u0,t1,t2,t3,t4,rfl,t6,t7,t8⟩:=qF O (h4.mono T) a5;rw[ho]at t1;cases t1;refine ai λF1 v=>#[_,Z,r,U,_,Z,L0.ins,Z,_,Z,_,Z,iQ,λt nt=>#[X,t,_,_,Z,Z,aq (T _ _ h6) nt,jc,by rw[NO];show _+1<=_;omega,λr0 H2 e2 s6=>?_]];let S:aa H1 H2:=(je (o:=.tup [.int (j:Int)]) nt).trans s6;let e2:H2 r0=δ (.tup$ u.map sn++[.int (j:Int)]):=e2;rw[l9]at e2;let t':=T.trans (aa.tm S);let c6:=Xn (s:=.nil) O D0 hb ho t2 w6.1;refine(ju (t' _ _ h1) dU #[_,Z,e0,_,_,_,Z,Z,aC.of$ t' _ _ h3,jK a5,_,Z,_,Z,D,r,U,kA,tA,fA,dA,r0,q,h0,r9,p',h',u++[(j:Int)],G++[(k:Int)],n0,n1,a4,h5,u0,u',w0,w,_,Z,L0.same S,e2,aa.tm S _ _$ N _ _ e3,by rw[NP];show _+1+_<=_;omega,by rw[NP];show _+1+_<=_;omega,S _ _ t6,S _ _ t7,t8.mono$ aa.tm S,t2,WM,WM,aa.tm S _ _$ N _ _ i0,aa.tm S _ _$ N _ _$ B _ _ i2,(j0.mono N).mono$ aa.tm S,w3.1,WM,WM,WM,λg is s a e=>?_,?_,λH3 L3 b8=>v _ _ ?_])
    .let⟨s',a',ew⟩:=c6 g is s a e;let ew:w0= .cl g is s' a':=ew;let d0:Dt D f w0:=(J2 D0 ho).2;let d1:Dt D f w:=w6.2.1;rw[e]at d1;rw[ew]at d0;exact#[s',a',ew,d1,d0]
    .rw[Ly.tot_app,Ly.tot_app,Ly.tot_app,z2];let tt:Y.tot+(((dW u p.steps m j).length+((one (u++[(j:Int)]) (n0,a4,w0) (G++[(k:Int)]) n1 h5 w).tot+(c7 w (u++[(j:Int)]) (iH w0) 0 (G++[(k:Int)]) 0).tot))+(c7 r1 u p.steps (j+1) G$ k+1).tot)<=100000:=tt;omega
    let b':=(b0.trans$ a8.of_same S).trans b8;let c0:=(L0.same S).tm b8;let ej:(j:Int)+1=((j+1:Nat):Int):=by omega
    refine#[_,Z,_,_,Z,Z,fE _ _ #[δ$ .int k,↑p',↑r9,δ$ .int (j:Int),j+1,r1,_,?_,L3,?_,w3.2,d2,WM,w6.2.2,WM,?_,b']]
    .rw[<- ej];rfl
    .exact i4.mono (((aa.tm B).trans N).trans ((aa.tm S).trans c0))
    .rw[Ly.app_assoc,Ly.app_assoc];rw[Ly.app_assoc]at W;exact W
 .let⟨o6,o7,o8,o9,m,R,Y,rfl,L4,w2,w3,w4,w5,w6,w7,W,b4⟩:=h;let t0:=hL.tm b4;rw[Vh]at w2;cases R with
  |st n hs w r=>let⟨_,_,_,_,z,_⟩:=w2;cases z
  |ask _ |rd _ _ |wr _ _ |cl _ _ _ _=>exact w3.elim
  |nil=>
   let W:Y.app #[[],[],[],dW u p.steps m p.steps.length]=_:=W;let tt:=M;rw[<- W,Ly.tot_app]at tt;let z2:(#[[],[],[],dW u p.steps m p.steps.length]:Ly).tot=(dW u p.steps m p.steps.length).length:=Rp _;rw[z2]at tt;let ty:Y.d.length<=Y.tot:=by unfold Ly.tot;omega
   refine#[_,Z,r,U,_,Z,L4.ins,Z,_,Z,_,Z,_,Z,ju (t0 _ _ h1) dU #[e0,_,Z,.inr$ aC.of$ t0 _ _ h3,r,U,kA,tA,fA,dA,X,c,u,f,is,p,a0,m,p.steps.length,Y,by rw[<- l0];rfl,L4,t0 _ _ h6,WM,qc h7 t0,O,a3,h8,w7,NQ _,WM,λH5 L5 b5=>q H5 (W▸L5) (b4.trans b5)]]
def D8(p:aM)(os:tz aN)(m j:Nat):(dW p os m j).length<=(eG (os.drop m) p m).length:=by unfold dW;rw[NO];exact Xm _ _ _ _
def y6{os:tz aN}(p:aM)(h:m<=j)(H:os[j]?=δ o)(O:o.2.2.ok ν):(eG (os.drop m) p m).length=(dW p os m j).length+(o.2.2.size+1)+(eG (os.drop$ j+1) p$ j+1).length:=by
 let d:=(ξ.mp H).1;let e:os.drop m=(os.drop m).take (j - m)++(o::os.drop (j+1)):=by let z:=Rc (j - m) (os.drop m);rw[VC,show m+(j - m)=j by omega]at z;let⟨a,E⟩:=ξ.mp H;rw[<- O9 (h:=a),E]at z;exact z.symm
 let b:((os.drop m).take$ j - m).length=j - m:=by rw[Oh,OE];omega
 let z:(eG (os.drop m) p m).length=((eG ((os.drop m).take$ j - m) p m)++eG (o::os.drop (j+1)) p (m+(j - m))).length:=by
  conv=>lhs;rw[e]
  rw[qd,b]
 rw[z,NP,show m+(j - m)=j by omega];let c:(eG (o::os.drop (j+1)) p j).length=(o.2.2.size+1)+(eG (os.drop$ j+1) p$ j+1).length:=by show(((_,_)::_)++_).length=_;rw[NP,Oq,ze O]
 rw[c];unfold dW;rw[NO];omega
theorem JP:∀{s:Sk},s.ok μ->∀{j:Nat} {o:aN},s.steps[j]?=δ o->o.2.2.ok ν
 | .st n H w r,h,0,o,e=>by cases e;exact h.1
 | .st n H w r,h,j+1,o,e=>JP h.2 (j:=j) (by let e:((n,H,w)::r.steps)[j+1]?=δ o:=e;simpa using e)
 | .nil,_,j,o,e=>by let e:([]:tz aN)[j]?=δ o:=e;simp at e
def DT{w:Sk}(o:w.ok ν)(p:aM):(eG (iH w) p 0).length=w.size:=by
 cases w with
 |nil |st _ _ _ _=>exact o.elim
 |cl f i s a=>show(eG s.steps p 0).length=s.size;rw[<- zO (show s.ok μ from o),ze (show s.ok μ from o)]
 |_=>rfl
def Bl(p:aM)(o:aN)(a:aM)(n:Int)(h:tz Int)(w:Sk):(one p o a n h w).tot<=2:=by
 unfold one;split
 .split
  .exact OR 1
  .exact OR 1
 .exact NQ 2
theorem qP:∀{b:Bool} {s:Sk},s.ok b->∀(p:aM) (os:tz aN) (m:Nat) (c:aM) (k:Nat),(∀o∈os,o.2.2.ok ν)->(c7 s p os m c k).tot<=s.size+(eG (os.drop m) p m).length
 |true,.nil,_,p,os,m,c,k,_=>by let:=D8 p os m os.length;show 0+0+0+(dW p os m os.length).length<=0+_;omega
 |true,.st n q w r,o,p,os,m,c,k,H=>by
  show _<=w.size+r.size+1+_;cases h:fe os m n q w with
  |none=>
   rw[zW h,Ly.tot_app];let t:(#[[],[],cy (c++[(k:Int)]) w,[]]:Ly).tot=w.size+1:=by show 0+0+(cy (c++[(k:Int)]) w).length+0=_;rw[qJ o.1];omega
   let u:=qP o.2 p os m c (k+1) H;omega
  |some j=>
   let⟨g,x,l,_⟩:=za h;let O:=H x (Og l);rw[zu h l,Ly.tot_app,Ly.tot_app,Ly.tot_app];let t:(#[[],[],[],dW p os m j]:Ly).tot=(dW p os m j).length:=Rp _;let u:=Bl (p++[(j:Int)]) x (c++[(k:Int)]) n q w;let v:=qP o.1 (p++[(j:Int)]) (iH x.2.2) 0 (c++[(k:Int)]) 0 (λy d=>by
    cases e:x.2.2 with
    |cl f I s a=>rw[e]at d O;let⟨i,z⟩:=Tf d;exact JP (show s.ok μ from O) z
    |_=>rw[e]at d;cases d)
   rw[P7,DT O]at v;let A:=qP o.2 p os (j+1) c (k+1) H;let B:=y6 p g l O;omega
 |false,.cl _ _ s _,o,p,os,m,c,k,H=>qP (b:=μ) (s:=s) o p os m c k H
 |false,.ask _,_,p,os,m,c,k,_ |false,.rd _ _,_,p,os,m,c,k,_ |false,.wr _ _,_,p,os,m,c,k,_=>NY _
def M6(H:Hp)(x:V)(k t f d:η)(y:Ly):Prop:=∃q,x= .ref q/\Lt H q k t f d y
inductive mX(k:tz V)(H:Hp)(Q:VK)(a:XK):Prop
 |mk(D:DF)(c b:η)(f:ρ)(g h:tz Int)(i j:Sk)(d e:Int)(_:k=[.ref c,.ref b])(_:lM H f g i d (.ref c))(_:i.ok μ)(_:i.dep<=15)(_:i.size<=1000)(_:lM H f h j e (.ref b))(_:j.ok μ)(_:j.dep<=15)(_:j.size<=1000)(_:Dt D f i)(_:Dt D f j)(_:∀(x:V) (kA tA fA dA:η) (H':Hp),M6 H' x kA tA fA dA (c7 j [] i.steps 0 [] 0)->H kA=θ->H tA=θ->H fA=θ->H dA=θ->aa H H'->Q x H')
def EF:⇑k f d z4z (nZ C 0):=by
 let n:∀{v H Q E},¬nZ C 0 v H Q E:=by rintro v H Q E ⟨D,r,e,g,t,F,i,O,q,j,N,p,l,m,u,x,B,b,c,U,G,W,I,y,_,_,_,_,_,_,_,_,_,_,_,_,_,_,_,_,z,_⟩;omega
 exact#[λv H Q E h=>(n h).elim,λA o s H a J v Q E L M R S h=>(n h).elim]
theorem Io(c:LK K C)(F:aO K "lay" "Laying.lay" BO k f)(l:aE K f z4z [])(b:bu K C "lay" k)(o:aO K "lay_step" "Laying.lay_step" BN q d)(B:aE K d z4z [])(m:bu K C "lay_step" q)(e:‹3› v r ["steps","mark","step"] oh "taken_from")(g:‹36› x s z7z (lX 17) "paths_at")(G:⇑37 t h z21z (i9 C))(i:aE K h z21z [])(M:bu K C "drop" t)(p:‹1› y u ["what"] lg "found_in")(a:mg "enumerate"=θ)(j:mg "len"=θ):∀n,⇑(2*n+38) k f z4z (lW C n)
 |0=>wG F c e g G i M EF B m a j
 |n+1=>wG F c e g G i M (Fd o c p (Io c F l b o B m e g G i M p a j n) l b) B m a j
def yc:aj ["old","new","laying"] ["old","new"] (ae xJ):=bN
def A3(F:ti K "laid" xJ f fd)(a:LK K C)(mk:Mk K C fI)(GI:⇑1 fI v ["self"] (mV C))(bI:aE K v ["self"] [])(mC:mg "Laying"=↑C)(GL:⇑70 fL y z4z (lW C 16))(bL:aE K y z4z [])(M:bu K C "lay" fL):⇑71 f fd ["old","new"] mX:=by
 erw[F.ok yc λc0 A B s H vs Q E hr h=>?_]
 let⟨D,c,b,f,is,js,G,S,a0,a1,rfl,I,O,J,R,T,g,U,V,D0,D1,q⟩:=h;refine#[_,(jd (jA 2 yc.nd$ @wU _ _ _ _ _ _ _ _ _ _ _ _ _ _ mk GI hr.m Z mC bI .nil bg WL)$ jd (jH$ kf (pv 2) a.cl M GL hr.m bL .nil bg$ ja (ji jb)$ ja (pv 0)$ ja (ji jb)$ ja (pv 1) jb)$ jg$ jo$ ji$ ja (ke (pv 2) Z)$ ja (ke (pv 2) Z)$ ja (ke (pv 2) Z)$ ja (ke (pv 2) Z) jb),?_];let b0:=aK;erw[ai λF1 j=>λr d nr N h0=>#[r,d,Z,jc,λW X Y dA t L1 k nk nt nf nd=>#[Z,j _ _ ?_]]];let up:∀b o,b≠r->b≠d->H b=δ o->t b=δ o:=λb o n1 n2 e=>k b o n1 (by rwa[jh n1,jh n2]);let s1:aa H t:=λb o e=>up b o (jk e nr) (jk e N) e;let n:∀x,af (af H d$ .own r) r (.ins C d []) x=θ->H x=θ:=λx hx=>by
  cases z:H x with
  |none=>rfl
  |some o=>rw[jh (jk z nr),jh (jk z N),z]at hx;cases hx
 let t0:=qP g [] G.steps 0 [] 0 λo ho=>by let⟨i,hi⟩:=Tf ho;exact JP O hi
 rw[P7,<- zO O,ze O]at t0;erw[ai λF1 j=>#[_,Z,r,d,_,Z,L1.ins,Z,fc,λpa n0=>#[_,Z,fc,λpb l=>#[_,Z,?_]]]];let u:aa t (af (af t pa$ .tup []) pb$ .tup []):=(je n0).trans (je l);refine#[D,r,d,W,X,Y,dA,pa,c,pb,b,[],[],f,is,js,G,S,a0,a1,.nil,Z,L1.same u,aq jc l,jc,WL,WL,qc I$ aa.tm$ s1.trans u,O,J,R,qc T$ aa.tm$ s1.trans u,g,WM,U,V,D0,D1,by rw[Ly.nil_app];omega,λH3 L b3=>j _ _ ?_];rw[Ly.nil_app]at L;refine#[_,Z,r,C,d,_,_,Z,L.ins,a.cl,a.n1,Z,_,Z,r,C,d,_,_,Z,L.ins,a.cl,a.n2,Z,_,Z,r,C,d,_,_,Z,L.ins,a.cl,a.n3,Z,_,Z,r,C,d,_,_,Z,L.ins,a.cl,a.n4,Z,rY,λz nz=>?_];let s4:aa H3 (af H3 z$ .tup [.ref W,.ref X,.ref Y,.ref dA]):=je nz;let p:=L.same s4;erw[q _ W X Y dA _ #[z,Z,jc,p.kv,p.tv,p.fv,p.dv,p.ne,λ_ z=>nomatch z] (n _ nk) (n _ nt) (n _ nf) (n _ nd) λx o e=>?_];exact s4 _ _$ b3 _ _ (jk e$ n _ nk) (jk e$ n _ nt) (jk e$ n _ nf) (jk e$ n _ nd)$ u _ _$ s1 _ _ e
noncomputable abbrev oU:cc:=bQ 74
noncomputable abbrev FX:cc:=bQ 75
noncomputable abbrev oY:cc:=bQ 84
def Bx(a:bf)(k:bV)(v:V):(bj a k v).length<=a.length+1:=qk
inductive iP(b:tz V)(H:Hp)(Q:VK)(a:XK):Prop
 |mk(p:η)(_:b=[.ref p])(_:ax H p)(_:∀(l:η) (C:bf) (H':Hp),H l=θ->H' l=δ (.dK C)->GT C->C.length<=13->ax H' p->aG p H H'->Q (.ref l) H')
inductive CL(p l:η)(H:Hp)(i:Nat)(k:_L.St)(a:Hp):Prop
 |mk(h j:tT V)(C:bf)(b:k=[↑p,↑l,h,j])(c:a l=δ (.dK C))(d:GT C)(e:C.length<=i)(f:ax a p)(g:aG p H a)
def EJ:NX (.lst x):=λa z=>by cases z
def EK:NX (.tup x):=λa z=>by cases z
def Kp.tm(k:Kp H h):am H h:=λb x e=>k b _ EK e
def Kp.seq{K:β}(e:Kp H b)(h:aH K H a x):aH K b a x:=by
 rcases h with (h | ⟨o,h⟩) |h
 .exact .inl$ .inl$ e _ _ EJ h
 .exact .inl$ .inr #[o,e _ _ (by intro c z;cases z) h]
 .exact .inr h
def Fx{H:Hp}{D:tz Df}{n:tz Nat}(h:nG H D n){i:Nat}{d:Df}{p:tz ρ}(a:D[i]?=δ d)(c:H d.pa=δ (.tup$ p.map rz)):n[i]?=δ p.length:=by let f:i < D.length:=(ξ.mp a).1;let b:n[i]?=δ (n[i]'(by rwa[<- h.1])):=NK _;let⟨g,e,l,_⟩:=h.2 i d _ a b;rw[c]at e;injection e with e;injection e with e;let:=O1 ot e;rw[NO,NO]at this;rw[b,<- l,this]
def Ix:NX (.dK x):=λa z=>by cases z
def uR(H:Hp)(X:tz V):Prop:=∀x∈X,∃(q:η) (c i:Int),x= .ref q/\H q=δ (.tup [.int c,.int i])/\gZ i
def uR.mono(k:am H a)(h:uR H b):uR a b:=λx d=>let #[q,c,i,e,f,g]:=h x d;#[q,c,i,e,k _ _ f,g]
inductive rO(b:tz V)(H:Hp)(Q:VK)(a:XK):Prop
 |mk(p:η)(m:Int)(_:b=[.ref p,.int m])(_:ax H p)(_:0 < m)(_:m<=100)(_:∀(l:η) (xs:tz V) (H':Hp),H l=θ->H' l=δ (.lst xs)->uR H' xs->xs.length<=100->ax H' p->aG p H H'->Q (.ref l) H')
inductive MZ(p l:η)(m:Int)(H:Hp)(i:Nat)(n:_L.St)(a:Hp):Prop
 |mk(h j:tT V)(k:tz V)(b:n=[↑p,δ (.int m),↑l,h,j])(c:a l=δ (.lst k))(d:uR a k)(e:k.length<=i)(f:ax a p)(g:aG p H a)
def Ni(r R:R2):R2:=λx y H Q=>r x y H Q∨R x y H Q
def Ft{X:Cx}(b:fX X o c)(d:fX X o e):fX X o (Ni c e):=λp s a H x y v u Q I r R h=>h.elim (b p s a H x y v u Q I r R) (d p s a H x y v u Q I r R)
structure GZ(H:Hp)(nA pA ag cA:η)(i:Nat)(Cs:bf)(d:Df)(ds:tz Df)(ns:tz Nat)(xs:tz V)(pds:tz eK)(is:tz Int):Prop where
 ps:Ps H nA pA ds ns xs pds
 xl:xs.length<=1000
 hd:ds[i]?=δ d
 hn:ns[i]?=δ is.length
 ag:H ag=δ (.tup$ is.map sn)
 hi:∀z∈is,gZ z
 il:is.length<=100
 ce:H cA=δ (.dK Cs)
 gc:GT Cs
def GZ.kp(h:GZ H n a A c i C d D N x p I)(k:Kp H b):GZ b n a A c i C d D N x p I:=#[h.ps.mono k.tm,h.xl,h.hd,h.hn,k.tm _ _ h.ag,h.hi,h.il,k _ _ Ix h.ce,h.gc]
inductive mW(l:η)(o:tz V)(H:Hp)(Q:VK)(b:XK):Prop
 |mk(n g h:η)(i:Nat)(f:bf)(d:Df)(j:tz Df)(m:tz Nat)(p:tz V)(e:tz eK)(k:tz Int)(_:o=[.ref n,.str d.f,.ref g,.ref h])(_:GZ H l n g h i f d j m p e k)(_:∀(c:η) (sk:Sk) (a:Int) (L':bf) (H':Hp),ci e f 16 d.f k [] 0= .ok sk a L' sk.size->lM H' d.f k sk a (.ref c)->sk.ok μ->sk.dep<=15->sk.size<=60->Kp H H'->Q (.ref c) H')(_:(∀sk a L' t',ci e f 16 d.f k [] 0≠ .ok sk a L' t')->∀H',Kp H H'->Q .non H')
inductive n8(K:β)(d:tz V)(H:Hp)(Q:VK)(b:XK):Prop
 |mk(a:η)(c:tz Int)(_:d=[.ref a])(_:aH K H a (c.map sn))(_:c.length<=63)(_:∀H',Q (.bl μ) H')
def gH:aj ["_law_box_here","_law_cells_here","_law_k","_law_cell"] z2z (ae oU):=bN
def wB(F:ti K "_law_cells" oU f fd)(r:‹1› fT f0 z0z a7 "_law_take")(cU:‹2› fU f2 z2z iD "_law_number")(mr:mg "range"=θ):⇑3 f fd z2z iP:=by
 erw[F.ok gH λc0 A O s H vs Q E g h=>?_]
 let⟨p,rfl,B,q⟩:=h;refine#[_,(jd (jA 1 gH.nd X5)$ jd (j6 Ot Z (zf Z mr$ ja (r.e g.m$ ja (pv 0)$ ja jf jb) jb) (jw (i:=2) gH.nd Z$ ω Z)$ jd (jA 3 gH.nd$ r.e g.m$ ja (pv 0)$ ja jf jb)$ jd (jz (zk$ r.e g.m$ ja (pv 0)$ ja jf jb) (jg$ jA 3 gH.nd$ jx zd (jx zd (jx JI jf jf) jf)$ r.e g.m$ ja (pv 0)$ ja jf jb) jp)$ jg$ Jh (zY g) (pv 1) (pv 3) (cU.e g.m$ ja (pv 0) jb) Z)$ jg$ jo$ pv 1),?_];let b0:=aK;let t0:=se;erw[ai λt a=>λl N=>a _ _ ?_];let S:aa H (af H l$ .dK []):=je N;let I:af H l (.dK []) l=δ (.dK []):=jc;generalize af H l (.dK [])=H1 at S I;let L:l≠p:=B.ne N;let B1:=B.same S;erw[ai λt a=>dD λJ j=>#[_,Z,p,14,Z,B1,WL,WL,λd H2 d0 d1 B2 M=>#[_,Z,WM,WM,j _ _ ?_]]];refine kH (lo:=0) (CL p l H) #[θ,θ,[],Z,by rw[M l L];exact I,_K.GT.nil,NQ _,B2,(aG.of_same S).trans$ aG.of_eq M] ?_ (λσ H' h=>a _ _ ?_)
 .clear a;intro E0 _ i σ H3 hi fE Gq o h;let⟨o2,o3,C,rfl,x,G,lC,y,D⟩:=h;erw[o ?_];show dH (dJ _ _) _ E0 _ _;erw[ai λt a=>#[_,Z,p,14,Z,y,WL,WL,λc4 H4 d2 d3 B4 R=>a _ _ ?_]];erw[ai λt a=>?_];let c:∀(u:Int) (v:Hp),ax v p->(∀b,b≠p->v b=H3 b)->t [↑p,↑l,δ$ .int (0+(i:Int)),δ$ .int u] v:=λu v BH T=>a _ _ (by
   refine#[_,Z,p,Z,BH,λm H7 m0 m1 B7 U=>?_];let h7:H7 l=δ (.dK C):=by rwa[U l L,T l L]
   let pl:=Bx C (.inl u) (.int m);exact#[_,Z,_,Z,l,_,Z,oC.k (k:=.inl u) h7 WM,fE _ _ #[_,_,_,Z,jc,G.put _ #[m0,m1],WM,B7.eq$ jh$ Ou L,(D.trans ((aG.of_eq T).trans$ aG.of_eq U)).upd_own N]])
  erw[me λG1 yT yF=>#[_,Z,p,8,Z,B4,WL,WL,λd5 H5 d4 d7 W X=>#[Z,_,Z,?_]]];by_cases Y:d5=0
  .rw[Y,N4 (Z:sn 0=sn 0)];erw[yT _ #[_,_,Z,Z,#[WL,WL,WL],_,_,Z,Z,_,Z,p,4,Z,W,WL,WL,λd6 H6 d8 d' B6 e6=>#[_,_,Z,Z,c _ H6 B6 λb n=>(e6 b n).trans ((X b n).trans$ R b n)]]]
  .rw[NW (λz=>Y (by injection z))];exact yF _$ c _ H5 W λb n=>(X b n).trans (R b n)
 .let⟨o2,o3,C,rfl,x,G,lC,y,D⟩:=h;exact#[_,Z,q l C H' N x G WM y D]
def nR:aj ["_law_box_here","_law_most","_law_found_here","_law_k","_law_cell"] ["_law_box_here","_law_most"] (ae FX):=bN
def EV(F:ti K "_law_changes" FX f fd)(D:‹1› fT f0 z0z a7 "_law_take")(cN:‹2› fN f2 z2z iD "_law_number")(mr:mg "range"=θ):⇑3 f fd ["_law_box_here","_law_most"] rO:=by
 erw[F.ok nR λc0 A O s H vs Q E g h=>?_]
 let⟨p,m,rfl,B,m0,m1,q⟩:=h;refine#[_,(jd (jA 2 nR.nd$ jE jb)$ jd (j6 Ot Z (zf Z mr$ ja (jx jW jf$ D.e g.m$ ja (pv 0)$ ja (pv 1) jb) jb) (jw (i:=3) nR.nd Z$ ω Z)$ jd (jA 4 nR.nd$ D.e g.m$ ja (pv 0)$ ja jf jb)$ jd (jz (zk$ D.e g.m$ ja (pv 0)$ ja jf jb) (jg$ jA 4 nR.nd$ jx zd (jx zd (jx JI jf jf) jf)$ D.e g.m$ ja (pv 0)$ ja jf jb) jp)$ jg$ jH$ jZ NZ Ob Oa jO (pv 2)$ ja (ji$ ja (pv 4)$ ja (cN.e g.m$ ja (pv 0) jb) jb) jb)$ jg$ jo$ pv 2),?_];let b0:=aK;let t0:=se;erw[ai λG a=>#[fc,λl I=>a _ _ ?_]];let R:aa H (af H l$ .lst []):=je I;let e1:af H l (.lst []) l=δ (.lst []):=jc;generalize af H l (.lst [])=H1 at R e1;let L:l≠p:=B.ne I;let B1:=B.same R;erw[ai λG a=>dD λJ j=>#[_,Z,_,Z,p,m,Z,B1,m0,WM,λd H2 d0 d1 B2 e2=>#[_,_,Z,Z,_,Z,WM,WM,j _ _ ?_]]];refine kH (lo:=0) (MZ p l m H) #[θ,θ,[],Z,by rw[e2 l L];exact e1,(λ_ h=>nomatch h),NQ _,B2,(aG.of_same R).trans$ aG.of_eq e2] ?_ (λσ H' h=>a _ _ ?_)
 .clear a;intro E0 _ i σ H3 hi fE Gq k h;let⟨o3,o4,X,rfl,U,W,lV,M,Y⟩:=h;erw[k ?_];show dH (dJ _ _) _ E0 _ _;erw[ai λG a=>#[_,Z,p,15,Z,M,WL,WL,λc4 H4 d2 d3 B4 e4=>a _ _ ?_]];erw[ai λG a=>?_];let c:∀(C:Int) (r:Hp),ax r p->(∀b,b≠p->r b=H3 b)->G [↑p,δ$ .int m,↑l,δ$ .int (0+(i:Int)),δ$ .int C] r:=λC r BH eH=>a _ _ (by
   let u:r l=δ (.lst X):=by rw[eH l L];exact U
   refine#[_,Z,.inl #[Z,_,aH.of u],_,Z,_,Z,p,Z,BH,λn v n0 n1 B7 e7=>#[cj,λt nt=>?_]];let h7:v l=δ (.lst X):=by rwa[e7 l L]
   let S:aa v (af v t$ .tup [.int C,.int n]):=je nt;let t8:af v t (.tup [.int C,.int n]) t=δ (.tup [.int C,.int n]):=jc;refine#[l,_,_,Z,Z,S _ _ h7,WM,fE _ _ ?_];generalize af v t (.tup [.int C,.int n])=y at S t8;let k8:aG p H3 y:=((aG.of_eq eH).trans$ aG.of_eq e7).trans (aG.of_same S);let l8:=S _ _ h7;let kl:aG l y (af y l$ .lst$ X++[.ref t]):=λb o N e=>by rwa[jh N]
   let T:am y (af y l$ .lst$ X++[.ref t]):=λb ys e=>kl _ _ (jR e l8 (by intro z;cases z)) e;refine#[_,_,X++[.ref t],Z,jc,?_,by rw[NP];show X.length+1<=_;omega,(B7.same S).eq$ jh$ Ou L,(Y.trans k8).upd_own I];intro x hx;rcases Ψ.mp hx with z |z
   .exact((W.mono$ k8.tm M).mono T) x z
   .rw[υ.mp z];exact#[t,C,n,Z,T _ _ t8,n0,n1])
  erw[me λG1 yT yF=>#[_,Z,p,8,Z,B4,WL,WL,λd5 H5 d4 d7 B5 e5=>#[Z,_,Z,?_]]];by_cases h3:d5=0
  .rw[h3,N4 (Z:sn 0=sn 0)];erw[yT _ #[_,_,Z,Z,#[WL,WL,WL],_,_,Z,Z,_,Z,p,4,Z,B5,WL,WL,λd6 H6 d8 d' B6 e6=>#[_,_,Z,Z,c _ H6 B6 λb N=>(e6 b N).trans ((e5 b N).trans$ e4 b N)]]]
  .rw[NW (λz=>h3 (by injection z))];exact yF _$ c _ H5 B5 λb N=>(e5 b N).trans (e4 b N)
 .let⟨o3,o4,X,rfl,U,W,lV,M,Y⟩:=h;exact#[_,Z,q l X H' I U W WM M Y]
noncomputable abbrev oX:cc:=bQ 80
noncomputable abbrev FV:cc:=bQ 81
noncomputable abbrev FR:cc:=bQ 82
structure Xb(K:β)(mg:ρ->tT ζ)(B TL TD:η):Prop where
 g:mg "BookError"=↑B
 h:clsIn K B≠θ
 t:typeIn K (.ref B)=δ (.type "type")
 m:mroIn K B (.type "BaseException")=δ μ
 L:mroIn K TL (.ref B)=δ μ
 D:mroIn K TD (.ref B)=δ μ
def GT.drop(h:GT C)(k:bV):GT (lN C k):=λp H=>h p (ro.mp H).1
inductive rN(c:tz V)(H:Hp)(Q:VK)(a:XK):Prop
 |mk(p b:η)(C:bf)(_:c=[.ref p,.ref b])(_:ax H p)(_:H b=δ (.dK C))(_:GT C)(_:C.length<=100)(_:∀(l:η) (C':bf) (H':Hp),H l=θ->H' l=δ (.dK C')->GT C'->C'.length<=C.length+100->ax H' p->aG p H H'->Q (.ref l) H')
inductive MY(p c l:η)(C:bf)(H:Hp)(i:Nat)(n:_L.St)(b:Hp):Prop
 |mk(k m:tT V)(a:bf)(d:n=[↑p,↑c,↑l,k,m])(e:b l=δ (.dK a))(f:GT a)(g:a.length<=C.length+i)(h:ax b p)(j:aZ p l H b)
def pq(H:Hp)(p:tz eK)(f:ρ)(i:tz Int)(s:Sk)(a:Int)(u:V):Prop:=lM H f i s a u/\s.ok μ/\s.dep<=15/\s.size<=60/\∃(C L:bf),ci p C 16 f i [] 0= .ok s a L s.size
def pq.mono(k:am H b)(h:pq H p f i s a u):pq b p f i s a u:=#[qc h.1 k,h.2]
def LV(H:Hp)(l:η):Prop:=H l=δ (.lst [])∨∃(p:tz eK) (f:ρ) (i:tz Int) (c C:η) (s S:Sk) (a A:Int),H l=δ (.lst [.ref c,.ref C])/\pq H p f i s a (.ref c)/\pq H p f i S A (.ref C)
inductive rL(K:β)(d:tz V)(H:Hp)(Q:VK)(b:XK):Prop
 |mk(a:η)(c:tz Int)(_:d=[.ref a])(_:aH K H a (c.map sn))(_:c.length<=63)(_:∀(l:η) (H':Hp),LV H' l->Kp H H'->Q (.ref l) H')
def iN:aj ["_law_parts","_law_f","_law_args","_law_cells_here","_law_book_here"] z38z (ae oX):=bN
def wH(F:ti K "_law_book" oX f fd)(GR:ah P w K mg base (gr P w) 45 Y q z29z (rW TL TD nA))(bR:aE K q z29z [])(kR:iu K (.ref Y)=μ)(mR:mg "run"=↑Y)(X:Xb K mg B TL TD)(M:mg "dict"=θ):⇑46 f fd z38z (mW nA):=by
 erw[F.ok iN λc0 A r s H vs Q E hr h=>?_]
 let⟨v,y,G,i,j,d,V,W,xs,p,is,rfl,c,q1,q2⟩:=h;refine#[_,(jd (jA 4 iN.nd$ @KG _ _ _)$ jd (@Bu _ _ _ _ _ _ _ _ _ _ _ Z Z (@Bv _ _ _ _ (4) _ _ iN.nd Z (ω Z) (@wX _ _ _ _ _ _ _ _ _ _ _ _ _ _ GR hr.m Z mR kR bR .nil (ja (pv 0)$ ja (pv 1)$ ja (pv 2)$ ja (jN QW Z M boot_dict$ ja (pv 3) jb)$ ja jf jb) WL WP WP) WP (by first |exact .inl Z |exact .inr Z)) Z X.g X.h X.t X.m (λ_=>(jg$ jA 4 iN.nd$ @KG _ _ _)) WL)$ jg$ jo$ pv 4),?_];erw[ai λF1 k=>k _ _ ?_];erw[ai λF1 k=>?_];show DE _ _ _ _ _ [↑v,δ$ .str d.f,↑y,↑G,δ .non] H;refine#[_,Z,_,Z,_,Z,_,Z,G,j,Z,c.ce,λO not=>?_];let S:aa H (af H O$ .dK j):=je not;let e1:af H O (.dK j) O=δ (.dK j):=jc;generalize af H O (.dK j)=H1 at S e1 ⊢;let c:=c.kp (Kp.of_same S);refine#[v,y,O,i,j,d,V,W,xs,p,is,Z,c.ps,c.hd,c.hn,c.ag,c.hi,e1,c.gc,λu sk a L' H2 l hc ok dp sz s2=>?_,λl=>?_,λl=>?_]
 .let⟨c',z⟩:=id hc;let⟨_,_,_,rfl,_⟩:=z;exact k _ _ #[_,Z,q1 c' sk a L' H2 l hc ok dp sz$ Kp.of_same$ S.trans s2]
 .intro _ H7 I x C T J R hT U;cases J;refine#[X.L,λT' n=>k _ _ #[_,Z,q2 (λ_ _ _ _ z=>by rw[l]at z;cases z) _ ?_]];exactλb o N e=>Kq (H:=H) (I _ _ N$ S _ _ e) N R n
 .intro _ H7 I x C T J R hT U;cases J;refine#[X.D,λT' n=>k _ _ #[_,Z,q2 (λ_ _ _ _ z=>by rw[l]at z;cases z) _ ?_]];exactλb o N e=>Kq (H:=H) (I _ _ N$ S _ _ e) N R n
def rE:aj ["_law_box_here","_law_cells_here","_law_other","_law_cell","_law_number_here"] ["_law_box_here","_law_cells_here"] (ae FV):=bN
def EU(F:ti K "_law_changed" FV f fd)(cG:‹3› fG f0 ["_law_box_here","_law_most"] rO "_law_changes")(cT:‹1› fT f2 z0z a7 "_law_take")(Y:mg "dict"=θ):⇑4 f fd ["_law_box_here","_law_cells_here"] rN:=by
 erw[F.ok rE λc0 A o1 s H vs Q E hr h=>?_]
 let⟨p,O,C,rfl,B,hC,gC,h3,q⟩:=h;refine#[_,(jd (jA 2 rE.nd$ jN QW Z Y boot_dict$ ja (pv 1) jb)$ jd (j6 Ot Z (zj$ cG.e hr.m$ ja (pv 0)$ ja jf jb) (zz (n:=2) Z$ jB (jw (i:=3) rE.nd Z$ ω Z)$ jB (jw (i:=4) rE.nd Z$ ω Z) kj)$ jd (Jh (zY hr) (pv 2) (pv 3) (pv 4) Z)$ jg$ jz (zk$ cT.e hr.m$ ja (pv 0)$ ja jf jb) (jg$ jH$ jZ T3 Uj PySem.F.type_dict_pop AQ (pv 2)$ ja (pv 3) jb) jp)$ jg$ jo$ pv 2),?_];let b0:=aK;erw[ai λF1 g=>#[_,Z,O,C,Z,hC,λl R=>g _ _ ?_]];let s1:aa H (af H l$ .dK C):=je R;let e1:af H l (.dK C) l=δ (.dK C):=jc;generalize af H l (.dK C)=H1 at s1 e1 ⊢;let S:l≠p:=B.ne R;let B1:=B.same s1;erw[ai λF1 g=>dD λJ j=>#[_,Z,p,4,Z,B1,WL,WL,λT x0 H2 N u pV lV B2 k2=>#[T,Z,#[_,aH.of u],j _ _ ?_]]];let l2:H2 l=δ (.dK C):=k2 _ _ S e1;let l0:T≠l:=(jk e1 N).symm;let p0:T≠p:=B1.ne N;erw[zH (K:=K) (a:=T) (xs:=x0) (MY p O l C H2) #[θ,θ,C,Z,l2,gC,NQ _,B2,λ_ _ _ _ e=>e] (λk σ H' _ h=>?_) ?_ (λσ H' h=>g _ _ ?_)]
 .let⟨_,_,_,_,_,_,_,_,kk⟩:=h;exact aH.of$ kk _ _ p0 l0 u
 .clear g;intro E rt k x σ r y fE Gq t h;let⟨o3,o4,d,rfl,l3,g3,n3,B3,U⟩:=h;erw[t ?_];let h4:=(ξ.mp y).1;let⟨qq,c,I,rfl,D,h1⟩:=pV x (Og y);let⟨_,_,_,_,_,h2⟩:=B2.ob;let D:=U _ _ (jR D h2 (by intro z;cases z)) (jR D l2 (by intro z;cases z)) D;refine#[qq,_,Z,aC.of D,Z,_,_,Z,_,_,Z,Z,?_];show dH _ _ E [↑p,↑O,↑l,δ$ .int c,δ$ .int I] r;let pl:=qk (kvs:=d) (k:=.inl c) (v:=.int I);erw[ai λF1 g=>#[_,Z,_,Z,_,Z,l,_,Z,oC.k (k:=.inl c) l3 WM,g _ _ ?_]];let kE:aG l r (af r l$ .dK$ bj d (.inl c)$ .int I):=λb o W e=>by rwa[jh W]
  let eE:af r l (.dK$ bj d (.inl c)$ .int I) l=δ (.dK$ bj d (.inl c)$ .int I):=jc;let B4:ax (af r l$ .dK$ bj d (.inl c)$ .int I) p:=B3.eq (jh S.symm);generalize af r l (.dK$ bj d (.inl c)$ .int I)=H4 at kE eE B4;let g4:=g3.put (.inl c) h1;erw[me λG1 yT yF=>#[_,Z,p,5,Z,B4,WL,WL,λd1 G d0 d2 L q1=>#[Z,_,Z,?_]]];let l5:G l=δ (.dK$ bj d (.inl c)$ .int I):=by rw[q1 l S];exact eE
  let k5:aZ p l H2 G:=λb o X M e=>by rw[q1 b X];exact kE _ _ M$ U _ _ X M e
  by_cases h0:d1=0
  .rw[h0,N4 (Z:sn 0=sn 0)];refine yT _ #[_,Z,.inr$ .inr$ .inl #[Z,.inl #[_,l5]],_,Z,l,_,.inl c,.int I,Z,Z,l5,by rw[yS,N0 Z],fE _ _ #[_,_,_,Z,jc,g4.drop _,?_,L.eq$ jh S.symm,λb o X M e=>by rw[jh M];exact k5 _ _ X M e]];let:=X4 (bj d (.inl c)$ .int I) (.inl c);omega
  .rw[NW (λz=>h0 (by injection z))];exact yF _$ fE _ _ #[_,_,_,Z,l5,g4,WM,L,k5]
 .let⟨_,_,d,rfl,l3,g3,n3,B3,U⟩:=h;exact#[_,Z,q l d H' R l3 g3 WM B3 λb o W e=>U _ _ W (jk e R) (k2 _ _ W$ s1 _ _ e)]
def iA:aj ["_law_script","_law_program","_law_f","_law_args","_law_parts","_law_cells_here","_law_old","_law_new"] ["_law_script"] (ae FR):=bN
def ER(F:ti K "_law_books" FR f fd)(cB:‹1› fB f0 ["_law_script","_law_k"] (rM K) "_law_box")(cK:‹23› fK f2 z2z mP "_law_case")(cM:‹65› fM f3 ["program"] (nh K nA) "made")(cC:‹3› fC f4 z2z iP "_law_cells")(cU:‹46› fU f5 z38z (mW nA) "_law_book")(cD:‹4› fD f6 ["_law_box_here","_law_cells_here"] rN "_law_changed"):⇑66 f fd ["_law_script"] (rL K):=by
 erw[F.ok iA λc2 A o1 s H vs Q E u h=>?_]
 let⟨a,ns,rfl,hS,a4,q⟩:=h;refine#[_,(jd (zA (cK.e u.m$ ja (cB.e u.m$ ja (pv 0)$ ja jf jb) jb)$ zz (n:=3) Z$ jB (jw (i:=1) iA.nd Z$ ω Z)$ jB (jw (i:=2) iA.nd Z$ ω Z)$ jB (jw (i:=3) iA.nd Z$ ω Z) kj)$ jd (jA 4 iA.nd$ cM.e u.m$ ja (pv 1) jb)$ jd (jA 5 iA.nd$ cC.e u.m$ ja (cB.e u.m$ ja (pv 0)$ ja jf jb) jb)$ jd (jA 6 iA.nd$ cU.e u.m$ ja (pv 4)$ ja (pv 2)$ ja (pv 3)$ ja (pv 5) jb)$ jd (jA 7 iA.nd$ cU.e u.m$ ja (pv 4)$ ja (pv 2)$ ja (pv 3)$ ja (cD.e u.m$ ja (cB.e u.m$ ja (pv 0)$ ja jf jb)$ ja (pv 5) jb) jb)$ jd (jz (PW.pt$ XQ (KH$ @Xd _ _ _ _ _$ pv 6)$ KI$ KH$ @Xd _ _ _ _ _$ pv 7) (jg$ jo$ jE jb) jp)$ jg$ jo$ jE$ ja (pv 6)$ ja (pv 7) jb),?_];let b4:=aK;erw[ai λB g=>#[_,Z,a,ns,1,Z,hS,WL,WL,λp H1 np B1 e1=>#[p,Z,B1,λt r v2 v3 O R H3 ht u hD h1 h8 N hN U h3 B3 k3=>#[t,_,Z,aC.of ht,Z,_,_,Z,_,_,Z,_,_,Z,Z,g _ _ ?_]]]];let s1:aa H H1:=λb o e=>by rwa[e1 b$ jk e np]
 let s3:aa H H3:=λb o e=>k3 _ _ (jk e np) (s1 _ _ e);let⟨d,ps,I,J,hd,rfl,h4,rfl,h5,h6,D,h7⟩:=h3;show dH (dJ _ _) _ _ [↑a,↑r,δ$ .str d.f,↑I,θ,θ,θ,θ] H3;erw[ai λB g=>#[_,Z,r,O,R,Z,u,hD,WM,λd hd=>(hN.1 d hd).1,λv H4 hv s4=>g _ _ ?_]];let⟨W,X,rfl,h',a1⟩:=Kr hv;let S4:=s3.trans s4;erw[ai λB g=>#[_,Z,a,ns,2,Z,S4.seq hS,WL,WL,λp5 H5 Y B5 e5=>#[p5,Z,B5,λcA Cs H6 n1 a2 gC lC B6 k6=>g _ _ ?_]]];let s6:aa H4 H6:=λb o e=>k6 _ _ (jk e Y) (by rwa[e5 b$ jk e Y]);let S6:=S4.trans s6;let T:=aa.tm (s4.trans s6);let⟨i0,hi,ei⟩:=iv.mp hd;let h0:O[i0]?=δ d:=by rw[<- ei];exact NK hi
 let h2:=Fx U h0 h4;rw[<- h6]at h2;let⟨k,hP⟩:=IK (s6 _ _ h') (a1.mono$ aa.tm s6) #[R,hD.mono T] hN (U.mono T);let lx:=zq hP.tr;rw[NO]at lx;let ak:GZ H6 nA W I cA i0 Cs d O N X k J:=#[hP,WM,h0,h2,T _ _ h5,h7,D,a2,gC];let kS:Kp H H6:=Kp.of_same S6;erw[ai λB g=>?_];suffices go:∀(ch:V) (x:Hp),Kp H6 x->(ch= .non∨∃c S b,ch= .ref c/\pq x k d.f J S b (.ref c))->B [↑a,↑r,δ$ .str d.f,↑I,↑W,↑cA,δ ch,θ] x by exact#[_,Z,_,Z,_,Z,_,Z,W,I,cA,i0,Cs,d,O,N,X,k,J,Z,ak,λc S b L' x eq hc ok dp sz L=>go _ x L (.inr #[c,S,b,Z,hc,ok,dp,sz,Cs,L',eq]),λno x L=>go _ x L (.inl Z)]
 intro ch x L rv;erw[g _ _ ?_];let a0:=ak.kp L;let k0:=kS.trans L;erw[ai λB g=>?_];suffices go:∀(C:V) (y:Hp),Kp x y->(C= .non∨∃c S b,C= .ref c/\pq y k d.f J S b (.ref c))->B [↑a,↑r,δ$ .str d.f,↑I,↑W,↑cA,δ ch,δ C] y by
  refine#[_,Z,_,Z,_,Z,_,Z,a,ns,3,Z,k0.seq hS,WL,WL,λpB HA n0 BA eA=>#[_,Z,?_]];let sA:aa x HA:=λb o e=>by rwa[eA b$ jk e n0]
  refine#[pB,cA,Cs,Z,BA,sA _ _ a0.ce,gC,WM,λl C' HB n2 a3 gB lB BB k1=>?_];let sB:aa x HB:=λb o e=>k1 _ _ (jk e n0) (sA _ _ e);let j:=a0.kp (Kp.of_same sB);exact#[W,I,l,i0,C',d,O,N,X,k,J,Z,#[j.ps,j.xl,j.hd,j.hn,j.ag,j.hi,j.il,a3,gB],λc S b L' y eq hc ok dp sz M=>go _ y ((Kp.of_same sB).trans M) (.inr #[c,S,b,Z,hc,ok,dp,sz,C',L',eq]),λno y M=>go _ y ((Kp.of_same sB).trans M) (.inl Z)]
 intro C y M r0;erw[g _ _ ?_];let G:=k0.trans M;erw[ai λB g=>#[_,Z,_,Z,?_]];rcases rv with rfl | ⟨c0,s0,b0,rfl,b2⟩
 .exact c8 (N4 Z) #[fc,λl N=>q l _ (.inl jc) (G.trans$ Kp.of_same$ je N)]
 .refine aY (NW (by intro z;cases z)) #[_,Z,_,Z,?_];rcases r0 with rfl | ⟨c1,s2,b1,rfl,b3⟩
  .exact c8 (N4 Z) #[fc,λl N=>q l _ (.inl jc) (G.trans$ Kp.of_same$ je N)]
  .refine aY (NW (by intro z;cases z))$ g _ _ #[_,Z,_,Z,cj,λl N=>?_];exact q l _ (.inr #[k,d.f,J,c0,c1,s0,s2,b0,b1,jc,(b2.mono M.tm).mono$ aa.tm$ je N,b3.mono$ aa.tm$ je N])$ G.trans$ Kp.of_same$ je N
def Xw{call:oq}(h:lP call C p (m+1) (.go n H) L t= .ok d a g i):∃c w l T r,p.cs[n]?=δ c/\iI call C (bq c.nm H) L t c.e= .ok w l T/\d= .st (n:Int) H w r/\lP call C p m (Fo p c H w.wh) l T= .ok r a g i:=by
 unfold lP at h;cases e:p.cs[n]? with
 |none=>rw[e]at h;cases h
 |some c=>
  rw[e]at h;dsimp only at h;cases E:iI call C (bq c.nm H) L t c.e with
  |long |deep=>rw[E]at h;cases h
  |ok w l T=>
   rw[E]at h;dsimp only at h;cases f:lP call C p m (Fo p c H w.wh) l T with
   |long |deep=>rw[f]at h;cases h
   |ok r b _L j=>rw[f]at h;cases h;exact#[c,w,l,T,r,Z,E,Z,f]
noncomputable def D5(p:tz eK):DF:=λf n h=>match eO p f with
 |none=>.nil
 |some a=>match a.cs[n.toNat]? with
  |none=>.nil
  |some c=>HV (bq c.nm h) c.e
def LX(D:DF)(call:oq):Prop:=∀f i L t s a l T,call f i L t= .ok s a l T->Dt D f s
def HW{call:oq}{w:Sk}(H:LX D call)(h:iI call C k L t e= .ok w j m)(g:ρ):Dt D g w:=by
 let b:=CY h;cases e with
 |ask d T=>rw[YR b]at h;cases h;trivial
 |st p l=>
  cases l with
  |gv d T |st x d T=>unfold iI at h;rw[N0 b]at h;cases h
  |rd x d T=>rw[vk b]at h;cases h;trivial
  |wr d u T U=>rw[vm b]at h;cases h;trivial
  |cl x f q i=>
   rw[QL b]at h;cases e:call f (i.map λc=>c.2.ev k) L (t+1) with
   |long |deep=>rw[e]at h;cases h
   |ok s a _L n=>rw[e]at h;cases h;show Dt D f s;exact H _ _ _ _ _ _ _ _ e
theorem Db{call:oq}(H:LX (D5 p) call)(d:eO p f=δ c):∀(m:Nat) {g:Gd} {L l:bf} {t T:Nat} {R:Sk} {a:Int},lP call q c m g L t= .ok R a l T->Dt (D5 p) f R
 |0,_,_,_,_,_,_,_,h=>by cases h
 |m+1,.give b,_,_,_,_,_,_,h=>by cases h;trivial
 |m+1,.go n j,_,_,_,_,_,_,h=>by let⟨C,w,s,u,r,k,i,rfl,o⟩:=Xw h;refine#[?_,HW H i f,Db H d m o];rw[D7 i];show _=(match eO p f with |none=>Tr.nil |some c=>match c.cs[((n:Int)).toNat]? with |none=>Tr.nil |some C=>HV (bq C.nm j) C.e);rw[d];dsimp only;rw[OM,k]
theorem xw:∀j,LX (D5 p) (ci p C j)
 |0=>λf i L t s a l T h=>by cases h
 |j+1=>λf i L t s a l T h=>by
  let h:(match eO p f with |none=>OC.long |some b=>lP (ci p C j) C b 62 (iT (uM b) (dm b.way.sets$ bq b.ps i) b.way.goal) L t)= .ok s a l T:=h;cases e:eO p f with
  |none=>rw[e]at h;cases h
  |some b=>rw[e]at h;exact Db (xw j) e 62 h
def pq.dt(h:pq H p f i s a u):Dt (D5 p) f s:=by let⟨_,_,_,_,C,L,e⟩:=h;exact xw 16 _ _ _ _ _ _ _ _ e
noncomputable def iJ:Sk->aM->tz aN->Nat->tz aM
 | .st n h w r,p,os,m=>match fe os m n h w with
  |none=>iJ r p os m
  |some j=>match os[j]? with
   |none=>[]
   |some o=>((if aQ n h o=μ then [p++[(j:Int)]] else [])++iJ w (p++[(j:Int)]) (iH o.2.2) 0)++iJ r p os (j+1)
 | .cl _ _ s _,p,os,m=>iJ s p os m
 |_,_,_,_=>[]
def Jt{w:Sk}{os:tz aN}(h:fe os m n H w=θ):iJ (.st n H w r) p os m=iJ r p os m:=by show(match fe os m n H w with |none=>_ |some j=>_)=_;rw[h]
def Ju{w:Sk}{os:tz aN}(h:fe os m n H w=δ j)(a:os[j]?=δ o):iJ (.st n H w r) p os m=((if aQ n H o=μ then [p++[(j:Int)]] else [])++iJ w (p++[(j:Int)]) (iH o.2.2) 0)++iJ r p os (j+1):=by show(match fe os m n H w with |none=>_ |some j=>match os[j]? with |none=>([]:tz aM) |some o=>_)=_;rw[h];dsimp only;rw[a]
def sq(a:aM)(m:Nat)(p:aM):Prop:=∃(j:Nat) (q:aM),m<=j/\p=a++(j:Int)::q
def yp(p:aM)(m:Nat):sq p m (p++[(m:Int)]):=#[m,[],NQ _,Z]
def sq.le(h:sq a m p)(l:M<=m):sq a M p:=let #[j,q,H,b]:=h;#[j,q,N6 l H,b]
def sq.up{a:aM}{m j i:Nat}{p:aM}(h:sq (a++[(j:Int)]) i p)(l:m<=j):∃q,p=a++(j:Int)::q/\q≠[]:=by let⟨k,q,_,e⟩:=h;exact#[(k:Int)::q,by rw[e,Pt];rfl,λz=>by cases z]
def qr{q:aM}(h:p++(i:Int)::q=p++(j:Int)::Q):i=j/\q=Q:=by let:=Su h;injection this with a H;exact#[WM,H]
theorem QM:∀(s:Sk) (p:aM) (k:Nat),∀q∈(s.ws p k).map (·.1),sq p 0 q
 | .st _ _ w r,p,k,q,h=>by
  let h:q∈(((p++[(k:Int)],w)::w.ws (p++[(k:Int)]) 0)++r.ws p (k+1)).map (·.1):=h;rw[Ol,O8]at h;rcases Ψ.mp h with h |h
  .rcases Θ.mp h with rfl |h
   .exact(yp p k).le (NY _)
   .let⟨Q,e,_⟩:=(QM w _ 0 q h).up (m:=0) (NY _);exact#[k,Q,NY _,e]
  .exact QM r p (k+1) q h
 | .cl _ _ s _,p,_,q,h=>QM s p 0 q h
 | .nil,_,_,_,h | .ask _,_,_,_,h | .rd _ _,_,_,_,h | .wr _ _,_,_,_,h=>nomatch h
def Ku{w:Sk}{p:aM}{k:Nat}{q:aM}(h:q∈cy (p++[(k:Int)]) w):∃Q,q=p++(k:Int)::Q:=by
 rcases Θ.mp h with rfl |h
 .exact#[[],Z]
 .let⟨Q,e,_⟩:=(QM w _ 0 q h).up (m:=0) (NY _);exact#[Q,e]
def Jv(s:aN)(r:tz aN)(p:aM)(k:Nat):(eG (s::r) p k).map (·.1)=cy (p++[(k:Int)]) s.2.2++(eG r p$ k+1).map (·.1):=by show((_::_)++_).map _=_;rw[Ol];rfl
theorem Xo:∀(os:tz aN) (p:aM) (k:Nat),∀q∈(eG os p k).map (·.1),∃(i:Nat) (Q:aM),k<=i/\i < k+os.length/\q=p++(i:Int)::Q
 | [],_,_,_,h=>nomatch h
 |s::r,p,k,q,h=>by
  rw[Jv]at h;rcases Ψ.mp h with h |h
  .let⟨Q,e⟩:=Ku h;exact#[k,Q,NQ _,by show k < k+(r.length+1);omega,e]
  .let⟨i,Q,H,a,e⟩:=Xo r p (k+1) q h;exact#[i,Q,WM,by show i < k+(r.length+1);omega,e]
theorem JQ:∀(s:Sk) (a:aM) (os:tz aN) (m:Nat),∀p∈iJ s a os m,sq a m p
 | .st n b w r,a,os,m,p,h=>by
  cases e:fe os m n b w with
  |none=>rw[Jt e]at h;exact JQ r a os m p h
  |some j=>
   let⟨H,x,d,_⟩:=za e;rw[Ju e d]at h;rcases Ψ.mp h with h |h
   .rcases Ψ.mp h with h |h
    .by_cases c:aQ n b x=μ
     .rw[N0 c]at h;cases υ.mp h;exact(yp a j).le H
     .rw[N7 c]at h;cases h
    .let⟨q,E,_⟩:=(JQ w _ _ 0 p h).up (m:=m) H;exact#[j,q,H,E]
   .exact(JQ r a os (j+1) p h).le WM
 | .cl _ _ s _,a,os,m,p,h=>JQ s a os m p h
 | .nil,_,_,_,_,h | .ask _,_,_,_,_,h | .rd _ _,_,_,_,_,h | .wr _ _,_,_,_,_,h=>nomatch h
def y7{os:tz aN}(p:aM)(h:m<=j)(H:os[j]?=δ o):(eG (os.drop m) p m).map (·.1)=dW p os m j++(cy (p++[(j:Int)]) o.2.2++(eG (os.drop$ j+1) p$ j+1).map (·.1)):=by
 let e:os.drop m=(os.drop m).take (j - m)++(o::os.drop (j+1)):=by let z:=Rc (j - m) (os.drop m);rw[VC,show m+(j - m)=j by omega]at z;let⟨a,E⟩:=ξ.mp H;rw[<- O9 (h:=a),E]at z;exact z.symm
 let c:=(ξ.mp H).1;let b:((os.drop m).take$ j - m).length=j - m:=by rw[Oh,OE];omega
 conv=>lhs;rw[e]
 rw[qd,b,Ol,show m+(j - m)=j by omega,Jv];rfl
def pR{W w:Sk}(o:W.ok ν)(O:w.ok ν)(k:Dt D f W)(j:Dt D f w)(h:∀g i s a,w= .cl g i s a->∃S A,W= .cl g i S A)(H:∀g i s a,W= .cl g i s a->∃S A,w= .cl g i S A):∃g d,d.ok μ/\iH W=d.steps/\Dt D g d/\Dt D g w/\(∀G i s a,w= .cl G i s a->g=G)/\((∀g i s a,w≠ .cl g i s a)->d= .nil):=by
 cases W with
 |nil |st _ _ _ _=>exact o.elim
 |cl g i s a=>let⟨S,A,rfl⟩:=H g i s a Z;exact#[g,s,o,Z,k,j,λ_ _ _ _ e=>by cases e;rfl,λz=>absurd Z (z _ _ _ _)]
 |ask b |rd b c |wr b c=>exact#[f,.nil,trivial,Z,trivial,j,λg i s a e=>(let #[_,_,z]:=h g i s a e;nomatch z),λ_=>Z]
def yN{os:Sk}{w:Sk}(O:w.ok ν)(k:Dt D f os)(h:fe os.steps m n l w=δ j)(b:os.steps[j]?=δ o)(p:d9 w=D f n l):∀g i s a,o.2.2= .cl g i s a->∃S A,w= .cl g i S A:=by
 intro g i s a e;let⟨_,t,H,c⟩:=za h;rw[b]at H;cases H;rcases c with c | ⟨F,I,S,A,q,c⟩
 .let⟨C,r⟩:=ZJ c;let⟨d,_⟩:=J2 k b;rw[C,r,<- p,e]at d;exact YV O d.symm
 .let⟨u,v,E⟩:=wb c;rw[e]at E;cases E;exact#[S,A,q]
noncomputable def fb(L:tz aM)(l:tz aM):tz aM:=l.filter λp=>decide (p∉L)
def K6(L a b:tz aM):fb L (a++b)=fb L a++fb L b:=RC ..
def Yp(h:∀p∈a,p∉L):fb L a=a:=List.filter_eq_self.mpr λp H=>N4 (h p H)
def Q9(L:tz aM)(p:aM)(l:tz aM):fb L (p::l)=if p∈L then fb L l else p::fb L l:=by
 unfold fb;by_cases h:p∈L
 .rw[N0 h,Sr (by simp [h])]
 .rw[N7 h,Sq (by simp [h])]
def HK{w:Sk}(o:w.ok ν)(p:aM):w.ws p 0=eG (iH w) p 0:=by
 cases w with
 |nil |st _ _ _ _=>exact o.elim
 |cl f i s a=>exact zO (s:=s) o p 0
 |_=>rfl
theorem XU{D:DF}:∀{b:Bool} {s:Sk},s.ok b->∀(f:ρ)(so:Sk)(po pn:aM)(m k:Nat)(L:tz aM),so.ok μ->Dt D f so->Dt D f s->(∀g I t a,s= .cl g I t a->f=g)->(b=ν->(∀g I t a,s≠ .cl g I t a)->so= .nil)->(∀p,sq po m p->(p∈L↔p∈iJ s po so.steps m))->
  (c7 s po so.steps m pn k).d=fb L ((eG (so.steps.drop m) po m).map (·.1))
 |true,.nil,_=>λf so po pn m k L _ _ _ _ _ H=>by show dW po so.steps m so.steps.length=_;unfold dW;rw[O0 (by rw[OE];exact NQ _),Yp];intro p c z;let⟨i,Q,J,_,e⟩:=Xo _ _ _ p c;exact nomatch (H p #[i,Q,J,e]).mp z
 |true,.st n E w r,o=>λf so po pn m k L O v y _ _ H=>by
  let nr:∀g I t a,r= .cl g I t a->f=g:=λg I t a e=>by let z:=o.2;rw[e]at z;exact z.elim
  cases h:fe so.steps m n E w with
  |none=>rw[zW h];rw[Jt h]at H;exact XU (b:=μ) (s:=r) o.2 _ _ _ _ _ _ _ O v y.2.2 nr (λz=>nomatch z) H
  |some j=>
   let⟨l,x,A,hc⟩:=za h;let B:=JP O A;let⟨d1,d2⟩:=J2 v A;let kd:=Xn (s:=.nil) O v h A B y.1;let N:=yN o.1 v h A y.1;let⟨g,S,R,T,U,V,W,X⟩:=pR B o.1 d2 y.2.1 kd N;rw[Ju h A,T]at H;let M:∀p,p∈((if aQ n E x=μ then [po++[(j:Int)]] else [])++iJ w (po++[(j:Int)]) S.steps 0)++iJ r po so.steps (j+1)↔((aQ n E x=μ/\p=po++[(j:Int)])∨p∈iJ w (po++[(j:Int)]) S.steps 0)∨p∈iJ r po so.steps (j+1):=λp=>by
    rw[PX,PX];by_cases u:aQ n E x=μ
    .rw[N0 u,R8];simp [u]
    .rw[N7 u];simp [u]
   let C:∀p,p∈iJ w (po++[(j:Int)]) S.steps 0->∃q,p=po++(j:Int)::q/\q≠[]:=λp c=>(JQ w _ _ 0 p c).up (m:=m) l;let inR:∀p,p∈iJ r po so.steps (j+1)->sq po (j+1) p:=λp c=>JQ r _ _ _ p c;let ih:=XU (D:=D) (b:=ν) (s:=w) o.1 (m:=0) (k:=0) (pn:=pn++[(k:Int)]) (po:=po++[(j:Int)]) (L:=L) _ _ R U V W (λ_=>X) λp c=>by
    let⟨q,e,Y⟩:=c.up (m:=m) l;rw[H p #[j,q,l,e],M p];constructor
    .rintro ((⟨_,z⟩ |z) |z)
     .rw[e]at z;let⟨_,z⟩:=qr z;exact absurd z Y
     .exact z
     .let⟨i,Q,hi,z⟩:=inR p z;rw[e]at z;let:=(qr z).1;omega
    .exactλz=>.inl (.inr z)
   let i0:=XU (D:=D) (b:=μ) (s:=r) o.2 (m:=j+1) (k:=k+1) (pn:=pn) (po:=po) (L:=L) _ _ O v y.2.2 nr (λz=>nomatch z) λp c=>by
    let⟨i,q,hi,e⟩:=c;rw[H p #[i,q,WM,e],M p];constructor
    .rintro ((⟨_,z⟩ |z) |z)
     .rw[e]at z;let:=(qr z).1;omega
     .let⟨Q,z,_⟩:=C p z;rw[e]at z;let:=(qr z).1;omega
     .exact z
    .exactλz=>.inr z
   rw[P7]at ih;rw[zu h A,y7 po l A,K6,K6,<- i0];let e1:fb L (dW po so.steps m j)=dW po so.steps m j:=Yp λp c z=>by
    let⟨i,Q,J,h2,e⟩:=Xo _ _ _ p c;rw[Oh,OE]at h2;rw[H p #[i,Q,J,e],M p]at z;rcases z with (⟨_,z⟩ |z) |z
    .rw[e]at z;let:=(qr z).1;omega
    .let⟨q2,z,_⟩:=C p z;rw[e]at z;let:=(qr z).1;omega
    .let⟨i',q2,hi,z⟩:=inR p z;rw[e]at z;let:=(qr z).1;omega
   let e2:fb L (cy (po++[(j:Int)]) x.2.2)=(one (po++[(j:Int)]) x (pn++[(k:Int)]) n E w).d++(c7 w (po++[(j:Int)]) S.steps 0 (pn++[(k:Int)]) 0).d:=by
    rw[ih];unfold cy;rw[Q9,HK B,T];let hm:=(H (po++[(j:Int)]) #[j,[],l,Z]).trans (M _);unfold one;by_cases u:aQ n E x=μ
    .rw[N0$ hm.mpr$ .inl$ .inl #[u,Z],N0 u];by_cases G:x.2.2.fnd=w.fnd
     .rw[N0 G];rfl
     .rw[N7 G];rfl
    .rw[N7 u,N7]
     .rfl
     .rw[hm];rintro ((⟨z,_⟩ |z) |z)
      .exact u z
      .let⟨q2,z,Y⟩:=C _ z;let⟨_,z⟩:=qr (q:=[]) z;exact Y z.symm
      .let⟨i',q2,hi,z⟩:=inR _ z;let:=(qr (q:=[]) z).1;omega
   rw[e1,e2,T];show(dW po so.steps m j++((one _ _ _ _ _ _).d++(c7 _ _ _ _ _ _).d))++(c7 _ _ _ _ _ _).d=_;rw[Pt]
 |false,.cl g _ s _,o=>λf so po pn m k L O v y G _ H=>by
  let z:=G g _ s _ Z;subst z;exact XU (b:=μ) (s:=s) o _ _ _ _ _ _ _ O v y (λg I t a e=>by
   rw[e]at o;exact o.elim) (λz=>nomatch z) H
 |false,.ask _,_ |false,.rd _ _,_ |false,.wr _ _,_=>λf so po pn m k L _ _ _ _ F _=>by let z:=F Z (λ_ _ _ _ z=>nomatch z);subst z;show []=fb L ((eG (([]:tz aN).drop m) po m).map (·.1));rw[RV];rfl
theorem Xx:∀(p x y:aM),mh (p++x) (p++y)=mh x y
 | [],_,_=>rfl
 |a::p,x,y=>by show(if a=a then mh (p++x) (p++y) else _)=_;rw[N0 Z,Xx p]
def Xy{p q Q:aM}{i j:Nat}(h:i < j):mh (p++(i:Int)::q) (p++(j:Int)::Q)=μ:=by rw[Xx];show(if (i:Int)=(j:Int) then _ else decide ((i:Int) < (j:Int)))=μ;rw[N7 WM];exact N4 WM
def Xz:mh p (p++(i:Int)::q)=μ:=by let:=Xx p [] ((i:Int)::q);rw[Op]at this;exact this
abbrev uS(l:tz aM):Prop:=l.Pairwise λa b=>mh a b=μ
theorem uJ:∀(s:Sk) (p:aM) (k:Nat),s.ok μ->∀q∈(s.ws p k).map (·.1),sq p k q
 |s,p,k,o,q,h=>by rw[zO o]at h;let⟨i,Q,H,_,e⟩:=Xo _ _ _ q h;exact#[i,Q,H,e]
def YW(H:uS a)(c:uS b)(h:∀x∈a,∀y∈b,mh x y=μ):uS (a++b):=List.pairwise_append.mpr #[H,c,h]
theorem ZK:∀{b:Bool} {s:Sk},s.ok b->∀(p:aM) (k:Nat),uS ((s.ws p k).map (·.1))
 |true,.nil,_,_,_=>dr
 |true,.st _ _ w r,o,p,k=>by
  show uS ((((p++[(k:Int)],w)::w.ws (p++[(k:Int)]) 0)++r.ws p (k+1)).map (·.1));rw[Ol];erw[YW ?_ (ZK o.2 p$ k+1) λx H y h=>?_]
  .rw[O8];erw[kr.mpr #[λy h=>?_,ZK o.1 _ 0]];let⟨i,q,_,e⟩:=QM w _ 0 y h;rw[e];exact Xz
  .let⟨q,e⟩:=Ku (w:=w) (show x∈cy (p++[(k:Int)]) w from H);let⟨i,Q,a,E⟩:=uJ r p (k+1) o.2 y h;rw[e,E];exact Xy a
 |false,.cl _ _ s _,o,p,_=>ZK (b:=μ) (s:=s) o p 0
 |false,.ask _,_,_,_ |false,.rd _ _,_,_,_ |false,.wr _ _,_,_,_=>dr
def Bw{w:Sk}(o:w.ok ν)(p:aM):uS (cy p w):=by erw[kr.mpr #[λy h=>?_,ZK o _ 0]];let⟨i,q,_,e⟩:=QM w _ 0 y h;rw[e];exact Xz
theorem XV:∀{b:Bool} {s:Sk},s.ok b->∀(c:aM) (os:tz aN) (m:Nat) (a:aM) (k:Nat),uS (c7 s c os m a k).f/\∀p∈(c7 s c os m a k).f,sq a k p
 |true,.nil,_,_,_,_,_,_=>#[dr,λ_ h=>(nomatch h)]
 |true,.st n H w r,o,c,os,m,a,k=>by
  cases h:fe os m n H w with
  |none=>
   rw[zW h];let⟨l,I⟩:=XV o.2 c os m a (k+1);show uS (cy (a++[(k:Int)]) w++_)/\∀p∈(cy (a++[(k:Int)]) w++_),_;refine#[YW (Bw o.1 _) l λx d y g=>?_,λp hp=>?_]
   .let⟨q,e⟩:=Ku d;let⟨i,Q,t,E⟩:=I y g;rw[e,E];exact Xy t
   .rcases Ψ.mp hp with hp |hp
    .let⟨q,e⟩:=Ku hp;exact#[k,q,NQ _,e]
    .exact(I p hp).le (OR _)
  |some j=>
   let⟨z,x,d,_⟩:=za h;rw[zu h d];let⟨l,I⟩:=XV o.2 c os (j+1) a (k+1);let⟨J,u⟩:=XV o.1 (c++[(j:Int)]) (iH x.2.2) 0 (a++[(k:Int)]) 0;let o1:(one (c++[(j:Int)]) x (a++[(k:Int)]) n H w).f=[]∨(one (c++[(j:Int)]) x (a++[(k:Int)]) n H w).f=[a++[(k:Int)]]:=by
    unfold one;split
    .split
     .exact .inl Z
     .exact .inl Z
    .exact .inr Z
   let M:uS ((one (c++[(j:Int)]) x (a++[(k:Int)]) n H w).f++(c7 w (c++[(j:Int)]) (iH x.2.2) 0 (a++[(k:Int)]) 0).f)/\∀p∈((one (c++[(j:Int)]) x (a++[(k:Int)]) n H w).f++(c7 w (c++[(j:Int)]) (iH x.2.2) 0 (a++[(k:Int)]) 0).f),∃q,p=a++(k:Int)::q:=by
    let v:∀p∈(c7 w (c++[(j:Int)]) (iH x.2.2) 0 (a++[(k:Int)]) 0).f,∃q,p=a++(k:Int)::q:=λp hp=>let #[q,e,_]:=(u p hp).up (m:=0) (NY _);#[q,e]
    rcases o1 with o1 |o1
    .rw[o1];exact#[J,v]
    .rw[o1];refine#[kr.mpr #[λy g=>?_,J],λp hp=>?_]
     .let⟨i,q,_,e⟩:=u y g;rw[e];exact Xz
     .rcases Θ.mp hp with rfl |hp
      .exact#[[],Z]
      .exact v p hp
   show uS (([]++(_++_))++_)/\∀p∈(([]++(_++_))++_),_;rw[Vt];refine#[YW M.1 l λx d y g=>?_,λp hp=>?_]
   .let⟨q,e⟩:=M.2 x d;let⟨i,Q,t,E⟩:=I y g;rw[e,E];exact Xy t
   .rcases Ψ.mp hp with hp |hp
    .let⟨q,e⟩:=M.2 p hp;exact#[k,q,NQ _,e]
    .exact(I p hp).le (OR _)
 |false,.cl _ _ s _,o,c,os,m,a,k=>XV (b:=μ) (s:=s) o c os m a k
 |false,.ask _,_,_,_,_,_,_ |false,.rd _ _,_,_,_,_,_,_ |false,.wr _ _,_,_,_,_,_,_=>#[dr,λ_ h=>(nomatch h)]
def Ck(h:uS l)(H:l[i]?=δ p)(c:l[i+1]?=δ q):mh p q=μ:=by let⟨a,e⟩:=ξ.mp H;let⟨b,E⟩:=ξ.mp c;let:=(ry.mp h) i (i+1) a b (Pb i);rw[e,E]at this;exact this
def Lc(h:sq a k p):p≠[]:=by let⟨i,q,_,e⟩:=h;rw[e];intro z;simp at z
noncomputable abbrev Ga:cc:=bQ 76
noncomputable abbrev BE:cc:=bQ 77
noncomputable abbrev um:cc:=bQ 78
abbrev BM:cc:=bQ 79
noncomputable def Dj:Sk->V->V
 | .cl _ _ _ a,_=>.int a
 |_,u=>u
inductive nY(b:tz V)(H:Hp)(Q:VK)(a:XK):Prop
 |mk(p h:η)(n:Int)(u:V)(w:Sk)(_:b=[.ref p])(_:H p=δ (.tup [.int n,.ref h,u]))(_:dR H w u [])(_:w.ok ν)(_:Q (Dj w u) H)
def vF{w W:Sk}(o:w.ok ν)(O:W.ok ν)(e:d9 w=d9 W):(w.fnd=W.fnd->(∃f I s a S A,w= .cl f I s a/\W= .cl f I S A/\a=A)∨(w=W/\∀f I s a,w≠ .cl f I s a))/\(w.fnd≠W.fnd->(∃f I s a S A,w= .cl f I s a/\W= .cl f I S A/\a≠A)∨∃c i d,w= .rd c i/\W= .rd c d/\i≠d):=by
 cases w with
 |nil |st _ _ _ _=>exact o.elim
 |cl f I s a=>let⟨S,A,rfl⟩:=YV O e.symm;exact#[λh=>.inl #[f,I,s,a,S,A,Z,Z,h],λh=>.inl #[f,I,s,a,S,A,Z,Z,h]]
 |ask b=>
  cases W with
  |nil |st _ _ _ _=>exact O.elim
  |ask B=>have e:Tr.tp (.cons (aL "ask")$ .cons (ar b) .nil)= .tp (.cons (aL "ask")$ .cons (ar B) .nil):=e;injection e with e;injection e with _ e;injection e with e _;injection e with e;injection e with e;subst e;exact#[λ_=>.inr #[Z,λ_ _ _ _ z=>nomatch z],λh=>absurd Z h]
  |rd _ _ |wr _ _ |cl _ _ _ _=>exact absurd (Jl e) WL
 |rd b i=>
  cases W with
  |nil |st _ _ _ _=>exact O.elim
  |rd B d=>have e:Tr.tp (.cons (aL "read")$ .cons (ar b) .nil)= .tp (.cons (aL "read")$ .cons (ar B) .nil):=e;injection e with e;injection e with _ e;injection e with e _;injection e with e;injection e with e;subst e;exact#[λ(h:i=d)=>by subst h;exact .inr #[Z,λ_ _ _ _ z=>nomatch z],λh=>.inr #[b,i,d,Z,Z,h]]
  |ask _ |wr _ _ |cl _ _ _ _=>exact absurd (Jl e) WL
 |wr b i=>
  cases W with
  |nil |st _ _ _ _=>exact O.elim
  |wr B d=>have e:Tr.tp (.cons (aL "write")$ .cons (ar b)$ .cons (ar i) .nil)= .tp (.cons (aL "write")$ .cons (ar B)$ .cons (ar d) .nil):=e;injection e with e;injection e with _ e;injection e with E e;injection e with g _;injection E with E;injection E with E;injection g with g;injection g with g;subst E;subst g;exact#[λ_=>.inr #[Z,λ_ _ _ _ z=>nomatch z],λh=>absurd Z h]
  |ask _ |rd _ _ |cl _ _ _ _=>exact absurd (Jl e) WL
def yt{w:Sk}(o:w.ok ν)(h:∀f i s a,w≠ .cl f i s a):∃l,gL w= .tp l/\l.dep < 10/\l.In:=by
 cases w with
 |nil |st _ _ _ _=>exact o.elim
 |cl f i s a=>exact absurd Z (h f i s a)
 |ask b=>exact#[_,Z,by show max 0 (max 0 0) < 10;decide,Z,Z,trivial]
 |rd b B |wr b B=>exact#[_,Z,by show max 0 (max 0 (max 0 0)) < 10;decide,Z,Z,Z,trivial]
def wf{w:Sk}(h:∀f i s a,w≠ .cl f i s a):Dj w u=u:=by
 cases w with
 |cl f i s a=>exact absurd Z (h f i s a)
 |_=>rfl
def YX{X:Cx}(d:X.A.units < cLine):fX X (compareOp .Eq) (λx y H Q=>∃a b c,x= .ref a/\y= .ref b/\H a=δ (.lst c)/\H b=δ (.lst [])/\Q (.bl c.isEmpty) H):=by
 intro p s J H x y v u Q I l m h;let⟨a,b,c,rfl,rfl,n,o,q⟩:=h;cases l;cases m;let⟨t,R,f,_⟩:=I.list (aH.of n);let⟨B,C,g,_⟩:=I.list (aH.of o);let E:B=[]:=C.nil_iff.mpr Z;subst E;cases i:c with
 |nil=>subst i;let D:t=[]:=R.nil_iff.mpr Z;subst D;erw[Vz (e:=λ_=>μ) f.isList g.isList Z d (λj F M=>absurd F WN) X.prog X.w _ _ ?_];exact#[.bl μ,H,I,Z,q]
 |cons z r=>subst i;let L:=R.length;refine Vy f.isList g.isList (by simp [<- L]) d X.prog X.w _ _ ?_;exact#[.bl ν,H,I,Z,q]
def JE{lo:Int}{n:Nat}{t:TT}{Q:tz V->Hp->Prop}(Pv:Nat->tz V->Hp->Prop)(j:Pv 0 [] H)(k:n<=τ)(c:∀i Y h,Pv i Y h->Y.length<=i)
  (l:∀i Y h,i < n->Pv i Y h->t (δ (.int$ lo+i)::d) h λb f=>if b=μ then T (δ (.int$ lo+i)::d) f λy o=>Pv (i+1) (Y++[y]) o else Pv (i+1) Y f) (q:∀Y h,Pv n Y h->Q Y h):
  dY (uO lo n) 1 d (bp 0) t T Q H:=by
 refine#[λi m Y h=>m=n - i/\i<=n/\Pv i Y h,#[n,WN,NY _,j],?_];rintro i m Y h ⟨rfl,u,p⟩;by_cases a:i < n
 .refine .inr #[a,Ph (c i Y h p)$ Oc a k,Pv$ i+1,λr f s=>#[n - (i+1),WM,Z,a,s],λx f z g y=>?_];let⟨e,y⟩:=y;subst e y;let⟨v,rfl⟩:=oQ g;exact#[#[[δ _],Z,Z],l i Y _ a p]
 .let e:i=n:=by omega
  subst e;exact .inl #[NQ _,q Y h p]
def Qj{K:β}{a:η}{xs:tz V}{t:TT}{Q:tz V->Hp->Prop}(A:xs.length<=τ)(Pv:Nat->tz V->Hp->Prop)(n:Pv 0 [] H)
  (o:∀i Y h,Pv i Y h->aH K h a xs/\Y.length<=i) (q:∀i x Y h,xs[i]?=δ x->Pv i Y h->t (δ x::c) h λb d=>if b=μ then T (δ x::c) d λy r=>Pv (i+1) (Y++[y]) r else Pv (i+1) Y d) (s:∀Y h,Pv xs.length Y h->Q Y h):
  dY (y9 K a) 1 c (bp 0) t T Q H:=by
 refine#[λi m Y h=>m=xs.length - i/\i<=xs.length/\Pv i Y h,#[xs.length,WN,NY _,n],?_];intro i m Y h g;let⟨rfl,B,p⟩:=g;let⟨j,C⟩:=o i Y h p;by_cases f:i < xs.length
 .refine .inr #[#[xs,xs[i],j,NK f],WM,Pv$ i+1,λu d z=>#[xs.length - (i+1),WM,Z,f,z],λv d D k y=>?_];let⟨e,y⟩:=y;subst e;let⟨w,rfl⟩:=oQ k;exact#[#[[δ _],Z,Z],q i v Y d (y xs j) p]
 .let e:i=xs.length:=by omega
  subst e;exact .inl #[#[xs,j,NQ _],s Y h p]
def kN{X:Cx}{K:β}(h:X.K=K):Hj X (cR K):=by subst h;exact jL
noncomputable def ie(P:aN->Bool):Nat->tz aN->tz Nat
 |_,[]=>[]
 |k,s::r=>if P s=μ then k::ie P (k+1) r else ie P (k+1) r
def cV(P:aN->Bool)(os:tz aN)(m:Nat):tz Nat:=ie P m (os.drop m)
def KU{P:aN->Bool}{os:tz aN}(h:os[m]?=δ s):cV P os m=if P s=μ then m::cV P os (m+1) else cV P os (m+1):=by let⟨H,e⟩:=ξ.mp h;unfold cV;rw[<- O9 (h:=H),e];rfl
def Kv{P:aN->Bool}{os:tz aN}(h:os.length<=m):cV P os m=[]:=by unfold cV;rw[Ut h];rfl
theorem Xa(P:aN->Bool):∀(k:Nat) (os:tz aN),(ie P k os).head?=sT P k os
 |_,[]=>rfl
 |k,s::r=>by
  show(if P s=μ then k::ie P (k+1) r else ie P (k+1) r).head?=if P s=μ then δ k else sT P (k+1) r;by_cases h:P s=μ
  .rw[N0 h,N0 h];rfl
  .rw[N7 h,N7 h,Xa P]
def Yq(P:aN->Bool)(os:tz aN)(m:Nat):(cV P os m).head?=ma P os m:=Xa P m _
theorem Yr(P:aN->Bool):∀(k:Nat) (os:tz aN),(ie P k os).length<=os.length
 |_,[]=>NQ 0
 |k,s::r=>by
  let:=Yr P (k+1) r;show(if P s=μ then k::ie P (k+1) r else ie P (k+1) r).length<=r.length+1;by_cases h:P s=μ
  .rw[N0 h];show _+1<=_;omega
  .rw[N7 h];omega
def XA(P:aN->Bool)(os:tz aN)(m:Nat):(cV P os m).length<=os.length:=N6 (Yr P m _) (by rw[OE];omega)
noncomputable def fg(s:aN):Bool:=match s.2.2 with
 | .cl _ _ _ _=>μ
 |_=>ν
noncomputable def CS(P:aN->Bool)(os:tz aN)(j:Nat):Bool:=match os[j]? with
 |some s=>P s
 |none=>ν
theorem Qk{P Q:aN->Bool}(h:∀s,P s=μ->Q s=μ)(os:tz aN):∀(n m:Nat),n=os.length - m->(cV Q os m).filter (CS P os)=cV P os m
 |0,m,e=>by rw[Kv WM,Kv WM];rfl
 |n+1,m,e=>by
  let c:m < os.length:=by omega
  let a:=NK c;rw[KU a,KU a];let i:=Qk h os n (m+1) WM;let E:CS P os m=P os[m]:=by unfold CS;rw[a]
  by_cases H:P os[m]=μ
  .rw[N0$ h _ H,N0 H,Sq (by rw[E];exact H),i]
  .rw[N7 H];by_cases b:Q os[m]=μ
   .rw[N0 b,Sr (by rw[E];exact H),i]
   .rw[N7 b,i]
def Ip(s:aN)(h:cX f i s=μ):fg s=μ:=by let⟨S,a,e⟩:=wb h;unfold fg;rw[e]
noncomputable def nE(s:Sk)(p:aM)(os:tz aN)(m:Nat)(a:aM)(k:Nat):Ly:=#[(c7 s p os m a k).k,(c7 s p os m a k).t,(c7 s p os m a k).f,iJ s p os m]
noncomputable def wP(p:aM)(o:aN)(a:aM)(n:Int)(h:tz Int)(w:Sk):Ly:=
 if aQ n h o=μ then (if o.2.2.fnd=w.fnd then #[[(p,a)],[],[],[p]] else #[[],[(p,a)],[],[p]]) else #[[],[],[a],[]]
def Ys{w:Sk}{os:tz aN}(h:fe os m n H w=θ):nE (.st n H w r) a os m p k=(#[[],[],cy (p++[(k:Int)]) w,[]]:Ly).app (nE r a os m p$ k+1):=by unfold nE;rw[zW h,Jt h];rfl
def uW{w r:Sk}{po:aM}{os:tz aN}{pn:aM}{k:Nat}(h:fe os m n b w=δ j)(c:os[j]?=δ o):nE (.st n b w r) po os m pn k=(wP (po++[(j:Int)]) o (pn++[(k:Int)]) n b w).app ((nE w (po++[(j:Int)]) (iH o.2.2) 0 (pn++[(k:Int)]) 0).app$ nE r po os (j+1) pn$ k+1):=by
 unfold nE;rw[zu h c,Ju h c];unfold wP one Ly.app;by_cases H:aQ n b o=μ
 .rw[N0 H,N0 H,N0 H];by_cases a:o.2.2.fnd=w.fnd
  .rw[N0 a,N0 a];simp
  .rw[N7 a,N7 a];simp
 .rw[N7 H,N7 H,N7 H];simp
def uV{w:Sk}{os:tz aN}(o:w.ok ν)(h:∀f i s a,w≠ .cl f i s a):nE w p os m b k= .nil:=by
 cases w with
 |nil |st _ _ _ _=>exact o.elim
 |cl f i s a=>exact absurd Z (h f i s a)
 |_=>rfl
inductive gg(n:Nat)(e:tz V)(H:Hp)(Q:VK)(b:XK):Prop
 |mk(d:η)(p:aM)(f:ρ)(c:tz Int)(s:Sk)(a:Int)(u:V)(_:e=[u,.ref d])(_:H d=δ (.tup (p.map sn)))(_:p.length+n<=100)(_:lM H f c s a u)(_:s.ok μ)(_:s.dep < n)(_:s.size<=1000)(_:∀(r:η) (xs:tz V) (H':Hp),H r=θ->H' r=δ (.lst xs)->bX iq H' ((s.ws p 0).map (·.1)) xs->aa H H'->Q (.ref r) H')
inductive MW(h j:η)(p:aM)(u:V)(s:Sk)(H:Hp)(i:Nat)(l:_L.St)(a:Hp):Prop
 |mk(f g:tT V)(k:tz V)(b:l=[δ u,↑h,↑j,f,g])(c:a j=δ (.lst k))(d:bX iq a ((eG (s.steps.take i) p 0).map (·.1)) k)(e:aa H a)
inductive iB(n:Nat)(t:tz V)(H:Hp)(Q:VK)(a:XK):Prop
 |mk(D:DF)(z k s h g m c l b:η)(p o:aM)(f:ρ)(i j:tz Int)(q r:Sk)(d e:Int)(y:Ly)(_:t=[.ref c,.ref b,.ref m,.ref l,.ref z])(_:Lt H z k s h g y)(_:H m=δ (.tup (p.map sn)))(_:H l=δ (.tup (o.map sn)))(_:p.length+n<=49)(_:o.length+n<=49)(_:lM H f i q d (.ref c))(_:q.ok μ)(_:q.dep<=15)(_:q.size<=1000)(_:lM H f j r e (.ref b))(_:r.ok μ)(_:r.dep < n)(_:r.dep<=15)(_:r.size<=1000)(_:Dt D f q)(_:Dt D f r)(_:(y.app (nE r p q.steps 0 o 0)).tot<=100000)(_:∀H',Lt H' z k s h g (y.app (nE r p q.steps 0 o 0))->a8 k s h g H H'->Q .non H')
inductive MX(D:DF)(z B P A n J c C b:η)(M L:aM)(f:ρ)(K:tz aN)(O:tz V)(N:Sk)(k:Ly)(H:Hp)(i:Nat)(Q:_L.St)(l:Hp):Prop
 |mk(E F G I d e g h j:tT V)(m:Nat)(a:Sk)(y:Ly)(o:Q=[↑c,↑b,↑J,↑C,↑z,δ (.int (m:Int)),E,F,G,I,d,e,g,h,j])(p:Lt l z B P A n y)(q:dR l a .non (O.drop i))(r:a.ok μ)(s:a.dep<=N.dep)(t:a.size<=N.size)(u:Dt D f a)(v:m<=K.length)(w:y.app (nE a M K m L i)=k)(x:a8 B P A n H l)
def dy(l:tz Nat):tz V:=l.map λ(j:Nat)=>sn (j:Int)
def I0:aj ["_law_step"] ["_law_step"] (ae Ga):=bN
def Fb(F:ti K "_law_found" Ga f l):⇑1 f l ["_law_step"] nY:=by
 erw[F.ok I0 λC A o s H v Q E t h=>?_]
 let⟨p,h,n,u,w,rfl,b,i,d,q⟩:=h;refine#[_,(jd (jz (kh$ jy$ jr jL (pv 0) jf (λ_ _=>Z)) (jg$ jo$ jy$ jr jL (jr jL (pv 0) jf (λ_ _=>Z)) jf (λ_ _=>Z)) jp)$ jg$ jo$ jy$ pv 0),?_];cases w with
 |nil |st _ _ _ _=>exact d.elim
 |ask _ |rd _ _ |wr _ _=>let⟨x,rfl,G⟩:=i;erw[ai λm j=>(ju b dU #[x,_,_,_,Z,Z,aC.of G,eY,Z,_,Z,aY WO$ j _ _ ?_])];exact(ju b dU q)
 |cl f I s a=>let⟨x,c,g,e,S,rfl,G,r,_⟩:=i;exact ai λm j=>(ju b dU #[x,_,_,_,Z,Z,aC.of G,eY,Z,_,Z,c8 WO$ ju b dU #[x,_,_,_,Z,Z,aC.of G,iy,c,_,_,_,Z,Z,aC.of r,Hu,q]])
def rB:aj ["_law_chain","_law_at","_law_found_here","_law_k","_law_step"] z14z (ae BE):=bN
def EL(F:ti K "_law_all_in" BE f fd)(cS:‹n+1› fS f0 z14z (gg n) "_law_all_in")(m0:mg "enumerate"=θ):⇑(n+2) f fd z14z (gg$ n+1):=by
 erw[F.ok rB λc0 A o1 s H vs Q E hr h=>?_]
 let⟨M,p,f,is,s,a,u,rfl,hp,h',hc,d,hd,hz,q⟩:=h;refine#[_,(jd (jA 2 rB.nd$ jE jb)$ jd (j6 Ot Z (Jr Z m0$ ja (jy$ pv 0) jb) (zz (n:=2) Z$ jB (jw (i:=3) rB.nd Z$ ω Z)$ jB (jw (i:=4) rB.nd Z$ ω Z) kj)$ jd (jH$ jZ NZ Ob Oa jO (pv 2)$ ja (jx jV (pv 1)$ ji$ ja (pv 3) jb) jb)$ jg$ jz (kh$ jy$ jr jL (pv 4) jf (λ_ _=>Z)) (jg$ jH$ jZ NZ Pf Pe zG (pv 2)$ ja (cS.e hr.m$ ja (jy$ jr jL (pv 4) jf (λ_ _=>Z))$ ja (jx jV (pv 1)$ ji$ ja (pv 3) jb) jb) jb) jp)$ jg$ jo$ pv 2),?_];let b1:=aK;let⟨c,g,e,ss,rfl,h1,h2,h3,h4⟩:=hc;let lt:=zD d h4;let fl:=ze d p 0;rw[zO d]at fl;erw[ai λF1 B=>#[fc,λT N=>B _ _ ?_]];let s1:aa H (af H T$ .lst []):=je N;erw[ai λF1 B=>dD λJ j=>(ju (s1 _ _ h1) dU #[e,Z,#[_,aC.of$ s1 _ _ h3],j _ _ ?_])];erw[qx (K:=K) (xs:=ss) (MW M T p (.ref c) s H) #[θ,θ,[],Z,jc,Z,s1] (λi σ Hx _ h=>?_) ?_ (λσ Hx h=>B _ _ ?_)]
 .let⟨_,_,_,_,_,_,W⟩:=h;exact aC.of$ W _ _ h3
 .intro E hE i x X σ H7 hx np Y Gq U h;let⟨o3,o4,xs,rfl,w1,w2,W⟩:=h;let s8:aa H7 (af H7 X$ .tup [.int i,x]):=je np;let e8:af H7 X (.tup [.int i,x]) X=δ (.tup [.int i,x]):=jc;erw[U ?_];generalize af H7 X (.tup [.int i,x])=H8 at s8 e8 ⊢;let S8:=W.trans s8;let⟨n1,h6,w,q,hh,u,ht,O,d0,s0,rfl,h0,a0,hw⟩:=qF d (h4.mono$ aa.tm S8) hx;refine#[X,_,Z,aC.of e8,Z,_,_,Z,_,_,Z,Z,?_];let h7:i < s.steps.length:=(ξ.mp ht).1;let et:s.steps.take (i+1)=s.steps.take i++[(n1,h6,w)]:=by rw[OU,ht];rfl
  let eb:(eG (s.steps.take$ i+1) p 0).map (·.1)=(eG (s.steps.take i) p 0).map (·.1)++cy (p++[(i:Int)]) w:=by rw[et,qd,Ol,Oh,Pw$ P5 h7,Rp,Jv];show _++(_++[])=_;rw[Op]
  let bl:=Xm s.steps (i+1) p 0;let b0:=O1 ot eb;rw[NP,NO,qJ O]at b0;let lx:=w2.len;rw[fl]at bl;show dH _ _ E [↑c,↑M,↑T,δ$ .int i,↑q] H8;refine ai λF1 B=>#[_,Z,.inl #[Z,_,aH.of$ s8 _ _ w1],_,Z,_,Z,iQ,λt nt=>#[M,t,_,_,Z,Z,aq (S8 _ _ hp) nt,jc,by rw[NO];show _+1<=_;omega,λR C e9 s9=>?_]];let S9:aa H8 C:=(je (o:=.tup [.int i]) nt).trans s9;let e9:C R=δ (.tup$ p.map sn++[.int (i:Int)]):=e9;rw[l9]at e9;let w9:=S9 _ _ (s8 _ _ w1);refine#[T,xs,_,Z,Z,w9,WM,B _ _ ?_];let G:am C (af C T$ .lst$ xs++[.ref R]):=JO w9;let k:af C T (.lst$ xs++[.ref R]) T=δ (.lst$ xs++[.ref R]):=jc;let k0:∀b o,b≠T->C b=δ o->af C T (.lst$ xs++[.ref R]) b=δ o:=λb o nb e=>by rwa[jh nb]
  generalize af C T (.lst$ xs++[.ref R])=v at G k k0;let r:am H8 v:=(aa.tm S9).trans G;let I:aa H v:=λb o e=>k0 _ _ (jk e N) (S9 _ _$ S8 _ _ e);let x0:bX iq v ((eG (s.steps.take i) p 0).map (·.1)++[p++[(i:Int)]]) (xs++[.ref R]):=bX.app (bX.one #[R,Z,G _ _ e9]) (((w2.mono cQ$ aa.tm s8).mono cQ r));let⟨p3,v3,r3,eu,h8,h5⟩:=Jm O (hw.mono r);subst eu;erw[me λG1 yT yF=>(ju (r _ _ h0) dU #[p3,_,_,_,Z,Z,aC.of h8,eY,Z,_,Z,?_])];rw[qO];by_cases hv:v3="call"
  .let⟨g',L,D,a',rfl⟩:=h5.mp hv;rw[N4 hv];let⟨x1,c1,g1,e1,s2,e2,k1,k2,k3,k4,k5⟩:=hw.mono r;cases e2;let d0:D.dep+1<=s.dep:=d0;let s0:D.size+1<=s.size:=s0;refine yT _ #[_,Z,.inl #[Z,_,aH.of k],ju (r _ _ h0) dU #[p3,_,_,_,Z,Z,aC.of k1,iy,_,Z,_,Z,iQ,λt2 n0=>#[M,t2,_,_,Z,Z,aq (I _ _ hp) n0,jc,by rw[NO];show _+1<=_;omega,λr0 H0 y s3=>?_]]];let S:aa v H0:=(je (o:=.tup [.int i]) n0).trans s3;let y:H0 r0=δ (.tup$ p.map sn++[.int (i:Int)]):=y;rw[l9]at y;refine#[r0,_,g',L,D,a',.ref c1,Z,y,by rw[NP];show _+1+_<=_;omega,#[c1,g1,e1,s2,Z,S _ _ k2,S _ _ k3,S _ _ k4,k5.mono$ aa.tm S],O,WM,WM,λl zs H1 nl hl hz s4=>?_];let z:=S.trans s4;let lz:=hz.len;rw[NO,ze (show D.ok μ from O)]at lz;let ez:(xs++[tf R]).length=xs.length+1:=by rw[NP];rfl
   let s5:(Sk.cl g' L D a').size=D.size:=rfl;refine#[T,l,_,_,Z,Z,z _ _ k,hl,WM,Y _ _ #[_,_,_,Z,jc,?_,λb o e=>?_]]
   .rw[eb];let t0:am H1 (af H1 T$ .lst$ xs++[.ref R]++zs):=JO (z _ _ k);let e0:cy (p++[(i:Int)]) (.cl g' L D a')=[p++[(i:Int)]]++(D.ws (p++[(i:Int)]) 0).map (·.1):=rfl;rw[e0,<- Pt];exact(bX.app hz$ x0.mono cQ$ aa.tm z).mono cQ t0
   .rw[jh$ jk e N];exact z _ _$ I _ _ e
  .rw[NW hv];erw[yF _$ Y _ _ #[_,_,_,Z,k,?_,I]];rw[eb];let e0:cy (p++[(i:Int)]) w=[p++[(i:Int)]]:=by
    cases w with
    |nil |st _ _ _ _=>exact O.elim
    |cl f is s a=>exact absurd (h5.mpr #[f,is,s,a,Z]) hv
    |_=>rfl
   rw[e0];exact x0
 .let⟨o3,o4,xs,rfl,w1,w2,W⟩:=h;rw[lt,OH,<- zO d]at w2;exact#[_,Z,q T xs Hx N w1 w2 W]
def EC:⇑k f c z14z (gg 0):=by
 let n:∀{v H Q E},¬gg 0 v H Q E:=by rintro v H Q E ⟨d,p,f,i,s,a,u,_,_,_,_,_,z,_⟩;omega
 exact#[λv H Q E h=>(n h).elim,λA o s H b U v Q E e g j l h=>(n h).elim]
theorem Ht(F:ti K "_law_all_in" BE f a)(b:aE K a z14z [])(M:mg "_law_all_in"=↑f)(m:mg "enumerate"=θ):∀n,⇑(n+1) f a z14z (gg n)
 |0=>EC
 |n+1=>EL F #[(Ht F b M m n),b,F.kp,M] m
noncomputable def mf(os:tz aN)(m:Nat)(n:Int)(h:tz Int)(w:Sk):tz Nat:=if cV (aQ n h) os m=[] then (match w with
 | .cl f i _ _=>cV (cX f i) os m
 |_=>[]) else []
def JS(os:tz aN)(m:Nat)(n:Int)(h:tz Int)(w:Sk):(cV (aQ n h) os m++mf os m n h w).head?=fe os m n h w:=by
 let H:=Yq (aQ n h) os m;unfold fe mf;cases e:cV (aQ n h) os m with
 |cons j r=>rw[e]at H;rw[<- H];rfl
 |nil=>
  rw[e]at H;rw[<- H,N0 Z];show(match w with | .cl f i _ _=>cV (cX f i) os m |_=>[]).head?=lS os m w;cases w with
  |cl f i s a=>exact Yq (cX f i) os m
  |_=>rfl
def Ls(l:tz Nat):l.take 1=match l.head? with |some j=>[j] |none=>[]:=by cases l<;>rfl
def AM(os:tz aN)(m:Nat)(n:Int)(h:tz Int)(w:Sk):(mf os m n h w).length<=os.length:=by
 unfold mf;split
 .split
  .exact XA _ _ _
  .exact NY _
 .exact NY _
def HQ(l:tz Nat):aW (dy l) θ (δ 1)=dy (l.take 1):=by
 unfold aW dy;let e:HT.sIx (l.map λ(j:Nat)=>sn (j:Int)).length 0 θ=0:=rfl;rw[e,P7,RU,SQ];cases l with
 |nil=>simp
 |cons a r=>
  let E:HT.sIx ((a::r).map λ(j:Nat)=>sn (j:Int)).length ((a::r).map λ(j:Nat)=>sn (j:Int)).length (δ 1)=1:=by unfold HT.sIx;simp
  rw[E]
def Yt(l:tz Nat):(dy l).isEmpty=l.isEmpty:=by cases l<;>rfl
def XB(a b:tz Nat):dy a++dy b=dy (a++b):=by unfold dy;rw[Ol]
def Kw(l:tz Nat):(dy l).length=l.length:=NO _
def XX{H:Hp}{s:Sk}{S:tz V}{j:Nat}{o:aN}(O:s.ok μ)(h:dR H s .non S)(a:s.steps[j]?=δ o):∃p h u,S[j]?=↑p/\H p=δ (.tup [.int o.1,.ref h,u])/\H h=δ (.tup$ o.2.1.map sn)/\dR H o.2.2 u []/\o.2.2.ok ν/\o.2.2.dep<=s.dep/\o.2.2.size+1<=s.size:=by let l:=zD O h;let k:=(ξ.mp a).1;obtain⟨x,b⟩:∃x,S[j]?=δ x:=#[_,NK WM];let⟨n,m,w,p,c,u,t,T,d,e,rfl,f,g,i⟩:=qF O h b;rw[a]at t;cases t;exact#[p,c,u,b,f,g,i,T,d,e]
def DW{w:Sk}(o:w.ok ν)(h:dR H w u []):∃p v r,u= .ref p/\H p=δ (.tup (.str v::r))/\∀n c,decide (v="call")=fg (n,c,w):=by
 let⟨p,v,r,e,g,d⟩:=Jm o h;refine#[p,v,r,e,g,λn c=>?_];by_cases b:v="call"
 .let⟨f,i,s,a,rfl⟩:=d.mp b;rw[N4 b];rfl
 .rw[NW b];cases w with
  |cl f i s a=>exact absurd (d.mpr #[f,i,s,a,Z]) b
  |_=>rfl
def AH{j i:tz Int}:fQ (aB [aL g,aB$ j.map ar]) (aB [aL f,aB$ i.map ar])=cX f i (n,H,.cl g j s a):=by
 by_cases h:g=f/\j=i
 .rw[h.1,h.2,zI Z];exact(N4 #[Z,Z]).symm
 .rw[zh]
  .exact(NW h).symm
  intro e;let e:Tr.tp (.cons (aL g)$ .cons (aB$ j.map ar) .nil)= .tp (.cons (aL f)$ .cons (aB$ i.map ar) .nil):=e;injection e with e;injection e with A c;injection c with b _;injection A with A;injection A with A;let b:Tr.tp (aA$ j.map ar)= .tp (aA$ i.map ar):=b;injection b with b;exact h #[A,zV b]
def Dl(f:ρ)(i:tz Int):(aA [aL f,aB$ i.map ar]).In:=#[Z,zE i,trivial]
def EB(f:ρ)(i:tz Int):(aA [aL f,aB$ i.map ar]).dep < 10:=by let h:=zr i;show max 0 (max ((aA$ i.map ar).dep+1) 0) < 10;omega
def vU{P:aN->Bool}{os:tz aN}(b:os[m+i]?=δ o)(h:a++dy (cV P os$ m+i)=dy (cV P os m)):(P o=μ->(a++[.int ((m:Int)+(i:Int))])++dy (cV P os$ m+(i+1))=dy (cV P os m))/\(P o=ν->a++dy (cV P os$ m+(i+1))=dy (cV P os m)):=by
 rw[KU b]at h;let e:(m:Int)+(i:Int)=((m+i:Nat):Int):=by omega
 refine#[λH=>?_,λH=>?_]
 .rw[N0 H]at h;rw[<- h,e,Pt];rfl
 .rw[N7 (by rw[H];intro z;cases z)]at h;exact h
theorem pO{P:aN->Bool}{os:tz aN}(h:os[j]?=δ o)(H:P o=μ):∀(d m:Nat),j=m+d->j∈cV P os m
 |0,m,e=>by let e:j=m:=e;subst e;rw[KU h,N0 H];exact Oe
 |d+1,m,e=>by
  let b:=(ξ.mp h).1;let a:m < os.length:=by omega
  rw[KU$ NK a];let i:=pO h H d (m+1) WM;split
  .exact On _ i
  .exact i
theorem pN(P:aN->Bool):∀(k:Nat) (os:tz aN),∀j∈ie P k os,∃i s,j=k+i/\os[i]?=δ s/\P s=μ
 |_,[],_,h=>nomatch h
 |k,s::r,j,h=>by
  let h:j∈(if P s=μ then k::ie P (k+1) r else ie P (k+1) r):=h;let g:j∈ie P (k+1) r->∃i S,j=k+i/\(s::r)[i]?=δ S/\P S=μ:=λz=>by let⟨i,S,e,a,b⟩:=pN P (k+1) r j z;exact#[i+1,S,WM,by simpa using a,b]
  by_cases H:P s=μ
  .rw[N0 H]at h;rcases Θ.mp h with rfl |h
   .exact#[0,s,Z,Z,H]
   .exact g h
  .rw[N7 H]at h;exact g h
def YY{P:aN->Bool}{os:tz aN}{m j:Nat}(h:j∈cV P os m):m<=j/\∃s,os[j]?=δ s/\P s=μ:=by let⟨i,s,e,H,a⟩:=pN P m _ j h;rw[R9]at H;exact#[WM,s,by rw[e];exact H,a]
noncomputable def Ad(os:tz aN)(m:Nat)(n:Int)(h:tz Int)(w:Sk)(p a:aM)(k:Nat):Ly:=match cV (aQ n h) os m with
 | []=>#[[],[],[a++[(k:Int)]],[]]
 |j::_=>match os[j]? with
  |some o=>if o.2.2.fnd=w.fnd then #[[(p++[(j:Int)],a++[(k:Int)])],[],[],[p++[(j:Int)]]] else #[[],[(p++[(j:Int)],a++[(k:Int)])],[],[p++[(j:Int)]]]
  |none=>.nil
def uY{os:tz aN}{w:Sk}{po pn:aM}{k:Nat}(h:fe os m n H w=δ j)(b:os[j]?=δ o):Ad os m n H w po pn k=wP (po++[(j:Int)]) o (pn++[(k:Int)]) n H w:=by
 let a:=JS os m n H w;rw[h]at a;let⟨d,_⟩:=za h;unfold Ad wP;cases e:cV (aQ n H) os m with
 |cons J r=>rw[e]at a;injection a with a;subst a;let⟨_,s,c,f⟩:=YY (P:=aQ n H) (os:=os) (m:=m) (j:=J) (by rw[e];exact Oe);rw[b]at c;cases c;rw[N0 f];dsimp only;rw[b]
 |nil=>rw[N7];intro g;let:=pO b g (j - m) m WM;rw[e]at this;cases this
def uX{os:tz aN}{w:Sk}(h:fe os m n H w=θ):Ad os m n H w b p k=#[[],[],[p++[(k:Int)]],[]]:=by
 let a:=JS os m n H w;rw[h]at a;unfold Ad;cases e:cV (aQ n H) os m with
 |cons j r=>rw[e]at a;cases a
 |nil=>rfl
def As(os:tz aN)(m:Nat)(n:Int)(h:tz Int)(w:Sk)(p a:aM)(k:Nat):(Ad os m n h w p a k).tot<=2:=by
 unfold Ad;split
 .exact OR 1
 .split
  .split
   .exact NQ 2
   .exact NQ 2
  .exact NY 2
def vG{W b:Sk}(o:W.ok ν)(O:b.ok ν)(E:d9 W=d9 b)(I:dR c W u [])(j:dR c b U [])(G:V->Hp->Prop)(h:G (.bl (!decide (W.fnd=b.fnd))) c):(Ni Nh$ FK 10) (Dj W u) (Dj b U) c G:=by
 let⟨F,k⟩:=vF o O E;by_cases H:W.fnd=b.fnd
 .rw[N4 H]at h;rcases F H with ⟨f,i,S,A,s,a,rfl,rfl,e⟩ | ⟨rfl,n⟩
  .refine .inl #[Z,?_];rw[show decide (Dj (.cl f i S A) u=Dj (.cl f i s a) U)=μ from N4 (by show sn A=sn a;rw[e])];exact h
  .let⟨l,m,dl,g⟩:=yt o n;rw[wf n,wf n];let T:=J1 o I (λ_=>Z) (λz=>nomatch z);let t:=J1 o j (λ_=>Z) (λz=>nomatch z);rw[m]at T t;erw[.inr #[l,l,dl,g,g,T,t,?_]];rwa[zI Z]
 .rw[NW H]at h;rcases k H with ⟨f,i,S,A,s,a,rfl,rfl,e⟩ | ⟨C,p,d,rfl,rfl,e⟩
  .refine .inl #[Z,?_];rwa[show decide (Dj (.cl f i S A) u=Dj (.cl f i s a) U)=ν from NW λz=>e (by injection z)]
  .let T:=J1 o I (λ_=>Z) (λz=>nomatch z);let t:=J1 O j (λ_=>Z) (λz=>nomatch z);refine .inr #[aA [aL "read",ar C,ar p],aA [aL "read",ar C,ar d],by show max 0 (max 0$ max 0 0) < 10;decide,#[Z,Z,Z,trivial],#[Z,Z,Z,trivial],T,t,?_];rw[zh]
   .exact h
   intro z;injection z with z;injection z with _ z;injection z with _ z;injection z with z _;injection z with z;injection z with z;exact e z
def L4.new(h:L4 H o r k t f d y)(n:H x=θ):x≠k/\x≠t/\x≠f/\x≠d:=by let⟨_,a,_⟩:=h.kv;let⟨_,b,_⟩:=h.tv;let⟨_,c,_⟩:=h.fv;let⟨_,e,_⟩:=h.dv;exact#[(jk a n).symm,(jk b n).symm,(jk c n).symm,(jk e n).symm]
def a8.kept(b:a8 k t f d H a)(n:x≠k/\x≠t/\x≠f/\x≠d)(h:H x=δ o):a x=δ o:=b _ _ n.1 n.2.1 n.2.2.1 n.2.2.2 h
def kO(s:aa H h)(n:h x=θ):H x=θ:=by
 cases z:H x with
 |none=>rfl
 |some o=>rw[s _ _ z]at n;cases n
def M0(os:tz aN)(m i:Nat)(P:aN->Bool)(H:Hp)(z:tz V)(h:Hp):Prop:=aa H h/\z.length<=i/\z++dy (cV P os$ m+i)=dy (cV P os m)
def em:aj z39z z17z (ae um):=bN
noncomputable def ur:hY:=#[.function,[(".0",.local),("_law_j",.local),("_law_old",.free),("_law_step",.free)],ν,ν,[]]
def wm:(z30z:tz ρ).Nodup:=by decide+kernel
def u7:ba z39z (ae um) ur z30z 1 [0,7]:=oM
noncomputable def ut:hY:=#[.function,[(".0",.local),("_law_j",.local),("_law_old",.free)],ν,ν,[]]
def Ex:(["_law_j","_law_old"]:tz ρ).Nodup:=by decide+kernel
def DX:ba z39z (ae um) ut ["_law_j","_law_old"] 1 [0]:=oM
def EO(F:ti K "_law_beside" um f fd)(cF:‹1› fF m3 ["_law_step"] nY "_law_found")(cW:‹18› fW m4 z14z (gg 17) "_law_all_in")(cS:‹n+20› fS m5 z17z (iB n) "_law_beside")(m0:mg "enumerate"=θ)(ml:mg "len"=θ)(mr:mg "range"=θ)(mi:mg "int"=θ):⇑(n+21) f fd z17z (iB$ n+1):=by
 erw[F.ok em λm6 A o' s H vs Q E hr h=>?_]
 let⟨D,z,kA,tA,fA,dA,oa,c,na,b,po,pn,f,is,js,S,s1,a0,a1,y,rfl,hL,a',d3,m7,m8,d4,o1,m9,m',d5,d6,p0,m2,h6,D0,D1,b9,q⟩:=h;refine#[_,(jd (jA 5 em.nd jf)$ jg$ j6 Ot Z (Jr Z m0$ ja (jy$ pv 1) jb) (zz (n:=2) Z$ jB (jw (i:=6) em.nd Z$ ω Z)$ jB (jw (i:=7) em.nd Z$ fR Z) kj)$ jd (jA 8 em.nd$ jx jV (pv 3)$ ji$ ja (pv 6) jb)$ jd (@qN _ _ _ _ _ _ _ _ _ _ (10) (z30z) (1) ([0,7]) _ _ _ _ em.nd Z (ω Z) Z (ql Z mr$ ja (pv 5)$ ja (jM jG Z ml OD$ ja (jy$ pv 0) jb) jb) u7 (λ_ _ _ _ _=>(jw (i:=0) wm Z$ ω Z)) (λ_ _ _ _ _=>(@KK _ _ _$ jD (KS (d:=10)$ lQ hr) (jJ j8 (jr (r:=cR K) (kN (K:=K) Z) (jr (r:=cR K) (kN (K:=K) Z) (pv 1) jf (λ_ _=>Z)) (pv 0) (λ_ _=>Z)) jT$ jI jf) (jJ j8 (pv 2) jT$ jI jf)$ aI _)) (λ_ _ _ _ _=>(pv 0)) WP (by first |exact .inl Z |exact .inr Z) (by intro _;rfl))$ jd (jA 11 em.nd$ jE jb)$ jd (jz (PW.pt$ JH (jD (YX$ RN$ zY hr) (pv 10) (jE jb)$ aI _)$ qM$ kh$ jy$ jr jL (pv 7) jf (λ_ _=>Z)) (jd (@qN _ _ _ _ _ _ _ _ _ _ (12) (["_law_j","_law_old"]) (1) ([0]) _ _ _ _ em.nd Z (ω Z) Z (ql Z mr$ ja (pv 5)$ ja (jM jG Z ml OD$ ja (jy$ pv 0) jb) jb) DX (λ_ _ _ _ _=>(jw (i:=0) Ex Z$ ω Z)) (λ_ _ _ _ _=>(@KK _ _ _$ jD qh (jr (r:=cR K) (kN (K:=K) Z) (jr (r:=cR K) (kN (K:=K) Z) (jr (r:=cR K) (kN (K:=K) Z) (jr (r:=cR K) (kN (K:=K) Z) (pv 1) jf (λ_ _=>Z)) (pv 0) (λ_ _=>Z)) jf (λ_ _=>Z)) jf (λ_ _=>Z)) jm$ aI _)) (λ_ _ _ _ _=>(pv 0)) WP (by first |exact .inl Z |exact .inr Z) (by intro _;rfl))$ jg$ @qN _ _ _ _ _ _ _ _ _ _ (11) (z30z) (1) ([0,7]) _ _ _ _ em.nd Z (ω Z) Z (zj$ pv 12) u7 (λ_ _ _ _ _=>(jw (i:=0) wm Z$ ω Z)) (λ_ _ _ _ _=>(@KK _ _ _$ jD (KS (d:=10)$ lQ hr) (jJ j8 (jr (r:=cR K) (kN (K:=K) Z) (jr (r:=cR K) (kN (K:=K) Z) (jr (r:=cR K) (kN (K:=K) Z) (jr (r:=cR K) (kN (K:=K) Z) (pv 1) jf (λ_ _=>Z)) (pv 0) (λ_ _=>Z)) jf (λ_ _=>Z)) jf (λ_ _=>Z)) jT$ jI jf) (jJ j8 (jr (r:=cR K) (kN (K:=K) Z) (jr (r:=cR K) (kN (K:=K) Z) (pv 2) jf (λ_ _=>Z)) jf (λ_ _=>Z)) jT$ jI jf)$ aI _)) (λ_ _ _ _ _=>(pv 0)) WP (by first |exact .inl Z |exact .inr Z) (by intro _;rfl)) jp)$ jd (jz (jD (YX$ RN$ zY hr) (pv 10) (jE jb)$ aI _) (jg$ jH$ jZ NZ Ob Oa jO (jy$ pv 4)$ ja (pv 8) jb)$ jd (jA 13 em.nd$ ji$ ja (jx jV (pv 2)$ ji$ ja (jr jv (pv 10) jf (λ_ _=>Z)) jb)$ ja (pv 8) jb)$ jd (jH$ jZ NZ Ob Oa jO (jr jL (pv 4) (jN qQ Z mi UC$ ja (z9 (Ft ZE$ wR (d:=10)$ lQ hr) (cF.e hr.m$ ja (jr jL (jy$ pv 0) (jr jv (pv 10) jf (λ_ _=>Z)) (λ_ _=>Z)) jb) (cF.e hr.m$ ja (pv 7) jb)$ aI _) jb) (λ_ _=>Z))$ ja (pv 13) jb)$ jg$ jH$ jZ NZ Ob Oa jO (jy$ pv 4)$ ja (jy$ pv 13) jb)$ jd (jA 14 em.nd$ jJ kJ (jx qp (pv 10)$ pv 11) jT$ jI jf)$ jd (j6 Ot Z (zj$ pv 14) (jw (i:=9) em.nd Z$ ω Z)$ jd (jA 5 em.nd$ jx jW (pv 9) jf)$ jg$ jz (kh$ jy$ jr jL (pv 7) jf (λ_ _=>Z)) (jg$ jH$ cS.e hr.m$ ja (jr jL (jy$ jr jL (jr jL (pv 0) jf (λ_ _=>Z)) (pv 9) (λ_ _=>Z)) jf (λ_ _=>Z))$ ja (jy$ jr jL (pv 7) jf (λ_ _=>Z))$ ja (jx jV (pv 2)$ ji$ ja (pv 9) jb)$ ja (pv 8)$ ja (pv 4) jb) jp)$ jg$ jz (PW.pt$ JH (jD (YX$ RN$ zY hr) (pv 14) (jE jb)$ aI _)$ qM$ kh$ jy$ jr jL (pv 7) jf (λ_ _=>Z)) (jg$ jH$ jZ NZ Pf Pe zG (jy$ pv 4)$ ja (cW.e hr.m$ ja (jy$ jr jL (pv 7) jf (λ_ _=>Z))$ ja (pv 8) jb) jb) jp),?_];let p1:=aK;let⟨_,g0,e0,s8,d7,h1,h2,h3,h4⟩:=id d4;cases d7;let⟨_,g1,e1,s',d8,k1,k2,k3,k4⟩:=id d5;cases d8;let p2:=zD o1 h4;let p4:=q9 o1 h4;erw[ai λF1 v=>v _ _ ?_];erw[dD λJ jj=>(ju k1 dU #[e1,Z,#[_,aC.of k3],jj _ _ ?_])];erw[qx (K:=K) (xs:=s') (MX D z kA tA fA dA oa c na b po pn f S.steps s' s1 (y.app$ nE s1 po S.steps 0 pn 0) H) #[θ,θ,θ,θ,θ,θ,θ,θ,θ,0,s1,y,Z,hL,k4,d6,NQ _,NQ _,D1,NY _,Z,λ_ _ _ _ _ _ e=>e] (λk σ Hx _ h=>?_) ?_ (λσ Hx h=>?_)]
 .let⟨_,_,_,_,_,_,_,_,_,_,_,_,_,_,_,_,_,_,_,_,_,b7⟩:=h;exact aC.of$ hL.tm b7 _ _ k3
 .intro E rt k x pp σ H4 d' f5 fE Gq kq h;let⟨o6,o7,o8,o9,o4,o5,O,C,o2,m,r2,y4,rfl,L4,w2,w3,w4,w5,w6,w7,w8,b4⟩:=h;let s5:aa H4 (af H4 pp$ .tup [.int k,x]):=je f5;let e5:af H4 pp (.tup [.int k,x]) pp=δ (.tup [.int k,x]):=jc;erw[kq ?_];generalize af H4 pp (.tup [.int k,x])=H5 at s5 e5 ⊢;let b5:=b4.trans (a8.of_same s5);let b':=hL.tm b5;let L5:=L4.same s5;refine#[pp,_,Z,aC.of e5,Z,_,_,Z,_,_,Z,Z,?_];rw[pG d']at w2;let w2:=w2.mono (aa.tm s5);cases r2 with
  |nil=>exact nomatch (show _::_=[] from w2)
  |ask _ |rd _ _ |wr _ _ |cl _ _ _ _=>exact w3.elim
  |st N p w r1=>
   let⟨p',h',u',y',ex,i1,i2,i3,i4⟩:=w2;injection ex with ex ey;subst ex;subst ey;let d0:w.dep<=s1.dep:=N6 (RB _ _) w4;let d2:r1.dep<=s1.dep:=N6 (Rq _ _) w4;let w5:w.size+r1.size+1<=s1.size:=w5;show dH (dJ _ _) (dH _ _) E [↑c,↑b,↑oa,↑na,↑z,δ$ .int (m:Int),δ$ .int k,↑p',o8,o9,o4,o5,O,C,o2] H5;refine ai λF1 v=>#[_,Z,_,Z,iQ,λt nt=>#[na,t,_,_,Z,Z,aq (b' _ _ d3) nt,jc,by rw[NO];show _+1<=_;omega,λr9 H9 e9 s9=>v _ _ ?_]];let S9:aa H5 H9:=(je (o:=.tup [.int k]) nt).trans s9;let e9:H9 r9=δ (.tup$ pn.map sn++[.int (k:Int)]):=e9;rw[l9]at e9;let t6:=hL.tm (b5.trans$ a8.of_same S9);erw[ai λF1 v=>#[_,Z,ju (t6 _ _ h1) dU #[e0,_,Z,.inr$ aC.of$ t6 _ _ h3,_,_,Z,#[WM,WM,WM,WM],?_]]];erw[JE (lo:=(m:Int)) (n:=((s8.length:Int) - (m:Int)).toNat) (λi B Hx=>M0 S.steps m i (aQ N p) H9 B Hx) #[aa.refl _,NQ 0,Z] WM (λi B Hx h=>h.2.1) ?_ ?_]
   .intro i B Hx hi h;let⟨W,lz,ez⟩:=h;let h8:m+i < S.steps.length:=by omega
    let X:=NK h8;generalize S.steps[m+i]=o at X;let⟨q,hq,uq,q1,q2,q3,_⟩:=XX o1 (h4.mono$ t6.trans$ aa.tm W) X;let ei:(m:Int)+(i:Int)=((m+i:Nat):Int):=by omega
    let⟨gy,gn⟩:=vU X ez;refine(ju (W _ _$ t6 _ _ h1) dU #[_,Z,e0,_,_,_,Z,Z,aC.of$ W _ _$ t6 _ _ h3,by rw[ei];exact jK q1,_,Z,q,_,Z,q2,λt1 Hy a2 sy=>#[_,Z,_,Z,p',_,Z,sy _ _$ W _ _$ S9 _ _ i1,λt2 Hz h6 sz=>#[_,_,Xv o.1 o.2.1,JN o.1 o.2.1,JN N p,jF (sz _ _ a2)$ jl Z jX$ jl Z (zi$ sz _ _$ sy _ _ q3) jC,jF h6$ jl Z jX$ jl Z (zi$ sz _ _$ sy _ _$ W _ _$ S9 _ _ i2) jC,_,Z,?_]]]);rw[show fQ (.tp$ aA [ar o.1,aB$ o.2.1.map ar]) (.tp$ aA [ar N,aB$ p.map ar])=aQ N p o from YU (w:=o.2.2)];let c0:=(W.trans sy).trans sz;cases hb:aQ N p o with
    |true=>exact nM #[_,Z,c0,by rw[NP];show _+1<=_;omega,gy hb]
    |false=>exact nL #[c0,WM,gn hb]
   intro B HA h sl n5;let⟨sA,_,ez⟩:=h;rw[Kv WM]at ez;let ez:B=dy (cV (aQ N p) S.steps m):=by rw[<- ez];exact(Op _).symm
   subst ez;erw[v _ _ ?_];let sB:aa HA (af HA sl$ .lst$ dy$ cV (aQ N p) S.steps m):=je n5;let eB:af HA sl (.lst$ dy$ cV (aQ N p) S.steps m) sl=δ (.lst$ dy$ cV (aQ N p) S.steps m):=jc;generalize af HA sl (.lst$ dy$ cV (aQ N p) S.steps m)=HB at sB eB ⊢;erw[ai λF1 v=>#[fc,λlA n6=>v _ _ ?_]];let sC:aa HB (af HB lA$ .lst []):=je n6;let eC:af HB lA (.lst []) lA=δ (.lst []):=jc;generalize af HB lA (.lst [])=HC at sC eC ⊢;let SC:aa H5 HC:=((S9.trans sA).trans sB).trans sC;let eB:=sC _ _ eB;let t':=b'.trans (aa.tm SC);let e9:=sC _ _ (sB _ _$ sA _ _ e9);let n7:H5 lA=θ:=kO ((S9.trans sA).trans sB) n6;let f6:H5 sl=θ:=kO (S9.trans sA) n5;let p6:=XA (aQ N p) S.steps m;let p9:=AM S.steps m N p w;erw[ai λF1 v=>?_];suffices g2:∀(l2:η) (O:tT V) (HD:Hp),H5 l2=θ->aa HC HD->HD l2=δ (.lst$ dy$ mf S.steps m N p w)->F1 [↑c,↑b,↑oa,↑na,↑z,δ$ .int (m:Int),δ$ .int k,↑p',↑r9,o9,↑sl,↑l2,O,C,o2] HD by
    refine#[_,Z,fc,λl0 n0=>#[sl,l0,_,Z,Z,aq eB n0,jc,_,Z,?_]];let sD:aa HC (af HC l0$ .lst []):=je n0;generalize af HC l0 (.lst [])=HD at sD ⊢;let SD:=SC.trans sD;rw[Yt];cases e2:cV (aQ N p) S.steps m with
    |cons j0 r0=>
     erw[aY Z$ aY Z$ g2 lA O HD n7 sD ?_];let z:mf S.steps m N p w=[]:=by unfold mf;rw[e2];rfl
     rw[z];exact sD _ _ eC
    |nil=>
     erw[c8 Z ?_];let⟨p3,v3,r3,eu,h7,h0⟩:=Jm w3.1 (i3.mono$ aa.tm SD);subst eu;refine(ju (SD _ _ i1) dU #[p3,_,_,_,Z,Z,aC.of h7,eY,Z,_,Z,?_]);rw[qO];by_cases hv:v3="call"
     .refine c8 (N4 hv) ?_;let⟨g,L,sw,aw,rfl⟩:=h0.mp hv;let zl:mf S.steps m N p (.cl g L sw aw)=cV (cX g L) S.steps m:=by unfold mf;rw[N0 e2]
      rw[zl]at g2;let⟨x1,c1,g4,e4,s3,e3,j1,j2,j3,j4,j5⟩:=i3.mono (aa.tm SD);cases e3;let t0:=t'.trans (aa.tm sD);erw[ai λF2 f2=>#[_,Z,ju (t0 _ _ h1) dU #[e0,_,Z,.inr$ aC.of$ t0 _ _ h3,_,_,Z,#[WM,WM,WM,WM],?_]]];erw[JE (lo:=(m:Int)) (n:=((s8.length:Int) - (m:Int)).toNat) (λi B Hx=>M0 S.steps m i fg HD B Hx) #[aa.refl _,NQ 0,Z] WM (λi B Hx h=>h.2.1) ?_ ?_]
      .intro i B Hx hi h;let⟨W,lz,ez⟩:=h;let h8:m+i < S.steps.length:=by omega
       let X:=NK h8;generalize S.steps[m+i]=o at X;let⟨q,hq,uq,q1,q2,q3,q4,q5,_⟩:=XX o1 (h4.mono$ t0.trans$ aa.tm W) X;let ei:(m:Int)+(i:Int)=((m+i:Nat):Int):=by omega
       let⟨gy,gn⟩:=vU X ez;let⟨p5,v5,r5,eu,f7,f9⟩:=DW q5 q4;subst eu;refine(ju (W _ _$ t0 _ _ h1) dU #[_,Z,e0,_,_,_,Z,Z,aC.of$ W _ _$ t0 _ _ h3,by rw[ei];exact jK q1,q,_,_,_,Z,Z,aC.of q2,dU,p5,_,_,_,Z,Z,aC.of f7,eY,Z,_,Z,?_]);rw[qO,f9 o.1 o.2.1];cases hb:fg o with
       |true=>exact nM #[_,Z,W,by rw[NP];show _+1<=_;omega,gy hb]
       |false=>exact nL #[W,WM,gn hb]
      intro B HE h ca f';let⟨sE,_,ez⟩:=h;rw[Kv WM]at ez;let ez:B=dy (cV fg S.steps m):=by rw[<- ez];exact(Op _).symm
      subst ez;erw[f2 _ _ ?_];let sF:aa HE (af HE ca$ .lst$ dy$ cV fg S.steps m):=je f';let eF:af HE ca (.lst$ dy$ cV fg S.steps m) ca=δ (.lst$ dy$ cV fg S.steps m):=jc;generalize af HE ca (.lst$ dy$ cV fg S.steps m)=HF at sF eF ⊢;let SF:=(sD.trans sE).trans sF;let t3:=t'.trans (aa.tm SF);let S6:=SC.trans SF;let q0:=XA fg S.steps m;refine#[_,Z,ca,Z,#[_,aH.of eF],?_];refine Qj (K:=K) (a:=ca) (xs:=dy (cV fg S.steps m)) (by rw[Kw];omega) (λi B Hx=>aa HF Hx/\B.length<=i/\B=dy (((cV fg S.steps m).take i).filter$ CS (cX g L) S.steps)) #[aa.refl _,NQ 0,Z] (λi B Hx h=>#[aH.of$ h.1 _ _ eF,h.2.1]) ?_ ?_
      .intro i x B Hx G h;let⟨W,lz,ez⟩:=h;unfold dy at G;rw[Od]at G;let⟨j,hj,rfl⟩:=de.mp G;let⟨_,o,X,g7⟩:=YY (Og hj);let et:(cV fg S.steps m).take (i+1)=(cV fg S.steps m).take i++[j]:=by rw[OU,hj];rfl
       let⟨q,hq,uq,q1,q2,q3,q4,q5,_⟩:=XX o1 (h4.mono$ t3.trans$ aa.tm W) X;let⟨no,h5,wo⟩:=o;let q4:dR Hx wo uq []:=q4;let ea:CS (cX g L) S.steps j=cX g L (no,h5,wo):=by unfold CS;rw[X]
       let f0:∀Hz,aa Hx Hz->cX g L (no,h5,wo)=μ->aa HF Hz/\(B++[sn (j:Int)]).length<=i+1/\B++[sn (j:Int)]=dy (((cV fg S.steps m).take$ i+1).filter$ CS (cX g L) S.steps):=λHz sz hb=>by rw[et,RC,<- XB,<- ez];exact#[W.trans sz,by rw[NP];show _+1<=_;omega,by rw[Sq (by rw[ea];exact hb)];rfl]
       let f3:∀Hz,aa Hx Hz->cX g L (no,h5,wo)=ν->aa HF Hz/\B.length<=i+1/\B=dy (((cV fg S.steps m).take$ i+1).filter$ CS (cX g L) S.steps):=λHz sz hb=>by rw[et,RC,<- XB,<- ez];exact#[W.trans sz,WM,by rw[Sr (by rw[ea,hb];intro z;cases z)];exact(Op _).symm]
       cases wo with
       |cl g5 l3 c2 a5=>
        let⟨x5,c5,g6,e',c3,rfl,y1,y2,y3,_⟩:=q4;refine(ju (W _ _$ t3 _ _ h1) dU #[_,Z,e0,_,_,_,Z,Z,aC.of$ W _ _$ t3 _ _ h3,jK q1,q,_,_,_,Z,Z,aC.of q2,dU,x5,_,_,_,Z,Z,aC.of y1,iy,_,Z,c5,_,Z,y2,λt1 Hy a2 sy=>?_]);let Sy:=(S6.trans W).trans sy;refine(ju (Sy _ _ i1) dU #[p3,_,_,_,Z,Z,aC.of$ sy _ _$ W _ _$ sF _ _$ sE _ _ j1,iy,_,Z,c1,_,Z,sy _ _$ W _ _$ sF _ _$ sE _ _ j2,λt2 Hz h6 sz=>#[_,_,EB g5 l3,Dl g5 l3,Dl g L,jF (sz _ _ a2)$ jl Z jU$ jl Z (zi$ sz _ _$ sy _ _ y3) jC,jF h6$ jl Z jU$ jl Z (zi$ sz _ _$ sy _ _$ W _ _$ sF _ _$ sE _ _ j3) jC,_,Z,?_]]);rw[show fQ (.tp$ aA [aL g5,aB$ l3.map ar]) (.tp$ aA [aL g,aB$ L.map ar])=cX g L (no,h5,.cl g5 l3 c2 a5) from AH];cases hb:cX g L (no,h5,.cl g5 l3 c2 a5) with
        |true=>exact nM #[_,Z,f0 Hz (sy.trans sz) hb]
        |false=>exact nL (f3 Hz (sy.trans sz) hb)
       |_=>cases g7
      intro B HG h l2 n';let⟨sG,_,ez⟩:=h;rw[Kw,OH,Qk (λs hs=>Ip s hs) S.steps _ m Z]at ez;subst ez;exact g2 l2 _ _ (kO (S6.trans sG) n') ((SF.trans sG).trans$ je n') jc
     .refine aY (NW hv)$ g2 lA O HD n7 sD ?_;let z:mf S.steps m N p w=[]:=by
       unfold mf;rw[N0 e2];cases w with
       |cl f is s a=>exact absurd (h0.mpr #[f,is,s,a,Z]) hv
       |_=>rfl
      rw[z];exact sD _ _ eC
   intro l2 O HD n2 sD eD;erw[v _ _ ?_];let SD:=SC.trans sD;let t0:=t'.trans (aa.tm sD);let LD:=L5.same SD;let eS:=sD _ _ eB;let e9:=sD _ _ e9;let bD:=b5.trans (a8.of_same SD);let i':=SD _ _ i1;let q':=SD _ _ i2;let i0:=i3.mono (aa.tm SD);let g8:=i4.mono (aa.tm SD);let tt:=b9;rw[<- w8,Ly.tot_app]at tt;let r6:=As S.steps m N p w po pn k;erw[ai λF1 v=>?_];suffices I:∀(C:tT V) (HE:Hp),Lt HE z kA tA fA dA (y4.app$ Ad S.steps m N p w po pn k)->a8 kA tA fA dA HD HE->F1 [↑c,↑b,↑oa,↑na,↑z,δ$ .int (m:Int),δ$ .int k,↑p',↑r9,o9,↑sl,↑l2,O,C,o2] HE by
    refine#[_,Z,fc,λl0 n0=>#[sl,l0,_,Z,Z,aq eS n0,jc,_,Z,?_]];let s2:aa HD (af HD l0$ .lst []):=je n0;generalize af HD l0 (.lst [])=HE at s2 ⊢;let LE:=LD.same s2;let ty:y4.f.length<=y4.tot/\y4.k.length<=y4.tot/\y4.t.length<=y4.tot/\y4.d.length<=y4.tot:=by unfold Ly.tot;omega
    rw[Yt];unfold Ad at I;cases e2:cV (aQ N p) S.steps m with
    |nil=>rw[e2]at I;erw[c8 Z ?_];let⟨xs,G,lx⟩:=LE.fv;let l4:=lx.len;refine(ju LE.ins dU #[.inl #[Z,_,aH.of G],_,Z,fA,_,_,Z,Z,G,WM,?_]);let⟨L3,b3⟩:=LE.setF G (bX.one (R:=iq) (w:=pn++[(k:Int)]) #[r9,Z,s2 _ _ e9]);exact I C _ L3 ((a8.of_same s2).trans b3)
    |cons j r=>
     let⟨g',o,X,j'⟩:=YY (P:=aQ N p) (os:=S.steps) (m:=m) (j:=j) (by rw[e2];exact Oe);rw[e2]at I;dsimp only at I;rw[X]at I;dsimp only at I;let⟨l1,l5⟩:=ZJ j';let⟨d1,_⟩:=J2 D0 X;let dd:d9 o.2.2=d9 w:=by rw[d1,l1,l5,w6.1]
     let c4:HE sl=δ (.lst (sn (j:Int)::dy r)):=by let z:=s2 _ _ eS;rw[e2]at z;exact z
     erw[aY Z ?_];refine ai λF2 f2=>#[_,Z,_,Z,sl,_,_,_,Z,Z,aH.of c4,eY,iQ,λt nt=>#[oa,t,_,_,Z,Z,aq (s2 _ _$ t0 _ _ a') nt,jc,by rw[NO];show _+1<=_;omega,λM H0 T s7=>#[_,Z,cj,λpr k0=>f2 _ _ ?_]]];let u:aa HE H0:=(je (o:=.tup [.int (j:Int)]) nt).trans s7;let T:H0 M=δ (.tup$ po.map sn++[.int (j:Int)]):=T;rw[l9]at T;let s4:aa H0 (af H0 pr$ .tup [.ref M,.ref r9]):=je k0;let e6:af H0 pr (.tup [.ref M,.ref r9]) pr=δ (.tup [.ref M,.ref r9]):=jc;generalize af H0 pr (.tup [.ref M,.ref r9])=H1 at s4 e6 ⊢;let U:=(s2.trans u).trans s4;let t4:=t0.trans (aa.tm U);let Y:=LD.same U;let⟨q,hq,uq,q1,q2,q3,q4,q5,_⟩:=XX o1 (h4.mono t4) X;let rp:oA H1 (.ref pr) (po++[(j:Int)],pn++[(k:Int)]):=#[pr,M,r9,Z,e6,s4 _ _ T,U _ _ e9];let e7:H1 sl=δ (.lst (sn (j:Int)::dy r)):=s4 _ _ (u _ _ c4);by_cases hf:o.2.2.fnd=w.fnd
     .rw[N0 hf]at I;let⟨xs,G,lx⟩:=Y.kv;let l4:=lx.len;refine ai λF2 f2=>#[_,Z,ju (t4 _ _ h1) dU #[_,Z,sl,_,_,_,Z,Z,aH.of e7,eY,e0,_,_,_,Z,Z,aC.of$ t4 _ _ h3,jK q1,q,hq,o.1,uq,o.2.2,Z,q2,q4,q5,_,Z,p',h',N,u',w,Z,U _ _ i',i0.mono$ aa.tm U,w3.1,vG q5 w3.1 dd q4 (i0.mono$ aa.tm U) _$ .inr #[_,Eq.refl _,z,_,_,tf kA,Z,Z,aC.of Y.ins,by rw[N4 hf];rfl,.inl #[Z,_,aH.of G],_,Z,kA,_,_,Z,Z,G,WM,f2 _ _ ?_]]];let⟨L0,b0⟩:=Y.setK G (bX.one (R:=oA) rp);let t5:=Y.tm b0;generalize af H1 kA (.lst$ xs++[.ref pr])=H2 at L0 b0 t5 ⊢;let⟨B,hz,lz⟩:=L0.dv;let l6:B.length=y4.d.length:=by rw[lz.len];show(y4.d++[]).length=_;rw[Op]
      refine(ju L0.ins Hu #[.inl #[Z,_,aH.of hz],ju (t5 _ _ e6) eY #[dA,_,_,Z,Z,hz,WM,?_]]);let⟨L1,b1⟩:=L0.setD hz (bX.one (R:=iq) (w:=po++[(j:Int)]) #[M,Z,t5 _ _$ s4 _ _ T]);rw[Ly.app_assoc]at L1;exact I _ _ L1 (((a8.of_same U).trans b0).trans b1)
     .rw[N7 hf]at I;let⟨xs,G,lx⟩:=Y.tv;let l4:=lx.len;refine ai λF2 f2=>#[_,Z,ju (t4 _ _ h1) dU #[_,Z,sl,_,_,_,Z,Z,aH.of e7,eY,e0,_,_,_,Z,Z,aC.of$ t4 _ _ h3,jK q1,q,hq,o.1,uq,o.2.2,Z,q2,q4,q5,_,Z,p',h',N,u',w,Z,U _ _ i',i0.mono$ aa.tm U,w3.1,vG q5 w3.1 dd q4 (i0.mono$ aa.tm U) _$ .inr #[_,Eq.refl _,z,_,_,tf tA,Z,Z,aC.of Y.ins,by rw[NW hf];rfl,.inl #[Z,_,aH.of G],_,Z,tA,_,_,Z,Z,G,WM,f2 _ _ ?_]]];let⟨L0,b0⟩:=Y.setT G (bX.one (R:=oA) rp);let t5:=Y.tm b0;generalize af H1 tA (.lst$ xs++[.ref pr])=H2 at L0 b0 t5 ⊢;let⟨B,hz,lz⟩:=L0.dv;let l6:B.length=y4.d.length:=by rw[lz.len];show(y4.d++[]).length=_;rw[Op]
      refine(ju L0.ins Hu #[.inl #[Z,_,aH.of hz],ju (t5 _ _ e6) eY #[dA,_,_,Z,Z,hz,WM,?_]]);let⟨L1,b1⟩:=L0.setD hz (bX.one (R:=iq) (w:=po++[(j:Int)]) #[M,Z,t5 _ _$ s4 _ _ T]);rw[Ly.app_assoc]at L1;exact I _ _ L1 (((a8.of_same U).trans b0).trans b1)
   intro C HE LE bE;erw[v _ _ ?_];let t7:=LD.tm bE;let c6:=t0.trans t7;let nS:=L5.new f6;let k5:=L5.new n2;let eS:=bE.kept nS eS;let eD:=bE.kept k5 eD;let e9:=t7 _ _ e9;let k6:=t7 _ _ i';let k7:=i0.mono t7;let k8:=g8.mono t7;let k9:=bD.trans bE;let r7:=(a8.of_same SD).trans bE;let r8:=Kw (cV (aQ N p) S.steps m);let r':=Kw (mf S.steps m N p w);erw[ai λF1 v=>#[_,Z,_,Z,sl,l2,_,_,Z,Z,eS,eD,WM,λcA c9=>#[_,Z,cA,_,Z,aH.of jc,λbA n4=>v _ _ ?_]]];let sF:aa HE (af (af HE cA$ .lst$ dy (cV (aQ N p) S.steps m)++dy (mf S.steps m N p w)) bA$ .lst$ aW (dy (cV (aQ N p) S.steps m)++dy (mf S.steps m N p w)) θ$ δ 1):=(je c9).trans (je n4);let eF:af (af HE cA$ .lst$ dy (cV (aQ N p) S.steps m)++dy (mf S.steps m N p w)) bA (.lst$ aW (dy (cV (aQ N p) S.steps m)++dy (mf S.steps m N p w)) θ$ δ 1) bA=δ (.lst$ dy ((cV (aQ N p) S.steps m++mf S.steps m N p w).take 1)):=by rw[jc,XB,HQ]
   generalize af (af HE cA$ .lst$ dy (cV (aQ N p) S.steps m)++dy (mf S.steps m N p w)) bA (.lst$ aW (dy (cV (aQ N p) S.steps m)++dy (mf S.steps m N p w)) θ$ δ 1)=HF at sF eF n4 ⊢;rw[Ls,JS]at eF;let LF:=LE.same sF;let t3:=c6.trans (aa.tm sF);let b2:=k9.trans (a8.of_same sF);let i5:=sF _ _ k6;let a3:=k7.mono (aa.tm sF);let a4:=k8.mono (aa.tm sF);let c':=sF _ _ e9;let⟨p3,v3,r3,eu,h7,h0⟩:=Jm w3.1 a3;subst eu;cases ht:fe S.steps m N p w with
   |none=>
    rw[ht]at eF;let eF:HF bA=δ (.lst []):=eF;rw[uX ht]at LF;rw[Ys ht]at w8;let t8:=tt;rw[Ys ht,Ly.tot_app]at t8;let pl:=qJ w3.1 (pn++[(k:Int)]);let z2:(#[[],[],cy (pn++[(k:Int)]) w,[]]:Ly).tot=w.size+1:=by show 0+0+(cy (pn++[(k:Int)]) w).length+0=_;rw[pl];omega
    rw[z2]at t8;erw[ai λF1 v=>dD λJ jj=>#[_,Z,bA,Z,#[_,aH.of eF],jj _ _ ?_]];refine zH (K:=K) (a:=bA) (xs:=[]) (λ_ σ H'=>σ=[↑c,↑b,↑oa,↑na,↑z,δ$ .int (m:Int),δ$ .int k,↑p',↑r9,o9,↑sl,↑l2,O,C,↑bA]/\H'=HF) #[Z,Z] (λi σ H' _ h=>by rw[h.2];exact aH.of eF) (λE2 r4 i x σ H' G=>absurd G WN) (λσ H' h=>v _ _ ?_);let⟨rfl,rfl⟩:=h;erw[me λG1 yT yF=>#[_,Z,fc,λl0 n0=>#[bA,l0,_,Z,Z,aq eF n0,jc,_,Z,?_]]];let sG:aa H' (af H' l0$ .lst []):=je n0;generalize af H' l0 (.lst [])=HG at sG ⊢;erw[c8 Z$ ju (sG _ _ i5) dU #[p3,_,_,_,Z,Z,aC.of$ sG _ _ h7,eY,Z,_,Z,?_]];let LG:=LF.same sG;rw[qO];by_cases hv:v3="call"
    .let⟨g,L,sw,aw,rfl⟩:=h0.mp hv;rw[N4 hv];let⟨x1,c1,g4,e4,s3,e3,j1,j2,j3,j4,j5⟩:=a3.mono (aa.tm sG);cases e3;let⟨xs,G,lx⟩:=LG.fv;let l4:xs.length=y4.f.length+1:=by rw[lx.len];exact NP
     let ty:y4.f.length<=y4.tot:=by unfold Ly.tot;omega
     let d0:sw.dep+1<=s1.dep:=d0;let o3:sw.ok μ:=w3.1;let k':(Sk.cl g L sw aw).size=sw.size:=rfl;refine yT _$ ju LG.ins dU #[.inl #[Z,_,aH.of G],ju (sG _ _ i5) dU #[p3,_,_,_,Z,Z,aC.of j1,iy,_,Z,r9,pn++[(k:Int)],g,L,sw,aw,.ref c1,Z,sG _ _ c',by rw[NP];show _+1+_<=_;omega,#[c1,g4,e4,s3,Z,j2,j3,j4,j5],o3,WM,WM,λl B HI nl hl hz sI=>?_]];let lz:=hz.len;rw[NO,ze o3]at lz;let⟨L7,b7⟩:=(LG.same sI).setF (sI _ _ G) hz;refine#[fA,l,_,_,Z,Z,sI _ _ G,hl,WM,fE _ _ #[_,_,_,_,_,_,_,_,_,m,r1,_,Z,L7,?_,w3.2,d2,WM,w6.2.2,w7,?_,?_]]
     .exact(a4.mono$ aa.tm$ sG.trans sI).mono ((LG.same sI).tm b7)
     .rw[<- w8,Ly.app_assoc,Ly.app_assoc,<- Ly.app_assoc _ _ (nE r1 po S.steps m pn$ k+1)];rfl
     .exact(b2.trans$ a8.of_same$ sG.trans sI).trans b7
    .rw[NW hv];erw[yF _$ fE _ _ #[_,_,_,_,_,_,_,_,_,m,r1,_,Z,LG,a4.mono$ aa.tm sG,w3.2,d2,WM,w6.2.2,w7,?_,b2.trans$ a8.of_same sG]];let e0:cy (pn++[(k:Int)]) w=[pn++[(k:Int)]]:=by
      let o3:=w3.1;cases w with
      |nil |st _ _ _ _=>exact o3.elim
      |cl f is s a=>exact absurd (h0.mpr #[f,is,s,a,Z]) hv
      |_=>rfl
     rw[e0]at w8;rw[Ly.app_assoc];exact w8
   |some j=>
    rw[ht]at eF;let eF:HF bA=δ (.lst [sn (j:Int)]):=eF;let⟨g',o,X,u0⟩:=za ht;let u1:=(ξ.mp X).1;let bs:=uW (r:=r1) (po:=po) (pn:=pn) (k:=k) ht X;rw[<- uY (po:=po) (pn:=pn) (k:=k) ht X]at bs;let t8:=tt;rw[bs,Ly.tot_app,Ly.tot_app]at t8;rw[bs]at w8;let n3:bA≠kA/\bA≠tA/\bA≠fA/\bA≠dA:=(LE.same$ je c9).new n4;erw[ai λF1 v=>dD λJ jj=>#[_,Z,bA,Z,#[_,aH.of eF],jj _ _ ?_]];erw[zH (K:=K) (a:=bA) (xs:=[sn (j:Int)]) (λi σ H'=>(i=0/\σ=[↑c,↑b,↑oa,↑na,↑z,δ$ .int (m:Int),δ$ .int k,↑p',↑r9,o9,↑sl,↑l2,O,C,↑bA]/\H'=HF)∨(i=1/\σ=[↑c,↑b,↑oa,↑na,↑z,δ$ .int ((j+1:Nat):Int),δ$ .int k,↑p',↑r9,δ$ .int (j:Int),↑sl,↑l2,O,C,↑bA]/\Lt H' z kA tA fA dA ((y4.app$ Ad S.steps m N p w po pn k).app$ nE w (po++[(j:Int)]) (iH o.2.2) 0 (pn++[(k:Int)]) 0)/\a8 kA tA fA dA HF H')) (.inl #[Z,Z,Z]) (λi σ H' _ h=>?_) ?_ (λσ H' h=>v _ _ ?_)]
    .rcases h with ⟨_,_,rfl⟩ | ⟨_,_,_,b8⟩
     .exact aH.of eF
     .exact aH.of$ b8.kept n3 eF
    .clear v;intro E2 r4 i x σ H' G f4 Gq kq h;rcases h with ⟨rfl,rfl,rfl⟩ | ⟨rfl,_⟩
     .cases G;erw[kq ?_];show dH (dJ _ _) _ E2 [↑c,↑b,↑oa,↑na,↑z,δ$ .int (m:Int),δ$ .int k,↑p',↑r9,δ$ .int (j:Int),↑sl,↑l2,O,C,↑bA] H';erw[ai λF2 f2=>#[_,Z,_,_,Z,Z,f2 _ _ ?_]];let ej:(j:Int)+1=((j+1:Nat):Int):=by omega
      show gX _ _ _ E2 [↑c,↑b,↑oa,↑na,↑z,δ$ .int ((j:Int)+1),δ$ .int k,↑p',↑r9,δ$ .int (j:Int),↑sl,↑l2,O,C,↑bA] H';rw[ej];erw[me λG1 yT yF=>(ju i5 dU #[p3,_,_,_,Z,Z,aC.of h7,eY,Z,_,Z,?_])];rw[qO];by_cases hv:v3="call"
      .let⟨g,L,sw,aw,rfl⟩:=h0.mp hv;rw[N4 hv];let⟨q,hq,uq,q1,q2,q3,q4,q5,q6,q7⟩:=XX o1 (h4.mono t3) X;let⟨s6,ao,e8⟩:=Xn (s:=.nil) o1 D0 ht X q5 w6.1 g L sw aw Z;let⟨no,h5,wo⟩:=o;let e8:wo= .cl g L s6 ao:=e8;subst e8;let⟨x5,c5,g6,e',c3,rfl,y1,y2,y3,y0,y5⟩:=q4;let⟨x1,c1,g4,e4,s3,e3,j1,j2,j3,j4,j5⟩:=a3;cases e3;let d0:sw.dep+1<=s1.dep:=d0;let q6:s6.dep+1<=S.dep:=q6;let q7:s6.size+1<=S.size:=q7;let k':(Sk.cl g L sw aw).size=sw.size:=rfl;refine yT _$ ju (t3 _ _ h1) dU #[_,Z,e0,_,_,_,Z,Z,aC.of$ t3 _ _ h3,jK q1,q,_,_,_,Z,Z,aC.of q2,dU,x5,_,_,_,Z,Z,aC.of y1,iy,ju i5 dU #[p3,_,_,_,Z,Z,aC.of j1,iy,_,Z,_,Z,iQ,λt nt=>#[oa,t,_,_,Z,Z,aq (t3 _ _ a') nt,jc,by rw[NO];show _+1<=_;omega,λM H0 T s7=>?_]]];let u:aa H' H0:=(je (o:=.tup [.int (j:Int)]) nt).trans s7;let T:H0 M=δ (.tup$ po.map sn++[.int (j:Int)]):=T;rw[l9]at T;let l8:Dt D g s6:=(J2 D0 X).2;let l':Dt D g sw:=w6.2.1;refine#[_,Z,_,Z,D,z,kA,tA,fA,dA,M,c5,r9,c1,po++[(j:Int)],pn++[(k:Int)],g,L,L,s6,sw,ao,aw,_,Z,LF.same u,T,u _ _ c',by rw[NP];show _+1+_<=_;omega,by rw[NP];show _+1+_<=_;omega,#[c5,g6,e',c3,Z,u _ _ y2,u _ _ y3,u _ _ y0,y5.mono$ aa.tm u],q5,WM,WM,#[c1,g4,e4,s3,Z,u _ _ j2,u _ _ j3,u _ _ j4,j5.mono$ aa.tm u],w3.1,WM,WM,WM,l8,l',?_,λH1 Y m1=>f4 _ _ (.inr #[Z,Z,Y,(a8.of_same u).trans m1])];let u2:y4.tot+((Ad S.steps m N p (.cl g L sw aw) po pn k).tot+((nE sw (po++[(j:Int)]) s6.steps 0 (pn++[(k:Int)]) 0).tot+(nE r1 po S.steps (j+1) pn$ k+1).tot))<=100000:=t8;rw[Ly.tot_app,Ly.tot_app];omega
      .rw[NW hv];erw[yF _$ f4 _ _$ .inr #[Z,Z,?_,λ_ _ _ _ _ _ e=>e]];rw[uV w3.1 (λf is s a e=>hv (h0.mpr #[f,is,s,a,e])),Ly.app_nil];exact LF
     .exact absurd G WN
    .rcases h with ⟨z0,_⟩ | ⟨_,rfl,L8,b8⟩
     .exact absurd z0 WN
     erw[me λG1 yT yF=>#[_,Z,fc,λl0 n0=>#[bA,l0,_,Z,Z,aq (b8.kept n3 eF) n0,jc,_,Z,aY Z$ yF _$ fE _ _ #[_,_,_,_,_,_,_,_,_,j+1,r1,_,Z,L8.same$ je n0,?_,w3.2,d2,WM,w6.2.2,WM,?_,?_]]]]
     .exact(a4.mono$ LF.tm b8).mono (aa.tm$ je n0)
     .rw[Ly.app_assoc,Ly.app_assoc];exact w8
     .exact(b2.trans b8).trans (a8.of_same$ je n0)
 .let⟨o6,o7,o8,o9,o4,o5,O,C,o2,m,r2,y4,rfl,L4,w2,w3,w4,w5,w6,w7,w8,b4⟩:=h;rw[Vh]at w2;cases r2 with
  |st n hs w r=>let⟨_,_,_,_,z,_⟩:=w2;cases z
  |ask _ |rd _ _ |wr _ _ |cl _ _ _ _=>exact w3.elim
  |nil=>have w8:y4.app .nil=_:=w8;rw[Ly.app_nil]at w8;exact q Hx (w8▸L4) b4
noncomputable def HZ(H:Hp)(p:aM):ζ->Bool
 | .ref a=>match H a with
  |some (.tup x)=>decide (x=p.map sn)
  |_=>ν
 |_=>ν
def vW{p q:aM}:p.map sn=q.map sn↔p=q:=#[λh=>(UV λa b e=>by injection e).mp h,λh=>by rw[h]]
def vt{H:Hp}{q:aM}(h:H a=δ (.tup$ q.map sn)):HZ H p (.ref a)=decide (q=p):=by
 show(match H a with |some (.tup x)=>decide (x=p.map sn) |_=>ν)=_;rw[h];dsimp only;by_cases e:q=p
 .rw[N4 e,N4 (by rw[e])]
 .rw[NW e,NW λz=>e (vW.mp z)]
def Cw{p q:aM}:fQ (aB$ q.map ar) (aB$ p.map ar)=decide (q=p):=by
 by_cases e:q=p
 .rw[N4 e,e,zI Z]
 .rw[NW e,zh];intro z;let z:Tr.tp (aA$ q.map ar)= .tp (aA$ p.map ar):=z;injection z with z;exact e$ zV z
theorem pC:∀{b:tz aM} {X:tz V} {u:tz ζ},bX iq H b X->aD X u->u.any (HZ H p)=decide (p∈b)
 | [],_,_,h,r=>by let h:_=[]:=h;subst h;cases r;simp
 |q::b,_,_,Q,r=>by
  obtain⟨x,y,e,⟨a,E,c⟩,h⟩:=Q;subst e;subst E;cases r with
  |cons R d=>
   cases R;rw[RW,pC h d,vt c];by_cases e:q=p
   .subst e;simp
   .rw[NW e];simp [Ou e]
theorem wj:∀{p:tz aM} {X:tz V} {U:tz ζ},bX iq H p X->aD X U->∀u∈U,∃(a:η) (q:aM),u= .ref a/\H a=δ (.tup$ q.map sn)
 | [],_,_,h,r,u,hu=>by let h:_=[]:=h;subst h;cases r;cases hu
 |q::p,_,_,Q,r,u,hu=>by
  obtain⟨x,y,e,⟨a,E,b⟩,h⟩:=Q;subst e;subst E;cases r with
  |cons R c=>
   cases R;rcases Θ.mp hu with rfl |hu
   .exact#[a,q,Z,b]
   .exact wj h c u hu
def uf{X:Cx}(k:X.A.in1.units+10 < cLine):fX X (compareOp .NotIn) (λx y H Q=>∃(a l:η) (p:aM) (c:tz aM) (f:tz V),x= .ref a/\y= .ref l/\H a=δ (.tup$ p.map sn)/\H l=δ (.lst f)/\bX iq H c f/\Q (.bl$ decide$ p∉c) H):=by
 intro g s B H x y v u Q I R m h;let⟨a,l,p,c,f,rfl,rfl,n,o,L,q⟩:=h;cases R;cases m;let⟨i,r,t,C⟩:=I.list (aH.of (K:=X.K) o);erw[WH (HZ H p) t.isList (λw z=>?_) #[.bl _,H,I,Z,?_]]
 .let⟨b,d,rfl,j⟩:=wj L r w (by simpa using z);rw[vt j,<- Cw];exact YS I 10 (aB$ d.map ar) (by show(aA$ d.map ar).dep+1<=10;rw[zr];decide) k (show(aB$ d.map ar).In from zE d) Z (u:=aB (p.map ar)) (show(aB$ p.map ar).In from zE p) Z (zi j) (zi n) _ _ Z Z
 .rw[show i.toArray.any (HZ H p)=i.any (HZ H p) by simp,pC L r];let e:(!decide (p∈c))=decide (p∉c):=by by_cases h:p∈c<;>simp [h]
  rwa[e]
def sY(h:bY k A):A.in1.units+10 < cLine:=by let:=h.un;show A.units+1+10 < cLine;omega
def tJ(L l:tz aM)(p:aM):fb L (l++[p])=fb L l++if p∈L then [] else [p]:=by rw[K6,Q9];split<;>rfl
inductive rR(k:tz V)(H:Hp)(Q:VK)(a:XK):Prop
 |mk(D:DF)(c b:η)(f:ρ)(g h:tz Int)(i j:Sk)(d e:Int)(_:k=[.ref c,.ref b])(_:lM H f g i d (.ref c))(_:i.ok μ)(_:i.dep<=15)(_:i.size<=60)(_:lM H f h j e (.ref b))(_:j.ok μ)(_:j.dep<=15)(_:j.size<=60)(_:Dt D f i)(_:Dt D f j)(_:∀(x:V) (kA tA fA dA:η) (H':Hp),M6 H' x kA tA fA dA (c7 j [] i.steps 0 [] 0)->H kA=θ->H tA=θ->H fA=θ->H dA=θ->aa H H'->Q x H')
theorem Jn:∀{b:Bool} {s:Sk},s.ok b->∀(p:aM) (os:tz aN) (m:Nat),(iJ s p os m).length<=s.size
 |true,.nil,_,_,_,_=>NY _
 |true,.st n H w r,o,p,os,m=>by
  show _<=w.size+r.size+1;cases h:fe os m n H w with
  |none=>rw[Jt h];let:=Jn o.2 p os m;omega
  |some j=>
   let⟨a,x,c,_⟩:=za h;rw[Ju h c,NP,NP];let d:=Jn o.1 (p++[(j:Int)]) (iH x.2.2) 0;let e:=Jn o.2 p os (j+1);let f:(if aQ n H x=μ then [p++[(j:Int)]] else ([]:tz aM)).length<=1:=by
    split
    .exact NQ 1
    .exact NY 1
   omega
 |false,.cl _ _ s _,o,p,os,m=>Jn (b:=μ) (s:=s) o p os m
 |false,.ask _,_,_,_,_ |false,.rd _ _,_,_,_,_ |false,.wr _ _,_,_,_,_=>NY _
def Ep{s:Sk}(o:s.ok b)(c:aM)(os:tz aN)(m:Nat)(p:aM)(k:Nat):(c7 s c os m p k).f.length<=s.size:=by
 induction s generalizing b c os m p k with
 |nil |ask _ |rd _ _ |wr _ _=>exact NY _
 |cl f q s a d=>cases b with
  |true=>exact o.elim
  |false=>exact d (b:=μ) o c os m p k
 |st n H w r I i=>
  cases b with
  |false=>exact o.elim
  |true=>
  show _<=w.size+r.size+1;cases h:fe os m n H w with
  |none=>rw[zW h];let e:=i (b:=μ) o.2 c os m p (k+1);show(cy (p++[(k:Int)]) w++_).length<=_;rw[NP,qJ o.1];omega
  |some j=>
   let⟨g,x,l,_⟩:=za h;rw[zu h l];let e:=i (b:=μ) o.2 c os (j+1) p (k+1);let t:=I (b:=ν) o.1 (c++[(j:Int)]) (iH x.2.2) 0 (p++[(k:Int)]) 0;let u:(one (c++[(j:Int)]) x (p++[(k:Int)]) n H w).f.length<=1:=by
    unfold one;split
    .split<;>exact NY 1
    .exact NQ 1
   show(([]++((one _ _ _ _ _ _).f++(c7 _ _ _ _ _ _).f))++(c7 _ _ _ _ _ _).f).length<=_;rw[Vt,NP,NP];omega
def EE:⇑k f d z17z (iB 0):=by
 let n:∀{v H Q E},¬iB 0 v H Q E:=by rintro v H Q E ⟨D,z,e,t,F,g,O,c,N,b,p,i,f,I,j,S,l,m,q,y,_,_,_,_,_,_,_,_,_,_,_,_,z,_⟩;omega
 exact#[λv H Q E h=>(n h).elim,λA o s H a u v Q E r x B C h=>(n h).elim]
theorem Hw(FB:ti K "_law_beside" um f a)(b:aE K a z17z [])(M:mg "_law_beside"=↑f)(c:‹1› j h ["_law_step"] nY "_law_found")(C:‹18› k i z14z (gg 17) "_law_all_in")(m:mg "enumerate"=θ)(d:mg "len"=θ)(e:mg "range"=θ)(g:mg "int"=θ):∀n,⇑(n+20) f a z17z (iB n)
 |0=>EE
 |n+1=>EO FB c C #[(Hw FB b M c C m d e g n),b,FB.kp,M] m d e g
def yb:aj ["_law_old","_law_new","_law_found_here","_law_gone"] z22z (ae BM):=bN
noncomputable def uy:hY:=#[.function,[(".0",.local),("_law_path",.local),("_law_found_here",.free)],ν,ν,[]]
def Ez:(["_law_path","_law_found_here"]:tz ρ).Nodup:=by decide+kernel
def DZ:ba ["_law_old","_law_new","_law_found_here","_law_gone"] (ae BM) uy ["_law_path","_law_found_here"] 1 [2]:=oM
def Fc(F:ti K "_law_laid" BM f fd)(cB:‹36› fB f0 z17z (iB 16) "_law_beside")(cW:‹18› fW f2 z14z (gg 17) "_law_all_in")(m0:mg "sorted"=θ):⇑37 f fd z22z rR:=by
 erw[F.ok yb λc0 A o1 s H vs Q E hr h=>?_]
 let⟨D,c,b,f,is,js,j,S,a0,a1,rfl,Y,O,h4,a3,h5,l,h6,a4,D0,D1,q⟩:=h;refine#[_,(jd (zc (i:=2) yb.nd Z (fR Z)$ ji$ ja (jE jb)$ ja (jE jb)$ ja (jE jb)$ ja (jE jb) jb)$ jd (jH$ cB.e hr.m$ ja (pv 0)$ ja (pv 1)$ ja (ji jb)$ ja (ji jb)$ ja (pv 2) jb)$ jd (@qN _ _ _ _ _ _ _ _ _ _ (3) (["_law_path","_law_found_here"]) (1) ([2]) _ _ _ _ yb.nd Z (ω Z) Z (zj$ cW.e hr.m$ ja (pv 0)$ ja (ji jb) jb) DZ (λ_ _ _ _ _=>(jw (i:=0) Ez Z$ ω Z)) (λ_ _ _ _ _=>(@KK _ _ _$ jD (uf$ sY hr) (pv 0) (jr (r:=cR K) (kN (K:=K) Z) (pv 1) jf (λ_ _=>Z)) Z)) (λ_ _ _ _ _=>(pv 0)) WP (by first |exact .inl Z |exact .inr Z) (by intro _;rfl))$ jg$ jo$ ji$ ja (jy$ pv 2)$ ja (jy$ pv 2)$ ja (jM XO Z m0 Tp$ ja (jy$ pv 2) jb)$ ja (pv 3) jb),?_];let b1:=aK;erw[ai λF1 M=>#[fc,λn W=>#[fc,λT U=>#[fc,λu I=>#[fc,λy N=>#[rY,λz nz=>M _ _ ?_]]]]]];let tk:T≠n:=λz=>by rw[z,jc]at U;cases U
 let ft:u≠T:=λz=>by rw[z,jc]at I;cases I
 let fk:u≠n:=λz=>by rw[z,jh tk.symm,jc]at I;cases I
 let df:y≠u:=λz=>by rw[z,jc]at N;cases N
 let dt:y≠T:=λz=>by rw[z,jh ft.symm,jc]at N;cases N
 let dk:y≠n:=λz=>by rw[z,jh fk.symm,jh tk.symm,jc]at N;cases N
 let n0:=kO (je (o:=.lst []) W) U;let n5:=kO ((je (o:=.lst []) W).trans$ je (o:=.lst []) U) I;let n6:=kO (((je (o:=.lst []) W).trans$ je (o:=.lst []) U).trans$ je (o:=.lst []) I) N;let s1:aa H (af (af (af (af (af H n$ .lst []) T$ .lst []) u$ .lst []) y$ .lst []) z$ .tup [.ref n,.ref T,.ref u,.ref y]):=((((je W).trans$ je U).trans$ je I).trans$ je N).trans (je nz);let L1:Lt (af (af (af (af (af H n$ .lst []) T$ .lst []) u$ .lst []) y$ .lst []) z$ .tup [.ref n,.ref T,.ref u,.ref y]) z n T u y .nil:=#[jc,#[[],aq (aq (aq (aq jc U) I) N) nz,Z],#[[],aq (aq (aq jc I) N) nz,Z],#[[],aq (aq jc N) nz,Z],#[[],aq jc nz,Z],#[tk.symm,fk.symm,dk.symm,ft.symm,dt.symm,df.symm],λ_ z=>nomatch z];generalize af (af (af (af (af H n$ .lst []) T$ .lst []) u$ .lst []) y$ .lst []) z (.tup [.ref n,.ref T,.ref u,.ref y])=H1 at s1 L1 ⊢;let t0:=qP l [] j.steps 0 [] 0 λo ho=>by let⟨i,hi⟩:=Tf ho;exact JP O hi
 rw[P7,<- zO O,ze O]at t0;let l3:=Jn l [] j.steps 0;let b0:(nE S [] j.steps 0 [] 0).tot<=1000:=by unfold nE Ly.tot;unfold Ly.tot at t0;dsimp only;omega
 erw[ai λF1 M=>#[_,Z,_,Z,fc,λpa n'=>#[fc,λpb n1=>#[_,Z,?_]]]];let s2:aa H1 (af (af H1 pa$ .tup []) pb$ .tup []):=(je n').trans (je n1);let S2:=s1.trans s2;refine#[D,z,n,T,u,y,pa,c,pb,b,[],[],f,is,js,j,S,a0,a1,.nil,Z,L1.same s2,aq jc n1,jc,WL,WL,qc Y$ aa.tm S2,O,h4,WM,qc h5$ aa.tm S2,l,WM,h6,WM,D0,D1,by rw[Ly.nil_app];omega,λH3 L3 b3=>M _ _ ?_];rw[Ly.nil_app]at L3;let S3:aa H H3:=λx o e=>b3 _ _ (jk e W) (jk e n0) (jk e n5) (jk e n6) (S2 _ _ e);let⟨xd,h7,l0⟩:=L3.dv;erw[ai λF1 M=>#[_,Z,fc,λpe a2=>?_]];let s4:aa H3 (af H3 pe$ .tup []):=je a2;refine#[pe,[],f,is,j,a0,.ref c,Z,jc,WL,qc Y$ aa.tm$ S3.trans s4,O,WM,WM,λal xa H5 a5 h0 V s5=>?_];let S5:=s4.trans s5;let l1:=V.len;rw[NO,ze O]at l1;refine#[al,Z,#[_,aH.of h0],?_];refine Qj (K:=K) (a:=al) (xs:=xa) WM (λi G Hx=>Hx=H5/\G.length<=i/\bX iq H5 (fb (iJ S [] j.steps 0) (((j.ws [] 0).map (·.1)).take i)) G) #[Z,NQ 0,Z] (λi G Hx h=>#[by rw[h.1];exact aH.of h0,h.2.1]) ?_ ?_
 .intro i x G Hx hx h;let⟨rfl,lz,B⟩:=h;let⟨p,hp,a,rfl,ha⟩:=V.at hx;let et:((j.ws [] 0).map (·.1)).take (i+1)=((j.ws [] 0).map (·.1)).take i++[p]:=by rw[OU,hp];rfl
  refine#[_,Z,ju (S5 _ _ L3.ins) Hu #[a,y,p,_,xd,Z,Z,ha,S5 _ _ h7,l0.mono cQ$ aa.tm S5,_,Z,?_]];rw[et,tJ];show if decide (p∉iJ S [] j.steps 0)=μ then _ else _;by_cases hm:p∈iJ S [] j.steps 0
  .rw[NW (λz=>z hm),N0 hm,Op];exact nL #[Z,WM,B]
  .rw[N4 hm,N7 hm];exact nM #[_,Z,Z,by rw[NP];show _+1<=_;omega,bX.app (bX.one #[a,Z,ha]) B]
 intro G H6 h R n2;let⟨rfl,_,B⟩:=h;let ew:fb (iJ S [] j.steps 0) (((j.ws [] 0).map (·.1)).take xa.length)=(c7 S [] j.steps 0 [] 0).d:=by
  let lw:=V.len;rw[lw,OH,zO O];let z:=XU (D:=D) (b:=μ) (s:=S) l (f:=f) (so:=j) (po:=[]) (pn:=[]) (m:=0) (k:=0) (L:=iJ S [] j.steps 0) O D0 D1 (λg is t a e=>by
   let z:=l;rw[e]at z;exact z.elim) (λz=>nomatch z) (λp _=>Tw)
  rw[z,P7]
 rw[ew]at B;erw[M _ _ ?_];let s7:aa H6 (af H6 R$ .lst G):=je n2;let e7:af H6 R (.lst G) R=δ (.lst G):=jc;generalize af H6 R (.lst G)=H7 at s7 e7 ⊢;let S7:=S5.trans s7;let X:=L3.same S7;let⟨xf,h8,C⟩:=X.fv;let C:bX iq H7 (c7 S [] j.steps 0 [] 0).f xf:=C;let l2:=C.len;let l4:=Ep l [] j.steps 0 [] 0;let⟨sr,sg⟩:=XV l [] j.steps 0 [] 0;refine(ju X.ins eY$ ju X.ins iy$ ju X.ins dU #[u,xf,(c7 S [] j.steps 0 [] 0).f,Z,aH.of h8,l2,WM,λi v p h1 h2=>?_,λi p q h1 h2=>Ck sr h1 h2,λsf J=>#[_,Z,rY,λtp n4=>?_]])
 .let⟨p',h3,h'⟩:=C.at h1;rw[h2]at h3;cases h3;exact#[h',Lc$ sg p$ Og h2]
 let s8:aa H7 (af (af H7 sf$ .lst xf) tp$ .tup [.ref n,.ref T,.ref sf,.ref R]):=(je J).trans (je n4);let L8:=X.same s8;let n7:=X.new J;let g0:H3 R=θ:=kO S5 n2;let n3:=L3.new g0;let gs:sf≠R:=(jk e7 J).symm;let⟨xk,hk,lk⟩:=L8.kv;let⟨xt,ht,lt⟩:=L8.tv;let t1:=aa.tm s8;erw[q _ n T sf R _ #[tp,Z,jc,#[xk,hk,lk],#[xt,ht,lt],#[xf,aq jc n4,C.mono cQ t1],#[G,s8 _ _ e7,(B.mono cQ$ aa.tm s7).mono cQ t1],#[tk.symm,n7.1.symm,n3.1.symm,n7.2.1.symm,n3.2.1.symm,gs],λ_ z=>nomatch z] W n0 (kO (S3.trans S7) J) (kO S3 g0) ((S3.trans S7).trans s8)]
abbrev rh:cc:=bQ 38
abbrev F8:cc:=bQ 83
theorem ZL:∀{b:Bool} {s:Sk},s.ok b->(gL s).In
 |true,.nil,_=>trivial
 |true,.st n h w r,o=>#[#[Z,zE h,ZL o.1,trivial],ZL o.2]
 |false,.ask _,_=>#[Z,Z,trivial]
 |false,.rd _ _,_ |false,.wr _ _,_=>#[Z,Z,Z,trivial]
 |false,.cl f i s a,o=>#[Z,#[Z,zE i,ZL (b:=μ) o,Z,trivial],trivial]
def CU{s:Sk}(o:s.ok μ):(At f i s a).In:=#[Z,zE i,ZL (b:=μ) o,Z,trivial]
def DV{s S:Sk}(o:s.ok μ)(O:S.ok μ)(e:At f i s a=At f i S d):s=S/\a=d:=by let e:Tr.cons (aL f) (.cons (aB$ i.map ar)$ .cons (.tp$ gL s)$ .cons (ar a) .nil)= .cons (aL f) (.cons (aB$ i.map ar)$ .cons (.tp$ gL S)$ .cons (ar d) .nil):=e;injection e with _ e;injection e with _ e;injection e with c e;injection e with A _;injection c with c;injection A with A;injection A with A;exact#[Kt (b:=μ) o O c,A]
def ZC{K:β}{a:η}{xs:tz V}{t:TT}{Q:tz V->Hp->Prop}(A:xs.length<=τ)(Pv:Nat->tz V->Hp->Prop)(n:Pv 0 [] H)
  (o:∀i Y h,Pv i Y h->aC K h a xs/\Y.length<=i) (q:∀i x Y h,xs[i]?=δ x->Pv i Y h->t (δ x::c) h λb d=>if b=μ then T (δ x::c) d λy r=>Pv (i+1) (Y++[y]) r else Pv (i+1) Y d) (s:∀Y h,Pv xs.length Y h->Q Y h):
  dY (Aa K a) 1 c (bp 0) t T Q H:=by
 refine#[λi m Y h=>m=xs.length - i/\i<=xs.length/\Pv i Y h,#[xs.length,WN,NY _,n],?_];intro i m Y h g;let⟨rfl,B,p⟩:=g;let⟨j,C⟩:=o i Y h p;by_cases f:i < xs.length
 .refine .inr #[#[xs,xs[i],j,NK f],WM,Pv$ i+1,λu d z=>#[xs.length - (i+1),WM,Z,f,z],λv d D k y=>?_];let⟨e,y⟩:=y;subst e;let⟨w,rfl⟩:=oQ k;exact#[#[[δ _],Z,Z],q i v Y d (y xs j) p]
 .let e:i=xs.length:=by omega
  subst e;exact .inl #[#[xs,j,NQ _],s Y h p]
def Ij(h:bY k A):A.units+100+1 < cLine:=by let:=h.un;omega
structure Hh(K:β):Prop where
 ii:kitOne K (.type "int") (.type "int")=δ μ
 ib:kitOne K (.type "int") (.type "bool")=δ ν
def Nj:Bool->Sk->tz aN
 |true,s=>s.steps
 |false,w=>iH w
def CM(y:Ly):Prop:=y.t=[]/\y.f=[]/\y.d=[]
theorem JT:∀{s s':Sk},s.ok μ->s'.ok μ->s.steps=s'.steps->s=s'
 | .nil,.nil,_,_,_=>rfl
 | .nil,.st _ _ _ _,_,_,e | .st _ _ _ _,.nil,_,_,e=>by cases e
 | .st n H w r,.st N h W R,o,O,e=>by let e:(n,H,w)::r.steps=(N,h,W)::R.steps:=e;injection e with E b;injection E with A a;injection a with a c;rw[A,a,c,JT o.2 O.2 b]
def Kx{a:Ly}(h:CM (a.app b)):CM a/\CM b:=by let⟨H,c,d⟩:=h;let⟨A,B⟩:=mT.mp H;let⟨e,f⟩:=mT.mp c;let⟨g,i⟩:=mT.mp d;exact#[#[A,e,g],B,f,i]
def XC(h:CM a)(k:CM b):CM (a.app b):=by
 let⟨H,c,e⟩:=h;let⟨g,i,j⟩:=k;refine#[?_,?_,?_]
 .show a.t++b.t=[];rw[H,g];rfl
 .show a.f++b.f=[];rw[c,i];rfl
 .show a.d++b.d=[];rw[e,j];rfl
theorem Jw:∀{b:Bool} {s:Sk},s.ok b->∀{po:aM} {os:tz aN} {m:Nat} {pn:aM} {k:Nat},Nj b s=os.drop m->CM (c7 s po os m pn k)
 |true,.nil,_,po,os,m,pn,k,e=>by let e:[]=os.drop m:=e;refine#[Z,Z,?_];show dW po os m os.length=[];unfold dW;rw[<- e,List.take_nil];rfl
 |true,.st n h w r,o,po,os,m,pn,k,e=>by
  let e:(n,h,w)::r.steps=os.drop m:=e;let H:os[m]?=δ (n,h,w):=by let:=O1 (λl=>l[0]?) e;simpa using this.symm
  let E:r.steps=os.drop (m+1):=by let:=O1 List.tail e;rw[List.tail_drop]at this;exact this
  let a:aQ n h (n,h,w)=μ:=N4 #[Z,Z];let c:fe os m n h w=δ m:=by unfold fe;rw[YT H,N0 a]
  rw[zu c H];refine XC (XC #[Z,Z,pH po os m] (XC ?_$ Jw (b:=ν) (s:=w) o.1 (m:=0) (show iH w=(iH w).drop 0 from Z)))$ Jw (b:=μ) (s:=r) o.2 E;unfold one;rw[N0 a,N0 Z];exact#[Z,Z,Z]
 |false,.cl _ _ s _,o,po,os,m,pn,k,e=>Jw (b:=μ) (s:=s) o e
 |false,.ask _,_,_,_,_,_,_,_ |false,.rd _ _,_,_,_,_,_,_,_ |false,.wr _ _,_,_,_,_,_,_,_=>#[Z,Z,Z]
theorem sh:∀{l:tz aN} {p:aM} {k:Nat},(eG l p k).map (·.1)=[]->l=[]
 | [],_,_,_=>rfl
 |s::r,p,k,h=>by rw[Jv]at h;cases h
theorem Jx{D:DF}:∀{b:Bool} {s:Sk},s.ok b->∀(f:ρ)(S:Sk)(p d:aM)(m k:Nat),S.ok μ->Dt D f S->Dt D f s->(∀g i t a,s= .cl g i t a->f=g)->(b=ν->(∀g i t a,s≠ .cl g i t a)->S= .nil)->CM (c7 s p S.steps m d k)->Nj b s=S.steps.drop m
 |true,.nil,_=>λf S p d m k _ _ _ _ _ h=>by let h:dW p S.steps m S.steps.length=[]:=h.2.2;unfold dW at h;rw[O0 (by rw[OE];exact NQ _)]at h;exact(sh h).symm
 |true,.st n B w r,o=>λf S p d m k c u l _ _ h=>by
  show(n,B,w)::r.steps=_;let nr:∀g i t a,r= .cl g i t a->f=g:=λg i t a e=>by let z:=o.2;rw[e]at z;exact z.elim
  cases v:fe S.steps m n B w with
  |none=>rw[zW v]at h;let z:=(Kx h).1.2.1;cases z
  |some j=>
   let⟨h0,x,q,hc⟩:=za v;let O:=JP c q;let⟨d1,d2⟩:=J2 u q;let kd:=Xn (s:=.nil) c u v q O l.1;let M:=yN o.1 u v q l.1;let⟨g,N,Q,e',R,T,U,V⟩:=pR O o.1 d2 l.2.1 kd M;rw[zu v q]at h;let⟨W,h3⟩:=Kx h;let⟨h1,H⟩:=Kx W;let⟨H,h4⟩:=Kx H;rw[e']at h4;let C:=Jx (D:=D) (b:=ν) (s:=w) o.1 _ _ _ _ _ _ Q R T U (λ_=>V) h4;let I:=Jx (D:=D) (b:=μ) (s:=r) o.2 _ _ _ _ _ _ c u l.2.2 nr (λz=>nomatch z) h3;let C:iH w=N.steps:=C;let I:r.steps=S.steps.drop (j+1):=I;let hj:j=m:=by let z:dW p S.steps m j=[]:=h1.2.2;let z2:=sh z;let F:=(ξ.mp q).1;let X:=O1 ot z2;rw[Oh,OE]at X;let X:min (j - m) (S.steps.length - m)=0:=X;omega
   subst hj;unfold one at H;by_cases F:aQ n B x=μ
   .rw[N0 F]at H;let⟨L,G⟩:=ZJ F;let dd:d9 x.2.2=d9 w:=by rw[d1,L,G,l.1]
    by_cases J:x.2.2.fnd=w.fnd
    .let Y:x.2.2=w:=by
      rcases(vF O o.1 dd).1 J with ⟨f',i0,s',a',s0,a0,E,e2,ea⟩ | ⟨E,_⟩
      .rw[<- e',E,e2]at C;let O:=O;let y:=o.1;rw[E]at O;rw[e2]at y;rw[E,e2,ea,JT (s:=s0) (s':=s') y O C]
      .exact E
     let⟨hi,ex⟩:=ξ.mp q;rw[<- O9 (h:=hi),ex,I];congr 1;let⟨x1,x2,x3⟩:=x;let L:x1=n:=L;let G:x2=B:=G;let Y:x3=w:=Y;rw[L,G,Y]
    .rw[N7 J]at H;let z:=H.1;cases z
   .rw[N7 F]at H;let z:=H.2.1;cases z
 |false,.cl g _ s _,o=>λf S p d m k c u l J _ h=>by
  let z:=J g _ s _ Z;subst z;exact Jx (b:=μ) (s:=s) o _ _ _ _ _ _ c u l (λg i t a e=>by
   rw[e]at o;exact o.elim) (λz=>nomatch z) h
 |false,.ask _,_ |false,.rd _ _,_ |false,.wr _ _,_=>λ_ _ _ _ _ _ _ _ _ _ A _=>by rw[A Z (λ_ _ _ _ z=>nomatch z)];show []=([]:tz aN).drop _;rw[RV]
theorem vN{call:oq}:∀(m M:Nat) {g:Gd} {L l K k:bf} {t T u U:Nat} {s:Sk} {a A:Int},lP call o p m g L t= .ok s a l T->lP c q p M g K u= .ok s A k U->a=A
 |0,_,_,_,_,_,_,_,_,_,_,_,_,_,h,_ |_+1,0,_,_,_,_,_,_,_,_,_,_,_,_,_,h=>by cases h
 |m+1,M+1,.give b,_,_,_,_,_,_,_,_,_,_,_,h,H=>by cases h;cases H;rfl
 |m+1,M+1,.go n v,_,_,_,_,_,_,_,_,_,_,_,h,H=>by let⟨x,w,y,z,r,e,B,rfl,E⟩:=Xw h;let⟨C,W,d,i,R,f,D,j,F⟩:=Xw H;rw[e]at f;cases f;cases j;exact vN m M E F
def BD{_L:bf}(h:ci p C 16 f i [] 0= .ok s a L t)(H:ci p c 16 f i [] 0= .ok s A _L T):a=A:=by
 let h:(match eO p f with |none=>OC.long |some b=>lP (ci p C 15) C b 62 (iT (uM b) (dm b.way.sets$ bq b.ps i) b.way.goal) [] 0)= .ok s a L t:=h;let H:(match eO p f with |none=>OC.long |some b=>lP (ci p c 15) c b 62 (iT (uM b) (dm b.way.sets$ bq b.ps i) b.way.goal) [] 0)= .ok s A _L T:=H;cases e:eO p f with
 |none=>rw[e]at h;cases h
 |some b=>rw[e]at h H;exact vN _ _ h H
def sP(B:pq H p f I c A U)(j:pq H p f I i l C):decide ((c7 i [] c.steps 0 [] 0).t.length+(c7 i [] c.steps 0 [] 0).f.length+(c7 i [] c.steps 0 [] 0).d.length=0)=fQ (.tp$ At f I c A) (.tp$ At f I i l):=by
 let n:∀g I t a,i= .cl g I t a->f=g:=λg I t a e=>by let z:=j.2.1;rw[e]at z;exact z.elim
 by_cases h:c=i
 .subst h;let⟨_,_,_,_,F,L,r⟩:=id B;let⟨_,_,_,_,G,_L,R⟩:=id j;let E:=BD r R;subst E;let⟨o,q,u⟩:=Jw (b:=μ) (s:=c) B.2.1 (po:=[]) (os:=c.steps) (m:=0) (pn:=[]) (k:=0) Z;rw[zI Z,o,q,u];rfl
 .rw[zh,NW]
  .intro z;let v:(c7 i [] c.steps 0 [] 0).t.length=0:=by omega
   let x:(c7 i [] c.steps 0 [] 0).f.length=0:=by omega
   let y:(c7 i [] c.steps 0 [] 0).d.length=0:=by omega
   let:=Jx (D:=D5 p) (b:=μ) (s:=i) j.2.1 _ _ _ _ _ _ B.2.1 B.dt j.dt n (λz=>nomatch z) #[ks.mp v,ks.mp x,ks.mp y];exact h (JT j.2.1 B.2.1 this).symm
  .intro z;injection z with z;exact h (DV B.2.1 j.2.1 z).1
inductive mQ(k:tz V)(H:Hp)(Q:VK)(a:XK):Prop
 |mk(D:DF)(c b:η)(f:ρ)(g h:tz Int)(i j:Sk)(d e:Int)(_:k=[.ref c,.ref b])(_:lM H f g i d (.ref c))(_:i.ok μ)(_:i.dep<=15)(_:i.size<=1000)(_:lM H f h j e (.ref b))(_:j.ok μ)(_:j.dep<=15)(_:j.size<=1000)(_:Dt D f i)(_:Dt D f j)(_:∀H',aa H H'->Q (.int (((c7 j [] i.steps 0 [] 0).t.length+(c7 j [] i.steps 0 [] 0).f.length+(c7 j [] i.steps 0 [] 0).d.length:Nat):Int)) H')
inductive rP(k:tz V)(H:Hp)(Q:VK)(a:XK):Prop
 |mk(d:tz eK)(f:ρ)(h:tz Int)(c b:η)(i j:Sk)(e g:Int)(_:k=[.ref c,.ref b])(_:pq H d f h i e (.ref c))(_:pq H d f h j g (.ref b))(_:∀H',aa H H'->Q (.bl μ) H')
def Gh:aj ["old","new"] ["old","new"] (ae rh):=bN
noncomputable def uu:hY:=#[.function,[(".0",.local),("row",.local),("len",.globalImplicit)],ν,ν,[]]
def Ey:(["row"]:tz ρ).Nodup:=by decide+kernel
def DY:ba ["old","new"] (ae rh) uu ["row"] 1 []:=oM
def A1(F:ti K "distance" rh f fd)(cL:‹71› fL f0 ["old","new"] mX "laid")(ml:mg "len"=θ)(ms:mg "sum"=θ):⇑72 f fd ["old","new"] mQ:=by
 erw[F.ok Gh λc0 A O s H vs Q E hr h=>?_]
 let⟨D,c,b,f,is,js,S,p,a0,a1,rfl,v,y,B,C,G,I,J,M,D0,D1,q⟩:=h;refine#[_,(jg$ jo$ jM (u5 Z) Z ms boot_sum$ ja (@zp _ _ _ _ _ _ _ (["row"]) (1) ([]) _ _ _ _ Z (qo$ jJ j8 (cL.e hr.m$ ja (pv 0)$ ja (pv 1) jb) (jI jf) jT) DY (λ_ _ _ _ _=>(jw (i:=0) Ey Z$ ω Z)) (λ_ _ _ _ _=>(@zM _)) (λ_ _ _ _ _=>(jM (sH (K:=K) Z) Z ml OD$ ja (pv 0) jb)) (by intro _;rfl)) jb),?_];let b0:=aK;refine#[_,Z,_,Z,D,c,b,f,is,js,S,p,a0,a1,Z,v,y,B,C,G,I,J,M,D0,D1,λx kA T N R H1 ld _ _ _ _ U=>?_];let⟨z,rfl,L⟩:=ld;let⟨X,ht,lt⟩:=L.tv;let⟨k,hf,lf⟩:=L.fv;let⟨o,hd,ld⟩:=L.dv;refine#[_,Z,z,_,Z,L.ins,λW H2 g r=>#[W,Z,#[_,aC.of g],?_]];let g:H2 W=δ (.tup [.ref T,.ref N,.ref R]):=g;let ns:[X.length,k.length,o.length].map (λ(n:Nat)=>sn (n:Int))=([(X.length:Int),(k.length:Int),(o.length:Int)]).map sn:=rfl;refine ZC (K:=K) (a:=W) (xs:=[.ref T,.ref N,.ref R]) hZ (λi u Y=>Y=H2/\u=(([X.length,k.length,o.length].map (λ(n:Nat)=>sn (n:Int))).take i)) #[Z,Z] (λi u Y h=>#[by rw[h.1];exact aC.of g,by rw[h.2,Oh];exact S0 _ _]) ?_ ?_
 .intro i x u Y j h;let⟨rfl,rfl⟩:=h
  match i,j with
  |0,j=>cases j;exact#[_,Z,T,X,Z,.inl (aH.of (r _ _ ht)),Z,Z]
  |1,j=>cases j;exact#[_,Z,N,k,Z,.inl (aH.of (r _ _ hf)),Z,Z]
  |2,j=>cases j;exact#[_,Z,R,o,Z,.inl (aH.of (r _ _ hd)),Z,Z]
  |i+3,j=>exact absurd j WN
 intro u H3 h l nl;let⟨rfl,rfl⟩:=h;refine#[l,[(X.length:Int),(k.length:Int),(o.length:Int)],Z,aH.of jc,?_];let e:([(X.length:Int),(k.length:Int),(o.length:Int)]).sum=(((c7 p [] S.steps 0 [] 0).t.length+(c7 p [] S.steps 0 [] 0).f.length+(c7 p [] S.steps 0 [] 0).d.length:Nat):Int):=by rw[<- lt.len,<- lf.len,<- ld.len];simp only[VM,List.sum_nil];omega
 rw[e];exact q _ ((U.trans r).trans$ je nl)
def xZ:aj ["_law_old","_law_new","_law_found_here","_law_due"] z22z (ae F8):=bN
def EX(F:ti K "_law_far" F8 f Y)(W:‹72› fD f0 ["old","new"] mQ "distance")(cL:‹37› fL f2 z22z rR "_law_laid")(N:Hh K)(o:mg "len"=θ)(mi:mg "int"=θ)(mb:mg "bool"=θ)(M:mg "isinstance"=θ):⇑73 f Y z22z rP:=by
 erw[F.ok xZ λc2 A O s H vs Q E r h=>?_]
 let⟨p,f,i,c,b,S,j,k,l,rfl,B,a,q⟩:=h;refine#[_,(jd (jA 2 xZ.nd$ W.e r.m$ ja (pv 0)$ ja (pv 1) jb)$ jd (jA 3 xZ.nd$ cL.e r.m$ ja (pv 0)$ ja (pv 1) jb)$ jd (jz (PW.pt$ XQ (xo$ YL$ jM J5 Z M V'$ ja (pv 2)$ ja (ZM (v:=.ty "int") Z mi UC Z) jb)$ KI$ YL$ jM J5 Z M V'$ ja (pv 2)$ ja (ZM (v:=.ty "bool") Z mb boot_bool Z) jb) (jg$ jo$ @wT _ _ _ _) jp)$ jg$ jo$ FD (z9 qh (pv 2) (jx jW (jx jW (jM jG Z o OD$ ja (jy$ pv 3) jb)$ jM jG Z o OD$ ja (jy$ pv 3) jb)$ jM jG Z o OD$ ja (jy$ pv 3) jb)$ aI _)$ FG$ z9 qh (z9 qh (pv 2) jf$ aI _) (z9 (KS (d:=100)$ Ij r) (pv 0) (pv 1)$ aI _)$ aI _),?_];let b2:=aK;let z0:=B.2.2.2.1;let z1:=a.2.2.2.1;erw[ai λT g=>#[_,Z,_,Z,D5 p,c,b,f,i,i,S,j,k,l,Z,B.1,B.2.1,B.2.2.1,WM,a.1,a.2.1,a.2.2.1,WM,B.dt,a.dt,λH1 G=>g _ _ ?_]];let C:=B.mono (aa.tm G);let n:=a.mono (aa.tm G);erw[ai λT g=>#[_,Z,_,Z,D5 p,c,b,f,i,i,S,j,k,l,Z,C.1,C.2.1,C.2.2.1,WM,n.1,n.2.1,n.2.2.1,WM,C.dt,n.dt,λx kA tA fA dA H2 ld _ _ _ _ g2=>g _ _ ?_]];let U:=sP B a;let⟨z,rfl,L⟩:=ld;let⟨X,ht,lt⟩:=L.tv;let⟨t,hf,lf⟩:=L.fv;let⟨u,hd,y⟩:=L.dv;rw[<- lt.len,<- lf.len,<- y.len]at U ⊢;let I:=G.trans g2;let D:=B.mono (aa.tm I);let J:=a.mono (aa.tm I);erw[ai λT g=>#[_,Z,_,.ty "int",_,.type "int",μ,Z,Z,.int _,N.ii,_,Z,aY Z #[_,Z,_,.ty "bool",_,.type "int",ν,Z,Z,.int _,N.ib,_,Z,aY Z$ g _ _ ?_]]];refine#[_,Z,ju L.ins iy #[tA,X,Z,.inl$ aH.of ht,ju L.ins dU #[fA,t,Z,.inl$ aH.of hf,_,_,Z,Z,ju L.ins Hu #[dA,u,Z,.inl$ aH.of hd,_,_,Z,Z,Z,μ,?_,nM #[_,Z,Z,_,Z,_,Z,_,_,DU D.2.1 D.2.2.1,CU D.2.1,CU J.2.1,CV D.1 D.2.1,CV J.1 J.2.1,Z,?_]]]]]
 .show V.bl (decide$ sn _=sn _)=_;rw[N4 (by congr 1)]
 .let e:decide (sn ((X.length+t.length+u.length:Nat):Int)=sn 0)=fQ (.tp$ At f i S k) (.tp$ At f i j l):=by
   rw[<- U];by_cases h:X.length+t.length+u.length=0
   .rw[N4 h,N4 (by rw[h];rfl)]
   .rw[NW h,NW λz=>h (by injection z with z;omega)]
  rw[e,N4 Z];exact q _ I
def LA(H:Hp)(p:tz eK)(f:ρ)(i:tz Int)(x:V):Prop:=∃(c:η) (s:Sk) (a:Int),x= .ref c/\pq H p f i s a (.ref c)
theorem LA.mono(k:am H d)(h:LA H p f i x):LA d p f i x:=let #[c,s,a,e,b]:=h;#[c,s,a,e,b.mono k]
def rF:aj ["_law_script","_law_books_here","_law_old","_law_new"] ["_law_script"] (ae oY):=bN
def EZ(F:ti K "law" oY f fd)(cB:‹66› fB f0 ["_law_script"] (rL K) "_law_books")(cF:‹73› fF f2 z22z rP "_law_far"):⇑74 f fd ["_law_script"] (n8 K):=by
 erw[F.ok rF λc2 A O s H vs Q E R h=>?_]
 let⟨a,T,rfl,hS,g,q⟩:=h;refine#[_,(jd (jA 1 rF.nd$ cB.e R.m$ ja (pv 0) jb)$ jd (j6 Ot Z (zj$ pv 1) (jw (i:=2) rF.nd Z$ ω Z)$ jg$ j6 Ot Z (zj$ pv 1) (jw (i:=3) rF.nd Z$ ω Z)$ jg$ jz (xo$ YL$ cF.e R.m$ ja (pv 2)$ ja (pv 3) jb) (jg$ jo$ @wT _ _ _ _) jp)$ jg$ jo$ @wT _ _ _ _),?_];erw[ai λF1 j=>#[_,Z,a,T,Z,hS,g,λl r bk k1=>j _ _ ?_]];obtain⟨Y,p,f,I,t,hy⟩:∃(Y:tz V) (p:tz eK) (f:ρ) (I:tz Int),r l=δ (.lst Y)/\∀y∈Y,LA r p f I y:=by
  rcases bk with h | ⟨p,f,I,C,u,s0,s1,v,B,h,D,G⟩
  .exact#[_,[],"",[],h,λ_ z=>(nomatch z)]
  .refine#[_,p,f,I,h,λy hy=>?_];rcases Θ.mp hy with rfl |hy
   .exact#[C,s0,v,Z,D]
   .cases υ.mp hy;exact#[u,s1,B,Z,G]
 erw[ai λF1 j=>dD λJ n=>#[_,Z,l,Z,#[_,aH.of t],n _ _ ?_]];erw[zH (K:=K) (a:=l) (xs:=Y) (λ_ b d=>(∃W o,b=[↑a,↑l,W,o])/\aa r d) #[#[_,_,Z],aa.refl _] (λk b d _ h=>aH.of (h.2 _ _ t)) ?_ (λb d h=>j _ _ (q _))];intro E rt k x b H2 L fE U c h;obtain⟨⟨W,o,rfl⟩,X⟩:=h;erw[c ?_];let L:=hy x (Og L);show Cq _ _ _ E [↑a,↑l,δ x,o] H2;erw[dD λJ n=>#[_,Z,l,Z,#[_,aH.of$ X _ _ t],n _ _ ?_]];erw[zH (K:=K) (a:=l) (xs:=Y) (λ_ b d=>(∃o,b=[↑a,↑l,δ x,o])/\aa r d) #[#[_,Z],X] (λk b d _ h=>aH.of (h.2 _ _ t)) ?_ (λb d h=>fE _ _ #[?_,h.2])]
 .intro E2 r0 k2 y b H3 M N U c h;obtain⟨⟨o,rfl⟩,S⟩:=h;erw[c ?_];let⟨C,z0,v,rfl,D⟩:=L.mono (aa.tm S);let⟨u,z1,B,rfl,G⟩:=(hy y$ Og M).mono (aa.tm S);show gX _ _ _ E2 [↑a,↑l,↑C,↑u] H3;exact me λG1 yT yF=>#[_,Z,_,Z,p,f,I,C,u,z0,z1,v,B,Z,D,G,λH4 s4=>#[_,Z,yF _$ N _ _ #[#[_,Z],S.trans s4]]]
 .obtain⟨⟨o,rfl⟩,_⟩:=h;exact#[_,_,Z]
@[elab_as_elim] theorem ND{P:tz ζ->Prop}(u:tz ζ)(h:u.length=1)(q:∀a,P [a]):P u:=by
 cases u with
 |nil=>cases h
 |cons a r=>
  cases r with
  |nil=>exact q a
  |cons _ _=>cases h
def _root_._L.aO.b1{K:β}{st:cc}{p:tz ρ}(F:aO K x q st f g)(h:∀(kV d b:ζ) (A:tT η) (c C a:ζ),bindArgs (rx x q (bZ st) (bJ st) (ae st) .none kV d b A c C) #[[a],[]]=pure (p.zip [a]):=by intros;rfl)(e:↥(p.length=1)):aE K g p []:=F.binds λkV d b A c C u H=>ND u (H.trans e) λa=>h kV d b A c C a
@[elab_as_elim] theorem NE{P:tz ζ->Prop}(u:tz ζ)(h:u.length=2)(q:∀a b,P [a,b]):P u:=by
 cases u with
 |nil=>cases h
 |cons a r=>
  cases r with
  |nil=>cases h
  |cons b R=>
   cases R with
   |nil=>exact q a b
   |cons _ _=>cases h
def _root_._L.aO.b2{K:β}{st:cc}{p:tz ρ}(F:aO K x q st f i)(h:∀(kV d g:ζ) (A:tT η) (c C a b:ζ),bindArgs (rx x q (bZ st) (bJ st) (ae st) .none kV d g A c C) #[[a,b],[]]=pure (p.zip [a,b]):=by intros;rfl)(e:↥(p.length=2)):aE K i p []:=F.binds λkV d g A c C u H=>NE u (H.trans e) λa b=>h kV d g A c C a b
@[elab_as_elim] theorem NF{P:tz ζ->Prop}(u:tz ζ)(h:u.length=3)(q:∀a b c,P [a,b,c]):P u:=by
 cases u with
 |nil=>cases h
 |cons a r=>
  cases r with
  |nil=>cases h
  |cons b R=>
   cases R with
   |nil=>cases h
   |cons c d=>
    cases d with
    |nil=>exact q a b c
    |cons _ _=>cases h
def _root_._L.aO.b3{K:β}{st:cc}{p:tz ρ}(F:aO K x q st f j)(h:∀(kV d g:ζ) (A:tT η) (C i a b c:ζ),bindArgs (rx x q (bZ st) (bJ st) (ae st) .none kV d g A C i) #[[a,b,c],[]]=pure (p.zip [a,b,c]):=by intros;rfl)(e:↥(p.length=3)):aE K j p []:=F.binds λkV d g A C i u H=>NF u (H.trans e) λa b c=>h kV d g A C i a b c
@[elab_as_elim] theorem NG{P:tz ζ->Prop}(u:tz ζ)(h:u.length=4)(q:∀a b c d,P [a,b,c,d]):P u:=by
 cases u with
 |nil=>cases h
 |cons a r=>
  cases r with
  |nil=>cases h
  |cons b R=>
   cases R with
   |nil=>cases h
   |cons c e=>
    cases e with
    |nil=>cases h
    |cons d f=>
     cases f with
     |nil=>exact q a b c d
     |cons _ _=>cases h
def _root_._L.aO.b4{K:β}{st:cc}{p:tz ρ}(F:aO K x q st f j)(h:∀(kV D g:ζ) (A:tT η) (C i a b c d:ζ),bindArgs (rx x q (bZ st) (bJ st) (ae st) .none kV D g A C i) #[[a,b,c,d],[]]=pure (p.zip [a,b,c,d]):=by intros;rfl)(e:↥(p.length=4)):aE K j p []:=F.binds λkV D g A C i u H=>NG u (H.trans e) λa b c d=>h kV D g A C i a b c d
@[elab_as_elim] theorem NH{P:tz ζ->Prop}(u:tz ζ)(h:u.length=5)(q:∀a b c d e,P [a,b,c,d,e]):P u:=by
 cases u with
 |nil=>cases h
 |cons a r=>
  cases r with
  |nil=>cases h
  |cons b R=>
   cases R with
   |nil=>cases h
   |cons c f=>
    cases f with
    |nil=>cases h
    |cons d g=>
     cases g with
     |nil=>cases h
     |cons e i=>
      cases i with
      |nil=>exact q a b c d e
      |cons _ _=>cases h
def _root_._L.aO.b5{K:β}{st:cc}{p:tz ρ}(F:aO K x q st f j)(h:∀(kV D g:ζ) (A:tT η) (C i a b c d e:ζ),bindArgs (rx x q (bZ st) (bJ st) (ae st) .none kV D g A C i) #[[a,b,c,d,e],[]]=pure (p.zip [a,b,c,d,e]):=by intros;rfl)(e:↥(p.length=5)):aE K j p []:=F.binds λkV D g A C i u H=>NH u (H.trans e) λa b c d e=>h kV D g A C i a b c d e
def eI(K:β)(p q:ρ)(st:cc)(f:η):Prop:=∃(o:ζ) (O:tT η) (kV d a:ζ) (A:tT η) (c C:ζ) (s:Array (tT ζ)),K.lookup f=δ #[o,O,.func$ rx p q (bZ st) (bJ st) (ae st) .none kV d a A c C,s]/\codeIn K c q=μ/\iu K (.ref f)=μ
def cf(K:β)(p:ρ)(st:cc)(f:η):Prop:=nsIn K Φ p=δ (↑f)/\eI K p p st f
section
variable {K:β}{py q:ρ}{st:cc}{f:η}{oc:ζ}{od:tT η}{kV dc pm:ζ}{an:tT η}{cd ct:ζ}{sl:Array (tT ζ)}
def Nc(l:K.lookup f=δ #[oc,od,.func$ rx py q (bZ st) (bJ st) (ae st) .none kV dc pm an cd ct,sl])(c:codeIn K cd q=μ)(k:iu K (.ref f)=μ):eI K py q st f:=#[_,_,_,_,_,_,_,_,_,l,c,k]
def MS(a:nsIn K Φ py=δ (↑f))(l:K.lookup f=δ #[oc,od,.func$ rx py py (bZ st) (bJ st) (ae st) .none kV dc pm an cd ct,sl])(c:codeIn K cd py=μ)(k:iu K (.ref f)=μ):cf K py st f:=#[a,Nc l c k]
def eI.go(h:eI K py q st f):∃F,aO K py q st f F/\iu K (.ref f)=μ:=by let⟨oc,od,kV,dc,pm,an,cd,ct,sl,l,c,k⟩:=h;exact#[_,vJ l c k,k]
theorem cf.go{mg:ρ->tT ζ}(t:cf K py st f)(X:K.In h)(G:h.Ns Φ mg):∃a,aO K py py st f a/\iu K (.ref f)=μ/\mg py=↑f:=by let⟨a,F,k⟩:=t.2.go;exact#[a,F,k,Tx X G t.1]
end
def DP{l:rm}{w:bF}{K:β}{mg:ρ->tT ζ}(X:K.In h)(G:h.Ns Φ mg)(p0:mg "law"=↑fa)
                 
  (t4:cf K "names_in" fj f0)
  (t5:cf K "own_terms" Gb p1)
  (t6:cf K "used_behind_terms" xV fUb)
  (t7:cf K "used_ahead_of" BS f1)
  (t8:cf K "used_ahead" BR fUa)
  (t':cf K "bodies_in" FQ p2)
  (p3:cf K "many_cuts" xN p4)
  (p5:cf K "deed_of" xF p6)
  (p9:cf K "place_of_give" mK f2)
  (p':cf K "place_of_set" xP q0)
  (q1:cf K "part_made" xO q2)
  (q3:cf K "made" rj q4)
  (q5:cf K "_law_box" FT q6)
  (Af:cf K "_law_take" xU q7)
  (q':cf K "_law_number" mG r0)
  (r1:cf K "_law_names" iW r2)
  (r3:cf K "_law_term" rA r4)
  (r5:cf K "_law_spot" xQ r6)
  (r7:cf K "_law_statement" xR fSt)
  (r8:cf K "_law_body" rf r9)
  (r':cf K "_law_any" FP s0)
  (eV:cf K "_law_op" MD s1)
  (s2:cf K "_law_inner" oW s3)
  (s4:cf K "_law_looped" iK s5)
  (s6:cf K "_law_ticking" gG s7)
  (s8:cf K "_law_busy" xA s9)
  (s':cf K "_law_case" rg u0)
  (u1:cf K "joined" mz u2)
  (u3:cf K "worth" mM u4)
  (u8:cf K "named" mE u9)
  (u':cf K "begun" oR v1)
  (v2:cf K "deeper" mw v3)
  (v4:cf K "part_of" mJ v5)
  (v7:cf K "cut_at" oV v8)
  (v9:cf K "held_at" my v')
  (w0:cf K "worths" iM w1)
  (w2:cf K "deed_at" mv w3)
  (w4:cf K "found_in" gF f3)
  (w5:cf K "end_of" mx w6)
  (w7:cf K "first_of" iV w8)
  (w9:cf K "onward" mH w')
  (x0:cf K "run" Ge x1)
  (x2:cf K "whats_at" BV x3)
  (x4:cf K "whats_in" BW x5)
  (x7:cf K "paths_at" BP x8)
  (x9:cf K "deed_in" FY x')
  (y0:cf K "like_from" xM y1)
  (y2:cf K "lender_from" xK y3)
  (y4:cf K "taken_from" Gf y5)
  (y':cf K "laid" xJ z8)
  (z':cf K "_law_cells" oU A')
  (B1:cf K "_law_changes" FX B2)
  (B3:cf K "_law_found" Ga B4)
  (B5:cf K "_law_book" oX B6)
  (B7:cf K "_law_changed" FV B8)
  (B9:cf K "_law_books" FR B')
  (t0:cf K "distance" rh f4)
  (C2:cf K "_law_all_in" BE C')
  (D0:cf K "_law_beside" um D1)
  (D':cf K "_law_laid" BM E1)
  (E2:cf K "_law_far" F8 E3)
  (tZ:cf K "law" oY fZ)
  (E4:nsIn K Φ "NOUGHT"=δ (↑y)) (E5:K.lookup y=δ #[.type "tuple",odN,.seq (ε [.str "num" rN0,.int 0 rN1]) nN,slN]) (E6:nsIn K Φ "Cutting"=δ (↑i)) (v0:nsIn K Φ "TOP"=δ (δ$ .int 1000000000000000000 tTop)) (vD:nsIn K Φ "DEEPEST"=δ (δ$ .int 15 tD)) (vR:nsIn K Φ "BookRun"=δ (↑C)) (vT:nsIn K Φ "Turns"=δ (↑c0)) (vL:nsIn K Φ "Laying"=δ (↑j)) (vB:nsIn K Φ "BookError"=δ (↑xB))
  (E7:nsIn K Φ "TooLong"=δ (↑A))
  (E8:nsIn K Φ "TooDeep"=δ (↑B))
  (E9:K.lookup A=δ #[ocxL,odxL,.cls cdxL,slxL]) (t1:typeIn K (.ref A)=δ (.type "type")) (mbxL:mroIn K A (.type "BaseException")=δ μ) (k3:iu K (.ref A)=μ)
  (E':K.lookup B=δ #[ocxD,odxD,.cls cdxD,slxD]) (t2:typeIn K (.ref B)=δ (.type "type")) (mbxD:mroIn K B (.type "BaseException")=δ μ) (k4:iu K (.ref B)=μ)
  (H0:K.lookup xB=δ #[ocxB,odxB,.cls cdxB,slxB]) (t3:typeIn K (.ref xB)=δ (.type "type")) (m9:mroIn K xB (.type "BaseException")=δ μ) (H1:mroIn K A (.ref xB)=δ μ) (H2:mroIn K B (.ref xB)=δ μ)
  (e0:excIn K A su "ValueError.__new__"=μ) (e1:excIn K B su "ValueError.__new__"=μ)
  (X':uT K A) (b8:uT K B)
  (rk:RK K C) (H3:Mk K C f5) (tm:DI K c0 "__init__" f6) (m':bu K C "take_turn" f7) (b9:bu K C "number_in" f9) (m4:bu K C "chain_of" H4) (b':bu K C "what_of" H5)
  (lk:LK K j) (H6:Mk K j f') (m5:bu K j "lay" c1) (c2:bu K j "drop" c3) (c4:bu K j "lay_step" H7)
  (ck:CK K i) (mk:Mk K i c5) (c6:bu K i "place_of_body" c9) (H8:bu K i "place_of" H9) (H':bu K i "place_of_cut" I1) (I2:bu K i "ways_of" I3)
  (I4:eI K "__init__" "Cutting.__init__" xH c5)
  (I5:eI K "place_of_body" "Cutting.place_of_body" BJ c9)
  (I6:eI K "place_of" "Cutting.place_of" BQ H9)
  (I7:eI K "place_of_cut" "Cutting.place_of_cut" BK I1)
  (I':eI K "ways_of" "Cutting.ways_of" BU I3)
  (J0:eI K "__init__" "Turns.__init__" xS f6)
  (K1:eI K "take_turn" "Turns.take_turn" oZ f7)
  (K3:eI K "number_in" "Turns.number_in" xT f9)
  (K4:eI K "__init__" "BookRun.__init__" xz f5)
  (K5:eI K "chain_of" "BookRun.chain_of" BF H4)
  (K':eI K "what_of" "BookRun.what_of" BG H5)
  (L0:eI K "__init__" "Laying.__init__" xI f')
  (L1:eI K "lay" "Laying.lay" BO c1)
  (L3:eI K "drop" "Laying.drop" xG c3)
  (L5:eI K "lay_step" "Laying.lay_step" BN H7)
  (z3:nsIn K Φ "len"=δ θ)
  (z4:nsIn K Φ "int"=δ θ)
  (R:nsIn K Φ "range"=δ θ)
  (z0:nsIn K Φ "list"=δ θ)
  (u:nsIn K Φ "reversed"=δ θ)
  (S:nsIn K Φ "tuple"=δ θ)
  (D:nsIn K Φ "sorted"=δ θ)
  (z5:nsIn K Φ "set"=δ θ)
  (z6:nsIn K Φ "zip"=δ θ)
  (z1:nsIn K Φ "dict"=δ θ)
  (t:nsIn K Φ "enumerate"=δ θ)
  (z7:nsIn K Φ "sum"=δ θ)
  (z2:nsIn K Φ "bool"=δ θ)
  (p:nsIn K Φ "isinstance"=δ θ)
  (ik:Hh K)
  :∃fd:fJ,(∀(s:ι) (v:ζ),BindsTo s fd #[[v],[]] [("_law_script",v)])/\∀base:cJ,K.In base->base.Ns Φ mg->ah l.prog w K mg base aF 74 fa fd ["_law_script"] (n8 K):=by
 let e:=p0.symm.trans (Tx X G tZ.1);cases e;let⟨L6,x,T,M⟩:=t4.go X G;let⟨dOw,c',L7,L8⟩:=t5.go X G;let⟨dUb,d0,kUb,L'⟩:=t6.go X G;let⟨dUo,U,k5,m6⟩:=t7.go X G;let⟨dUa,d1,kUa,N1⟩:=t8.go X G;let⟨dBi,d2,N2,N3⟩:=t'.go X G;let⟨dMc,F5,k6,d3⟩:=p3.go X G;let⟨dDe,d4,N',O'⟩:=p5.go X G;let⟨dPg,V,k7,d5⟩:=p9.go X G;let⟨dPs,d6,P1,P4⟩:=p'.go X G;let⟨dPm,d7,Q',R1⟩:=q1.go X G;let⟨dMa,d8,R5,R7⟩:=q3.go X G;let⟨dBx,d',R',S1⟩:=q5.go X G;let⟨dTk,F,k,m⟩:=Af.go X G;let⟨dNu,E,Y,m0⟩:=q'.go X G;let⟨dNm,F6,k8,e2⟩:=r1.go X G;let⟨dTm,F0,k9,m7⟩:=r3.go X G;let⟨dPo,e3,S2,S3⟩:=r5.go X G;let⟨dSt,e4,kSt,S4⟩:=r7.go X G;let⟨dBo,F7,S5,e5⟩:=r8.go X G;let⟨dAn,e6,S6,S7⟩:=r'.go X G;let⟨dOp,I,k0,m1⟩:=eV.go X G;let⟨dIn,e7,S8,S9⟩:=s2.go X G;let⟨dLo,e8,S',T0⟩:=s4.go X G;let⟨dTi,e9,T1,T2⟩:=s6.go X G;let⟨dBu,e',T9,T'⟩:=s8.go X G;let⟨dCa,g0,W0,W1⟩:=s'.go X G;let⟨dJo,g1,W2,W3⟩:=u1.go X G;let⟨dWo,J,k2,m2⟩:=u3.go X G;let⟨dNd,F9,k',g2⟩:=u8.go X G;let⟨dBe,g4,W4,W5⟩:=u'.go X G;let⟨dDp,g5,W6,W7⟩:=v2.go X G;let⟨dPf,g6,W8,W9⟩:=v4.go X G;let⟨dCu,L,k1,m3⟩:=v7.go X G;let⟨dHe,a0,g7,g8⟩:=v9.go X G;let⟨dWs,g',W',Y'⟩:=w0.go X G;let⟨dDa,h0,Z',mDa⟩:=w2.go X G;let⟨dFo,F1,h1,h2⟩:=w4.go X G;let⟨dEn,a1,h3,h4⟩:=w5.go X G;let⟨dFi,h5,kFi,mFi⟩:=w7.go X G;let⟨dOn,h6,kOn,mOn⟩:=w9.go X G;let⟨dRu,h7,kRu,mRu⟩:=x0.go X G;let⟨dWa,F2,kWa,h8⟩:=x2.go X G;let⟨dWi,a2,kWi,h'⟩:=x4.go X G;let⟨dPa,a3,i0,i1⟩:=x7.go X G;let⟨dDi,a4,i2,i3⟩:=x9.go X G;let⟨dLk,i4,kLk,mLk⟩:=y0.go X G;let⟨dLd,i5,kLd,mLd⟩:=y2.go X G;let⟨dTn,i',kTn,mTn⟩:=y4.go X G;let⟨dLa,j0,kLa,mLa⟩:=y'.go X G;let⟨dCe,j1,kCe,mCe⟩:=z'.go X G;let⟨dCg,j2,kCg,mCg⟩:=B1.go X G;let⟨dLf,j3,kLf,mLf⟩:=B3.go X G;let⟨dLb,j4,kLb,mLb⟩:=B5.go X G;let⟨dLc,j5,kLc,mLc⟩:=B7.go X G;let⟨dBk,j',kBk,mBk⟩:=B9.go X G;let⟨dDi2,F4,l0,l1⟩:=t0.go X G;let⟨dAl,F3,l2,m8⟩:=C2.go X G;let⟨dBs,a5,kBs,l3⟩:=D0.go X G;let⟨dLl,l4,kLl,mLl⟩:=D'.go X G;let⟨dFr,l5,kFr,mFr⟩:=E2.go X G;let⟨dmI,l6,kmI⟩:=I4.go;let⟨dmB,a',kmB⟩:=I5.go;let⟨dmO,l8,kmO⟩:=I6.go;let⟨dmC,l',kmC⟩:=I7.go;let⟨dmW,n2,kmW⟩:=I'.go;let⟨dTI,n3,kTI⟩:=J0.go;let⟨dTT,n4,kTT⟩:=K1.go;let⟨dTN,n5,kTN⟩:=K3.go;let⟨dRI,n6,kRI⟩:=K4.go;let⟨dRC,b0,kRC⟩:=K5.go;let⟨dRW,n7,kRW⟩:=K'.go;let⟨dLI,n',kLI⟩:=L0.go;let⟨dLL,b7,kLL⟩:=L1.go;let⟨dLD,o1,kLD⟩:=L3.go;let⟨dLS,o2,kLS⟩:=L5.go;let⟨ocZ,odZ,kVZ,dcZ,pmZ,anZ,cdZ,ctZ,slZ,lZ,cZ,kZ⟩:=tZ.2;let FZ:=vJ (st:=oY) lZ cZ kZ;let c:=Pz X G z3;let o:=Pz X G z4;let a:=Pz X G R;let O:=Pz X G z0;let d:=Pz X G u;let N:=Pz X G S;let f:=Pz X G D;let Q:=Pz X G z5;let n0:=Pz X G z6;let q:=Pz X G z1;let b:=Pz X G t;let o3:=Pz X G z7;let n1:=Pz X G z2;let r:=Pz X G p;let o4:oH K y:=λH=>.inr #[_,_,_,E5,Z,Z,cj,(.cons #[_,Z] (.cons #[_,Z] .nil))];refine#[rx "law" "law" (bZ oY) (bJ oY) (ae oY) .none kVZ dcZ pmZ anZ cdZ ctZ,λs v=>.of_eq Z,λbase _ _=>?_];generalize l.prog=P;let g:⇑1 q7 _ _ a7:=Bh F;let GBx:⇑1 q6 _ _ (rM K):=ES d' c o;let G0:⇑2 r0 _ _ iD:=tX E #[g,F.b2,k,m];let G4:⇑2 r2 _ _ gO:=wI F6 g F.b2 k m a;let G5:⇑6 r4 _ _ (dq 4):=DG (P:=P) (w:=w) (base:=base) F0 F0.b3 m7 #[g,F.b2,k,m] #[G0,E.b1,Y,m0] c 4;let GPo:⇑7 r6 _ _ lD:=Bg e3 #[g,F.b2,k,m] #[G5,F0.b3,k9,m7];let SS:=Le (P:=P) (w:=w) (base:=base) e4 F7 #[g,F.b2,k,m] #[G5,F0.b3,k9,m7] #[GPo,e3.b2,S2,S3] e4.b5 S4 F7.b5 e5 c N a;let GBo:⇑21 r9 _ _ (ig 6):=(SS 6).2;let GAn:⇑22 s0 _ _ rK:=EM e6 #[g,F.b2,k,m] #[G4,F6.b2,k8,e2] #[GBo,F7.b5,S5,e5] c a N o;let G1:⇑2 s1 _ _ n9:=IA I #[g,F.b2,k,m];let GIn:⇑3 s3 _ _ (dF 2):=wF e7 #[g,F.b2,k,m] #[G1,I.b3,k0,m1];let GLo:⇑3 s5 _ _ (dF 1):=tV e8 #[g,F.b2,k,m] #[G1,I.b3,k0,m1] o N;let GTi:⇑3 s7 _ _ (dF 1):=Zy e9 #[g,F.b2,k,m] #[G1,I.b3,k0,m1] o N;let GBu:⇑4 s9 _ _ mO:=AY e' #[g,F.b2,k,m] #[G1,I.b3,k0,m1] #[G4,F6.b2,k8,e2] #[GLo,e8.b4,S',T0] #[GTi,e9.b4,T1,T2] #[GIn,e7.b4,S8,S9];let GCa:⇑23 u0 _ _ mP:=AZ g0 #[g,F.b2,k,m] #[G0,E.b1,Y,m0] #[GBu,e'.b1,T9,T'] #[GAn,e6.b3,S6,S7] c N;let NS:=Dm (P:=P) (w:=w) (base:=base) x x.b1 M Q f;let G6:⇑7 f0 _ _ (dG 6):=NS 6;let GNc:⇑7 f0 _ _ (rS K):=Fe (fN:=f0) (fdN:=L6) x #[NS 5,x.b1,T,M] Q f;let GOw:⇑1 p1 _ _ oe:=Ff c';let US:=Lv (P:=P) (w:=w) (base:=base) d1 d0 U d1.b2 N1 d0.b2 L' U.b2 m6 #[GOw,c'.b1,L7,L8] #[G6,x.b1,T,M] O Q f d;let GUo:⇑31 f1 _ _ (gU 7):=(US 7).2;let GUz:⇑10 f1 _ _ (gU 0):=(US 0).2;let GBi:⇑1 p2 _ _ nV:=EQ d2;let G9:⇑2 p4 _ _ ij:=A8 F5 #[GBi,d2.b1,N2,N3] O;let GDe:⇑1 p6 _ _ i8:=A0 d4;let GPg:⇑8 f2 _ _ gR:=wJ V #[G6,x.b1,T,M];let GPc:⇑8 f2 _ _ (rV K):=Fh V #[GNc,x.b1,T,M];let GPs:⇑11 q0 _ _ lv:=Bf d6 #[GUz,U.b2,k5,m6];let GmB:⇑63 c9 _ _ (og i 8):=Ng (P:=P) (w:=w) (base:=base) ck a' l8 l' n2 a'.b3 c6 l8.b3 H8 l'.b3 H' n2.b4 I2 #[G9,F5.b1,k6,d3] #[GUo,U.b2,k5,m6] #[GDe,d4.b1,N',O'] #[GPg,V.b1,k7,d5] #[GPs,d6.b2,P1,P4] c N d 8 (NQ _);let GmI:⇑3 c5 _ _ (rQ i):=EY l6 ck #[G9,F5.b1,k6,d3];let GPm:⇑64 q2 _ _ (nq K y):=Bc d7 ck mk GmI l6.b2 (Tx X G E6) (Tx X G E4) o4 GmB a'.b3 c6 #[GPc,V.b1,k7,d5] N d;let GMa:⇑65 q4 _ _ (nh K y):=A7 d8 #[GPm,d7.b3,Q',R1] N;let GJo:⇑1 u2 _ _ lr:=tU g1 (Tx X G v0);let G3:⇑7 u4 _ _ (db K 6):=yY (P:=P) (w:=w) (base:=base) J J.b2 m2 #[GJo,g1.b3,W2,W3] 6;let G2:⇑1 v8 _ _ (i7 y):=wC L;let G':⇑2 v' _ _ (lh y):=tS a0 #[G2,L.b2,k1,m3] q n0;let GWs:⇑8 w1 _ _ gV:=ua g' #[G3,J.b2,k2,m2] N;let GDa:⇑9 w3 _ _ (gM y):=tP h0 #[G',a0.b3,g7,g8] #[G2,L.b2,k1,m3] #[G3,J.b2,k2,m2] #[GWs,g'.b2,W',Y'];let GFo:⇑1 f3 _ _ fu:=wE F1;let o5:⇑8 w6 _ _ (nX y):=wD a1 #[G2,L.b2,k1,m3] #[G3,J.b2,k2,m2] N o4;let GFi:⇑9 w8 _ _ (gN y):=ZA h5 #[o5,a1.b3,h3,h4] q n0;let GOn:⇑9 w' _ _ (yw y):=tY h6 #[G2,L.b2,k1,m3] #[G',a0.b3,g7,g8] #[GFo,F1.b1,h1,h2] #[o5,a1.b3,h3,h4];let hxL:clsIn K A≠θ:=by
  unfold clsIn;rw[E9];intro z;cases z
 let hxD:clsIn K B≠θ:=by unfold clsIn;rw[E'];intro z;cases z
 let mxL:=Tx X G E7;let mxD:=Tx X G E8;let xmL:XM K mg "TooLong" A:=#[e0,k3,X',t1,mxL];let xmD:XM K mg "TooDeep" B:=#[e1,k4,b8,t2,mxD];let o6:⇑1 u9 _ _ ni:=tW F9;let GPf:⇑2 v5 _ _ ni:=t9 g6 #[o6,F9.b2,k',g2];let GBe:⇑2 v1 _ _ iO:=wA g4 #[o6,F9.b2,k',g2] c;let GDp:ah P w K mg base (gr P w) 1 v3 _ _ (fq B):=tQ g5 (Tx X G vD) xmD;let GTI:⇑1 f6 _ _ (ny C):=Bj n3 rk;let GTT:ah P w K mg base (gr P w) 1 f7 _ _ (lE C A):=wK n4 rk xmL;let GTN:⇑1 f9 _ _ (gQ C):=Bk n5 rk;let GRI:⇑2 f5 _ _ (nj C):=Be n6 rk GTI n3.b3 (Tx X G vT) tm;let GRC:=Hv (P:=P) (w:=w) (base:=base) rk b0 b0.b4 m4 n7 n7.b3 b' #[GFi,h5.b2,kFi,mFi] #[GDa,h0.b3,Z',mDa] #[GOn,h6.b2,kOn,mOn] GTT n4.b1 m' GTN n5.b2 b9 (GDp) g5.b1 W6 W7 #[GPf,g6.b2,W8,W9] N 16;let GRu:ah P w K mg base (gr P w) 45 x1 _ _ (rW A B y):=Fi h7 rk H3 GRI n6.b4 (Tx X G vR) #[GBe,g4.b3,W4,W5] GRC b0.b4 m4;let GCe:⇑3 A' _ _ iP:=wB j1 #[g,F.b2,k,m] #[G0,E.b1,Y,m0] a;let GCg:⇑3 B2 _ _ rO:=EV j2 #[g,F.b2,k,m] #[G0,E.b1,Y,m0] a;let hxB:clsIn K xB≠θ:=by unfold clsIn;rw[H0];intro z;cases z
 let mxB:=Tx X G vB;let GWi:⇑34 x5 _ _ (lG 16):=Lz (P:=P) (w:=w) (base:=base) F2 F2.b2 h8 a2 a2.b2 h' b 16;let GWa:⇑35 x3 _ _ (oi 17):=wN (n:=16) F2 #[GWi,a2.b2,kWi,h'];let o7:⇑36 x8 _ _ (lX 17):=Fg (n:=16) a3 #[GWa,F2.b2,kWa,h8];let o8:⇑1 x' _ _ nW:=EW a4;let GFz:⇑1 f3 _ _ lg:=tR F1;let GLk:⇑1 y1 _ _ mZ:=A5 i4 c a;let GLd:⇑2 y3 _ _ mY:=A4 i5 #[o8,a4.b1,i2,i3] c a;let GTn:⇑3 y5 _ _ oh:=Fk i' #[GLk,i4.b3,kLk,mLk] #[GLd,i5.b3,kLd,mLd] #[o8,a4.b1,i2,i3];let GLI:⇑1 f' _ _ (mV j):=A6 n' lk;let GLD:⇑37 c3 _ _ (i9 j):=A2 o1 lk #[o7,a3.b2,i0,i1] a;let GLL:⇑70 c1 _ _ (lW j 16):=Io (P:=P) (w:=w) (base:=base) lk b7 b7.b5 m5 o2 o2.b5 c4 #[GTn,i'.b3,kTn,mTn] #[o7,a3.b2,i0,i1] GLD o1.b5 c2 #[GFz,F1.b1,h1,h2] b c 16;let GLa:⇑71 z8 _ _ mX:=A3 j0 lk H6 GLI n'.b1 (Tx X G vL) GLL b7.b5 m5;let GLb:⇑46 B6 _ _ (mW y):=wH j4 (GRu) h7.b5 kRu mRu #[mxB,hxB,t3,m9,H1,H2] q;let GLc:⇑4 B8 _ _ rN:=EU j5 #[GCg,j2.b2,kCg,mCg] #[g,F.b2,k,m] q;let GBk:⇑66 B' _ _ (rL K):=ER j' #[GBx,d'.b2,R',S1] #[GCa,g0.b1,W0,W1] #[GMa,d8.b1,R5,R7] #[GCe,j1.b1,kCe,mCe] #[GLb,j4.b4,kLb,mLb] #[GLc,j5.b2,kLc,mLc];let GLf:⇑1 B4 _ _ nY:=Fb j3;let o9:⇑72 f4 _ _ mQ:=A1 F4 #[GLa,j0.b2,kLa,mLa] c o3;let o':⇑18 C' _ _ (gg 17):=Ht (P:=P) (w:=w) (base:=base) F3 F3.b2 m8 b 17;let GBs:⇑36 D1 _ _ (iB 16):=Hw (P:=P) (w:=w) (base:=base) a5 a5.b5 l3 #[GLf,j3.b1,kLf,mLf] #[o',F3.b2,l2,m8] b c a o 16;let GLl:⇑37 E1 _ _ rR:=Fc l4 #[GBs,a5.b5,kBs,l3] #[o',F3.b2,l2,m8] f;let GFr:⇑73 E3 _ _ rP:=EX l5 #[o9,F4.b2,l0,l1] #[GLl,l4.b2,kLl,mLl] ik c o n1 r;exact EZ FZ #[GBk,j'.b1,kBk,mBk] #[GFr,l5.b2,kFr,mFr]
def MU{l:rm}{Y:bF->cJ->Prop}{d:DefRec}{K:Params->β}(e:l.most=δ 63)(H:d.params.defaults=[])
  (g:∀(w:bF) (h:cJ),Y w h->(K w.params).In h)
  (F:∀(w:bF) (mg:ρ->tT ζ) (b:η) (h:cJ),(K w.params).In h->h.Ns Φ mg->mg d.name=↑b->
   ∃c:fJ,(∀(s:ι) (u:ζ),BindsTo s c #[[u],[]] [("_law_script",u)])/\∀base:cJ,(K w.params).In base->base.Ns Φ mg->ah l.prog w (K w.params) mg base aF 74 b c ["_law_script"] (n8$ K w.params)):
  PySem.W.WalkO q L m Y l.row.toRowW d [] (λf v=>PySem.call f v):=
 _L.Cz (n:=63) (k:=74) (x:="_law_script") (CX:=λ_=>aF) (sp:=λw=>n8 (K w.params)) e WL H #[Z,WL,WL] g F (λ_ _ a N i _ j=>#[a,N,Z,j,i,λ_=>Z]) λ_ _ _ _ _ z=>z
end _K
structure PySem.W.Fast:Prop where(tw15144043617194005343 tw13995949440219846087 tw1340822827070098932 tw5130412140428663361 tw13968542021026406844 tw5214466095109718041 tw8016417991671922448 tw4070884078752290262 tw17481157953444192753 tw53283357540096658 tw8420220403800365053 tw2074853162723954749 tw13843667374393172450 tw11880281594774026853 tw17033901004828384651 tw9338905997014718825 tw10287658087481282367 tw10407242940402536487 tw9113463471125080254 tw3039843005617371803 tw4816849408949706851 tw12308118266866758120 tw13756616101877587024 tw9689333117416806371 tw9134509989395775523 tw14910667259182484120 tw3162437904909562109 tw4643316581037639454 tw7980853829038300932 tw6747672289219487588 tw15689529142672488303 tw10256171741549431049 tw7488245624547171962 tw17676541995350344909 tw9355842443853146541 tw13234263225787816185 tw2562373305394569739 tw18034107278349851169 tw4650591263404443442 tw12097802166038614555 tw3276631469485781822 tw16472181918933468096 tw6606706450180515312 tw2382977927047770066 tw2325282474948759371 tw10634775491767555580 tw10592867478437835020 tw11197327868666500209 tw4258545594217384844 tw16644719471399256467 tw8127359460635847175 tw15602614210677414463 tw285961657284251006 tw5284126841571028008 tw16283200874584214891 tw15869484367656291615 tw2136323971188526166 tw18109332145069290949 tw7795884647775882744 tw9703903821505210167 tw7444210515672911850 tw9861110595101100055 tw8189527102375604148 tw14545569077178772187 tw14394211124650530863 tw17843221217635357467 tw13583544736165638470 tw12505756981928733398 tw4772624067367329328 tw8944996966285585365 tw16892467693190606177 tw16212053370070930543 tw798309583741735592 tw8100953170489456720 tw7863836305325086247 tw6383520884411524035 tw9679067312093392284 tw13348941514548653901 tw4650833457078642835 tw2269506773584123356 tw7708549938939598578 tw18392334396097030055 tw10446498999624583544 tw5075926601401910962 tw8027364191804288426 tw9455055578721726840 tw7981458224002378880 tw8321588026296303903 tw12759208686292424487 tw11660769851809144595 tw1166191223143261479 tw6855393893487177813 tw15911517109138293281 tw16521329659144240957 tw14591876585889466195 tw4615314880134889619 tw2753961800314585690 tw15710418722087402991 tw9521437036505803785 tw14157934447168977178 tw14079324183198706866 tw16421543610606774635 tw477464215434491217 tw1986923058845053806 tw4080785354501284385 tw81247163846131104 tw9229871726407195225 tw7502415342832627854 tw14874334775906646501 tw18241101788483378684 tw6897138549366921208 tw1258221614686493364 tw12074212498016665620 tw13283348431129713554 tw1389737031490595037 tw9058997265647173222 tw14179814922594740903 tw766213903926673986 tw890070135093556725 tw8039290201947816991 tw13182454365191519524 tw16792623765756033778 tw9858272598147260704 tw8909369575309161138 tw6972769689777951908 tw4217737495501736681 tw15157036125430181759 tw12806510962865013061 tw9718897890036008245 tw508706917979509260 tw13134935264829868324 tw13022835834864664249 tw15901727627661987205 tw10440621703471720681 tw5366169191907608067 tw12793146015528084603 tw17322942404528475541 tw13613165445550569141 tw7707005917239672110 tw480772552409758799 tw8076644494225355138 tw16429459927110456110 tw8241781304776902268 tw11135879462785379869 tw129527532689210279 tw6531859273932443863 tw1402598499888485856 tw16674602918714304965 tw10926523714961439862 tw6692820513435192490 tw9600417470412654083 tw11237729096716874454 tw8783228540732945770 tw14462666347466326664 tw5857970327589205590 tw3696086095629488121 tw14023167330449939165 tw17635726536503823944 tw16972444788311175808 tw9929294814133082936 tw2870509554759413774 tw5581659646263352105 tw10824002267373930863 tw13753940734262561939 tw1270567166053475492 tw1969030199387471670 tw13810588457356480003 tw13418683898831783121 tw1035956826308606824 tw6933658792976379679 tw3837648245052846651 tw6208628756807597560 tw11701670083985989809 tw12354489453099129092 tw11901360858081173575 tw7231728763586566459 tw18031762361169230445 tw4483322349331320416 tw12512252207413847298 tw5518255460376098153 tw12139646834882954575 tw15117144451680100181 tw17785527390014120503 tw12247319805995961079 tw2833324892763353751 tw8349458013396543363 tw3660479745797435921 tw11576001837846287381 tw14190436600725592414 tw8254121033140033315 tw6475424259461076603 tw9727781095969296081 tw4845447448385990572 tw266768036958632031 tw11575803891080815564 tw1230776270731627297 tw17475370661342528554 tw4727986792577221735 tw9031203979660639314 tw3509993292612253155 tw16335065179549209724 tw6459317914300974316 tw18053714534026429232 tw8981455084410942000 tw8127667124909708441 tw1145755379163177278 tw17968969714278889831 tw10346538364944866116 tw6039130116356353541 tw14919463999189527621 tw6653884993953685653 tw9278795428072408666 tw2894912019686185434 tw3183276347604798865 tw11300247172494909764 tw18426796183362066794 tw7566082832496066997 tw15251326402279466314 tw1499130818206279596 tw14260642853584959735 tw9462420838549872632 tw9745174592231582884 tw6098584953057239595 tw4839341650719682510 tw15929735098511876706 tw1866036662830417759 tw13647035584445027298 tw2258951222932692175 tw5360514035497973153 tw16869497328736450426 tw12198011692974371917 tw4089197311197267082 tw10482572095755765105 tw13684439550638117803 tw17341023295049539834 tw14392142566659853524 tw1600032685985994615 tw3716413368926780219 tw10393436360183463281 tw14817014089873675855 tw3255031023379365883 tw5373778244888884577 tw13799015671564541244 tw12415587088340310751 tw15981733213942863593 tw568680650393996475 tw11345621532400362444 tw5657330033878573664 tw299930080486772867 tw5366893024180755066 tw1283270741339903433 tw6412932580950020680 tw12758024276061684073 tw9133666065825353847 tw7530455097349443066 tw8229200520644001778 tw3915592236429208497 tw7301865033318789477 tw1477784845214023492 tw10882600095117489002 tw10099643923235114193 tw14033477682016362430 tw9552355581237815149 tw15060432026687305196 tw10401510522225833914 tw10900061229706159351 tw3463075034214160051 tw4340199556710042993 tw3262716066930554007 tw382068715735962780 tw14152041158614332937 tw5352346106121257183 tw9226815128407440203 tw10246661292072631405 tw4855698117785255750 tw16930380320592971078 tw17287798278190570438 tw12385562152057023471 tw6087348763703488335 tw13251110780582874001 tw4675337483334838643 tw9632914535599167875 tw3819907492310775365 tw3682950388972420102 tw15650165735633196187 tw2070505639367064971 tw8165054456177524191 tw6276436113292543440 tw2014939166143281851 tw708281091768312278 tw5780184281242708324 tw10266684775962927821 tw8053987868926087223 tw8241714124494031845 tw14068952659338686953 tw13201821487024823317 tw4363862679495059452 tw1634657240167806306 tw10382583170062470755 tw18283729168008195747 tw766199345909603023 tw7829005107551265117 tw9371487725135461538 tw18076600321546619667 tw4088730256571970148 tw10710101250922949794 tw9530914623970156182 tw928067198064897770 tw16091604672783876529 tw2581597427845678475 tw15448032011466171823 tw7045342801219350187 tw7915782245011691993 tw11908312191817445874 tw12532475252257617754 tw10254404287138138714 tw11055179786717863527 tw17179159072493877956 tw11349099055674739121 tw13523131985588500717 tw1460783442455174306 tw6812909141040421848 tw15298053839966172247 tw3156851672091837872 tw8421331097644975466 tw3502336724545232879 tw16295466968315173704 tw2252277029526873611 tw11291690503775140848 tw5687869431331691271 tw9976275978980327265 tw15743506587808442623 tw3045764672525166080 tw17395073028056279460 tw4604525181850890576 tw674880776362641644 tw17157038585956986763 tw11174936219846284035 tw12088290525789339066 tw15315852537426320336 tw13455011396176641715 tw7246402549605171596 tw16100945934574069031 tw3291469905010080731 tw10080361861129173227 tw15113008764724192111 tw18192967181649920381 tw16827496585720100843 tw3587428375895444440 tw18423106413197511439 tw5188446742233615343 tw10694625594234451053 tw2747697172234843001 tw2133225990058153449 tw10197294673131167436 tw6083886838618308238 tw15326916163157106504 tw9970007483269459573 tw15737215803597103675 tw4975503824949342677 tw1065710376742446661 tw4061387743322389799 tw14429601133223071494 tw16277111472682986424 tw11877507992643812167 tw13694215382461209032 tw16320499604267999849 tw15487897494341435324 tw3457016938521094053 tw15982702663800909200 tw5878764189200249629 tw4375853993327154074 tw5505857860114187945 tw10451992752616889826 tw3624163239597367721 tw282720186959510687 tw16532146904730162047 tw6247624002050642271 tw2773216354236154712 tw13536789958115965491 tw5888026520862706372 tw4055685767903838885 tw475594360900641120:True)
open PySem PySem.W PyProof.Rows PySem.W.X
def _K.Lx {q : ψ} {loose : tz PySem.Str} {XP : (PySem.Str → tT ζ) → cJ → Prop} {K : Params → β} {as : tz η} {n t : Nat} {r : RowW} {d : DefRec} {kwd : tz (PySem.Str × PySem.Expr)} {run : ζ → tz ζ → Sem ζ}
    (e : ∀ P, as = (K P).map (·.1)) (h : WalkO q loose XP (InK K) r d kwd run) : WalkX q loose XP (obsZ as) (valZ K n t) r d kwd run :=
  fun w s₀ s₁ mg mb G Y a o pm cd doc dV kV h1 h2 h3 h4 h5 h6 args vals as' L => h w s₀ s₁ mg mb G (InK.keeps w _ _ (z_facts e Y).2.1 L.keeps) a o pm cd doc dV kV h1 h2 h3 h4 h5 h6 args vals as'
set_option maxRecDepth 100000 in
set_option maxHeartbeats 0 in
theorem PySem.Challenge.cw_againbook_k36_distance_holds : PySem.Challenge.rw_againbook_k36_distance.Holds := by
  w_on; o_law; z_head; (case hw => w_witness2)
  refine _K.Lx (fun _ => by rfl)$ _K.MU (l := PySem.Challenge.rw_againbook_k36_distance) rfl rfl (fun w h Y => Y) ?F
  case F =>
    intro w mg fa h KX G hmg
    apply _K.DP KX G hmg
    iterate 62 (apply _K.MS;iterate 4 k_is)
    iterate 24 k_is
    iterate 2 k_exc
    iterate 2 (constructor<;>k_is)
    erw[⟨⟨?_,?_,?_,?_⟩,?_,?_,?_,?_,?_⟩];iterate 4 k_is
    iterate 5 (unfold _L.be;k_is)
    iterate 2 (constructor;iterate 4 k_is)
    iterate 4 (constructor;iterate 3 k_is)
    erw[⟨⟨?_,?_,?_,?_⟩,?_,?_,?_,?_⟩];iterate 4 k_is
    iterate 4 (unfold _L.be;k_is)
    constructor;iterate 4 k_is
    iterate 3 (constructor;iterate 3 k_is)
    erw[⟨⟨?_,?_,?_,?_⟩,?_,?_⟩];iterate 4 k_is
    iterate 2 (unfold _L.be;k_is)
    constructor;iterate 4 k_is
    iterate 4 (constructor;iterate 3 k_is)
    iterate 15 (apply _K.Nc;iterate 3 k_is)
    iterate 14 k_is
    constructor;iterate 2 kit_is
