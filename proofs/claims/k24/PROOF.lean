import PyProof.Rows.All
import Wide.All
import OpenK.AllK
import Wide.FinOn
import Lean
import PyProof.EqAt
import PyProof.EqKinds
import PyProof.TupleCall
import PySem.Challenge.RW_againbook_k24_runs_refused
set_option Elab.async false
set_option linter.all false
set_option maxRecDepth 100000
set_option genSizeOf false
set_option compiler.extract_closed false
set_option bootstrap.genMatcherCode false
open Option renaming some->δ,none->ζ,map_eq_some_iff->em,isSome_iff_exists->kz
open PySem renaming Addr->ε,Value->η,Shared->θ,wpAny->ξ,Str->π,sizeLine->τ,model->υ,Program->ψ,starEach->Θ,mainGlobals->Ξ,FuncData->Φ,World->bU,Around->cJ,Stmt->da,Expr->dr,Heap->ef,strKind->el,Builtin->eK,backTo->eT,codeAny->fv,Obj->gm,Scope->hJ,holding->mL,sizeLine->mU,Env->tf
open List renaming toArray->ι,mem_singleton->ρ,getElem?_eq_some_iff->χ,mem_cons->Ψ,mem_append->γ,mem_map->bS,lookup->fz,mem_append_right->ir,range->kr,replicate->ks,mem_iff_getElem->kv,getElem?_eq_getElem->lq,mem_append_left->mS,nodup_cons->mT,all_eq_true->ov,mem_filter->pw,cons->ry
open Bool renaming false->μ,true->ν,eq_false_iff->kc
open PySem.Value renaming ref->ω,none->β,type->gb,str->mu,int->qL,bool->ra
open Or renaming inl->Δ,inr->hL
open PySem.W renaming Frag->Ω,keepIn->fx,methodObj->rb,takerIn->rs,OpenLaw->rx,fnOf->rz
open PySem.Builtin.SmallTypes renaming nextOf->ao,ownedTupleIsFree->cc,ownedTupleHandOut->nz
open Array renaming getElem?_eq_some_iff->bF,toList->oS
open Prod renaming fst->dg
open PySem.Builtin.Tuple renaming tupleExact->ey,tupleItemsOf->ri
open PySem.Builtin.List renaming listSameRef->eE,listTooLong->ge,listExtendWith->hY,listLengthHint->ly,listSubscript?->rm,listAllItems->ro
open PySem.Heap renaming SameBut->fy,ExtBut->lx
open PySem.Obj renaming mapFields->fJ,mapSeq->ib,putSet->nI
open PySem.Builtin.Slice renaming slicePlaces->ic,sliceAdjust->mN,sliceApplied->rc
open PySem.F renaming store_ValueError->kw,slot_zip_getattribute->mF,called_tuple->pz
local macro_rules|`(tactic|erw[$t:term])=>`(tactic|refine $t)
local macro_rules|`(tactic|let $d:letDecl)=>`(tactic|have $d:letDecl)
local macro_rules|`(↑$a)=>`(some (.ref $a))
local macro_rules|`(tactic|let ⟨$x,*⟩:=$t)=>do{let y←x.getElems.mapM fun|`($i:ident)=>`(Lean.Parser.Tactic.rcasesPatLo|$i:ident)|_=>`(Lean.Parser.Tactic.rcasesPatLo|_);`(tactic|obtain ⟨$y,*⟩:=$t)}
def pC:0≤mU:=by decide
def fg:1≤mU:=by decide
def bg:2≤mU:=by decide
def eJ:3≤mU:=by decide
def wE:4≤mU:=by decide
set_option maxHeartbeats 4000000
open PySem.W (keepIn Frag nsIn kitOne fnOf mg_of codeIn findIn mroIn isFn mg_none_of kia_one typeIn emptyDict clsIn instObj hasDictIn kitAny specialIn callWith_K excIn lookIn plainGet notCls tailIn)
noncomputable section
def LO{p:Prop}(h:p:=by decide):p:=h
def LN{p:Prop}(h:p:=by omega):p:=h
def LM{p:Prop}(h:p:=by simp):p:=h
def LL{p:Prop}(h:p:=by decide +kernel):p:=h
def LK{p:Prop}(h:p:=by rfl):p:=h
def Z{α:Sort u}{a:α}:a=a:=rfl
def Wa{p:Prop}(h:p:=by first|decide|rfl):p:=h
def Wb{p:Prop}(h:p:=by first |exact .inl Z |exact .inr Z |assumption):p:=h
local macro_rules|`(↥$p)=>`(autoParam $p Wa._auto_1)
open PySem renaming wpAny_bind->Ms,wpAny_pure->Mu,wpAny_holding->MW,wpAny_field->M3,wpAny_callSpecial?_slot->M',wpAny_newObj_type->Na,wpAny_call_entry->Nf,wpAny_setField->Nj,wpAny_Call_Name_kw->No,builtinLookup_eq_fast->Np,wpAny_seqItems->Nt,wpAny_mono->Ny,codeAny_builtin->NO,boot_len->NQ,typeLookup_type->NT,mem_of_lookup->NW,wpAny_specialOf->N0,wpAny_isInstance->N8,wpAny_attempt->N9,codeAny_mono->Oa,isSubtype_type->Ob,wpAny_setState_of->Oc,wpAny_rule->Oe,wpAny_typeOf->Ol,wpAny_standAt->Oy,plainId_quiet->Oz,wpAny_setField_rec->OK,wpAny_passesOwn->OL,wpAny_askSetting->OR,wpAny_setEntries_of->OV,wpAny_execs_nil->O0,wpAny_call->O1,sizeLine_eq->O3,wpAny_pyIter_list->O6,isSubtype_stop->O8,entryFor_of_tree->Pe,wpAny_loadPart->PH,tupleKind_room_in1->PJ,wpAny_truthy_bool->P9,wpAny_of_eq->P',fits_of_scanBound->Ra,wpAny_comprehension_free->Rb,wpAny_pyNext_list_item->Rt,wpAny_updateSeq->Rv,codeAny_of_tree->Rx,wpAny_runValue->RG,wpAny_fieldsOf->RI,entryFor_alias->RL,codeAny_call_builtin->RM,wpAny_onRaise->RT,call_meets->RX,wpAny_sequenceKey->Se,wpAny_pyIter_slot->Sf,plainObj_wpAny_Assign_Attribute->So,wpAny_execs_cons->SG,noFill_tuple_add->SH,wpAny_newTuple->Tp,wpAny_newFunctionEnv_cells->Tq,wpAny_listPart->Ts,wpAny_bindName->Tt,seq_tuple_add->TK,seqIndex_neg->T4,concat_meets->T5,codeAny_compStart_list->T6,wpAny_pyNext_list_end->Ue,wpAny_pyIter_listiter->Uf,wpAny_isTrue_Compare1->Ug,codeAny_call_function->Uh,wpAny_updateSeq_pair->Up,wpAny_newFunctionEnv->Uq,wpAny_loadName_local->Ur,wpAny_letGo->Us,seqIndex_of->Ut,codeAny_extend_loopS->Uu,wpAny_loadName_cell->UA,wpAny_pyIter_tuple->UL,wpAny_load->UM,wpAny_Name->UN,typeIs_str->UO,slot_listiter_next->UP,wpAny_storeSet_of->UV,wpAny_loadPart_at->UW,wpAny_assign_Name->UX,slot_list_setitem->UY,wpAny_lookBehind->U3,pastItsLine_dict->U4,merged_length_le->U5,wpAny_Expr_any->VA,refuseLoop_ref->VC,callType_codes->VD
open PySem.Heap renaming get?_push_of_some->Mt,lt_size->My,get?_push_size->MD,get?_update_other->MP,get?_update_self->M8,size_push->Nc,get?_update_ne->TQ
open List renaming length_map->Mv,getElem?_eq_getElem->Mw,length_append->Mz,size_toArray->ME,mem_append_right->MF,getElem?_map->MK,mem_of_getElem?->ML,mem_cons_self->MM,not_mem_nil->MO,mem_cons_of_mem->MX,length_cons->MZ,map_append->M0,length_take->M1,mem_append_left->Nb,mem_of_mem_take->Nh,take_of_length_le->Nq,mem_cons->Nv,map_cons->Nw,take_length->NC,lookup_cons->ND,getElem?_eq_none->NG,map_map->NJ,find?_cons->NN,take_succ->NY,getElem?_append_right->NZ,getElem_mem->N4,getElem?_set_ne->N7,getElem?_set_self->Od,length_drop->Og,length_singleton->On,getElem?_append_left->Oq,take_sublist->Ot,take_add_one->Ou,prefix_append->OD,forIn_cons->OF,getElem?_reverse->OH,getD_eq_getElem?_getD->OM,mem_append->OS,length_nil->OT,length_replicate->O4,length_filter_le->O5,map_take->O9,of_mem_zip->Pd,length_reverse->Pf,forIn_nil->Pp,reverse_cons->Pu,append_assoc->Pw,append_cancel_right->Py,any_cons->Pz,nodup_cons->Ri,length_set->Rj,append_nil->Rk,take_take->Rq,nodup_nil->Rr,mem_of_mem_drop->Rs,mem_map_of_mem->Rz,map_congr_left->RA,filterMap_cons->RB,mem_singleton->RD,filter_append->RE,length_range->RP,eraseIdx_eq_take_drop_succ->RS,map_reverse->RW,take_append_of_le_length->R0,length_zip->Sa,length_eraseIdx_of_lt->Su,drop_zero->Sv,mem_or_eq_of_mem_set->SJ,mem_of_find?_eq_some->SK,getElem?_zip_eq_some->SM,drop_eq_getElem_cons->SN,map_drop->SX,length_erase_of_mem->SY,all_cons->Ta,getElem?_replicate->Tc,append_cancel_left->Td,map_nil->Th,length_pos_of_mem->Ti,getElem_cons_drop->Tj,take_append_drop->Tw,mem_erase_of_ne->TJ,map_inj_right->TX,forIn_toArray->TY,getElem?_inj->T7,any_eq_false->Ua,zipIdx_cons->Uj,append_inj'->Uk,any_eq_true->Ul,all_eq_true->Um,zipIdx_nil->Uw,prefix_rfl->Ux,mem_filter->Uy,zip_map'->UT,le_trans->UU,map_set->U1
open Nat renaming le_refl->Mx,ne_of_lt->MG,zero_le->MH,lt_of_lt_of_le->MN,le_trans->MT,lt_irrefl->Nk,ne_of_gt->Nz,succ_le_succ->NF,le_succ->NM,lt_succ_self->NV,lt_of_le_of_lt->N5,le_add_right->Oh,lt_succ_of_lt->Ov,min_eq_left->OG,le_of_lt->ON,not_lt_zero->OU,zero_add->Pm,sub_self->Pn,le_of_not_lt->PZ,lt_or_ge->Rg,le_of_eq->Rh,min_le_left->Ro,lt_of_lt_of_eq->RN,sub_zero->RQ,add_sub_cancel'->TU,add_le_add_left->TW,lt_of_succ_lt->Ui,le_max_right->Uv,le_max_left->UE,le_add_left->UF,max_assoc->UZ,lt_trans->Vd,mod_lt->VI
open Bool renaming false_ne_true->MJ,false_eq_true->MV,and_eq_true->NE,not_true->Pa,eq_iff_iff->Rl,and_false->Sz,or_false->Tb,not_eq_true'->Ud,false_and->UK,true_or->U2
open PySem.F renaming plainAttrs_list->M4,type_list_append->M6,slot_list_append->M7,slot_zip_next->NP,slot_tuple_iterator_next->Oo,plain_list_iadd->OP,args_zip_next_1->OQ,plainAttrs_str->OX,entry_zip_next->OY,args_tuple_add_2->Pq,entry_tuple_add->Pt,slot_tuple_add->PQ,type_str_join->PU,slot_str_join->PV,slot_dict_get->PX,args_tuple_iterator_next_1->Ru,entry_tuple_iterator_next->Ry,plain_proto_collect->RU,entry_proto_collect->RV,excBase_ValueError->RY,args_object_init_2->RZ,plain_extend_loop->R9,type_list_extend->Sl,slot_list_extend->Sm,plain_tuple_new->Sq,entry_list_iadd->Sr,args_dict_get_3->Ss,entry_dict_get->SI,slot_set_iter->SV,plain_set_new->SW,args_list_extend_2->Uc,entry_list_extend->Uo,slot_list_extend->Uz
open Array renaming length_toList->M5,getElem?_toList->Oj,getElem?_eq_getElem->Op,size_append->Pr,getElem?_eq_none->P6,toList_push->TZ
open PySem.Obj renaming data_mapFields->M9,isFreed_of_fields->NH,cls_mapFields->O2
open PySem.PassesOwn renaming never->Ni,leaving->Tg
open Int renaming emod_lt_of_pos->Nl,toNat_natCast->Nr,emod_nonneg->NB,toNat_of_nonneg->RC,eq_ofNat_of_zero_le->Tk,ediv_nonneg->UH
open Option.some renaming inj->Nn
open PySem.Around renaming under_plainId->Nx,frames_deeper->To
open PyProof.Rows renaming callWith_type1->NA,boot_tuple->Of,slot_tuple_getitem->Om,boot_isinstance->Ox,boot_int->Pl,boot_sorted->SQ,boot_reversed->TM,subscriptTail_builtinR->T3,slot_tupleiter_next->UB,Subscript_->UR,tupleItemsOf_->Vt,iadd_int->Vu,entry_tuple_getitem->Vv,callWith_builtin1->Vw,boot_zip->Vx,boot_dict->Vy,args_tuple_getitem->Vz,slicePart_none->VB,boot_set->VE,boot_max->VF
open PySem.Heap.SameBut renaming update->N6,refl->SO
open PySem.Calls renaming spliced_cons->Oi,spliced_nil->OJ,callWith_builtin->P5,Name_function_global->Sn,evalArgs_plain->Tz
open PySem.W renaming mg_none_of->OA,mg_of->O7,callWith_K->PL,cellsFrom_some->PM,methodCall_KW->PR,plainGet_of->Rp,looks_mroIn->RJ,looks_findIn->Si,findObj_own->Te,callWith_K0->Tf,codeRec_of->Tu,check_slot->UQ,any_some->VG
open PyProof.Rows.F renaming plain_set_update_loop->OE,entry_set_update_loop->Px
open PySem.Value renaming isStrOf_shape->Pb
open Classical renaming byContradiction->Ph,choose_spec->Sy
open Sum.inr renaming inj->Po
open Option renaming map_some->PY,getD_none->RO,toList_some->TB,isSome_none->TC,isNone_some->TF,isNone_none->TH,isSome_map->TN,bind_some->TR
open PySem.W.KFB renaming if_not->Rc,if_so->VH
open PySem.Code renaming quiet_builtin->RF
open PySem.Heap.IsSliceOf renaming new->Sb
open PySem.AutoSeq1 renaming wpAny_loadPart'->Sc
open PySem.W.Looks renaming here->Sj,ld->VJ
open PySem.SeqAt.EqAt renaming str_int->SR,int_str->SU,str_str->UD
open PySem.Heap.DictOf renaming new->Tn
open PySem.IsL renaming isList->Tv
open PySem.Heap.Ns1 renaming of_empty->Tx
open PyProof.Rows.IsTup renaming new->Ub
open PySem.SeqAt.RcAt renaming lists->UC
open PySem.ItemsOf renaming nil->UG
open PySem.Meets renaming of_wp->U0
open PySem.EqMixed renaming ne_str_int->U6,ne_str_bool->U7,ne_int_str->U8,ne_bool_str->U9,eq_str_int->U',eq_str_bool->Va,eq_int_str->Vb,eq_bool_str->Vc
open PySem.Within renaming cons->Ve
open PySem.EqNone renaming ne_str_none->Vf,ne_none_str->Vg,ne_none_none->Vh,ne_none_int->Vi,ne_none_bool->Vj,ne_int_none->Vk,ne_bool_none->Vl,eq_str_none->Vm,eq_none_str->Vn,eq_none_none->Vo,eq_none_int->Vp,eq_none_bool->Vq,eq_int_none->Vr,eq_bool_none->Vs
def MQ:=@if_pos
def MS:=@if_neg
def MU:=@Ne.symm
def MY:=@decide_eq_false
def Ng:=@decide_eq_true
def Nu:=@of_decide_eq_true
def NK:=@congrArg
def NR:=@if_false
def OB:=@bne_self_eq_false
def OZ:=@or_false
def Pj:=@if_true
def Rm:=@of_decide_eq_false
def Sw:=@Iff.rfl
def UJ:=@PySem.Heap.IsTupleIter.at
def VL:=@PySem.Heap.IsList.at
local macro_rules|`(#[$x,*])=>`(⟨$x,*⟩)
local macro_rules|`(tactic|omega)=>`(tactic|lia)
namespace _L
open PySem PySem.Spec PyProof.Rows
abbrev bG:=Sum Int π
def lD:bG->η->Bool
 | .inl k,v=>Value.isInt k v
 | .inr x,v=>Value.isStrOf x v
def IA(w:bU):bG->Int
 | .inl k=>hashInt k
 | .inr x=>hashStr w x
def jY:∀{k:bG} {v:η},lD k v=ν->(∃i t,k=Sum.inl i/\v=qL i t)∨(∃x t,k=Sum.inr x/\v=mu x t)
 | .inl i,v,h=>by let⟨t,e⟩:=Value.isInt_shape (k:=i) (v:=v) h;exact .inl #[i,t,Z,e]
 | .inr x,v,h=>by let⟨t,e⟩:=Pb (x:=x) (v:=v) h;exact .inr #[x,t,Z,e]
def Z6(i:Int)(t:Tok):lD (.inl i) (.int i t)=ν:=by simp [lD,Value.isInt]
def Z7(x:π)(t:Tok):lD (.inr x) (.str x t)=ν:=by simp [lD,Value.isStrOf]
def C5(a b:Int):decide ((Sum.inl a:bG)=Sum.inl b)=(a==b):=by
 by_cases e:a=b
 .subst e;simp
 .let h:¬(Sum.inl a:bG)=Sum.inl b:=λq=>e (Sum.inl.inj q);rw[MY h];exact(beq_eq_false_iff_ne.mpr e).symm
def C8(a b:π):decide ((Sum.inr a:bG)=Sum.inr b)=decide (a=b):=by
 by_cases e:a=b
 .subst e;simp
 .let h:¬(Sum.inr a:bG)=Sum.inr b:=λq=>e (Po q);rw[MY h,MY e]
def C6(a:Int)(b:π):decide ((Sum.inl a:bG)=Sum.inr b)=μ:=MY (λq=>nomatch q)
def C7(a:π)(b:Int):decide ((Sum.inr a:bG)=Sum.inl b)=μ:=MY (λq=>nomatch q)
def aP(p:ψ)(w:bU):PySem.KeyKind p w bG where
 is:=lD
 hash:=IA w
 inj:=λv a b d c=>by
  rcases jY d with ⟨i,t,rfl,rfl⟩ | ⟨x,t,rfl,rfl⟩
  .rcases jY c with ⟨j,u,rfl,e⟩ | ⟨y,u,rfl,e⟩
   .injection e with E _;rw[E]
   .exact nomatch e
  .rcases jY c with ⟨j,u,rfl,e⟩ | ⟨y,u,rfl,e⟩
   .exact nomatch e
   .injection e with E _;rw[E]
 byValue:=λk v h=>by rcases jY h with ⟨i,t,rfl,rfl⟩ | ⟨x,t,rfl,rfl⟩<;>rfl
 pyHash:=λH h=>by
  rcases jY H with ⟨i,t,rfl,rfl⟩ | ⟨x,t,rfl,rfl⟩
  .exact wpAny_pyHash_int h
  .exact wpAny_pyHash_str h
 eqBool:=λf H h=>by
  rcases jY f with ⟨i,t,rfl,rfl⟩ | ⟨x,t,rfl,rfl⟩
  .rcases jY H with ⟨j,u,rfl,rfl⟩ | ⟨y,u,rfl,rfl⟩
   .rw[C5]at h;exact wpAny_eqBool_int h
   .rw[C6]at h;exact SU i t y u _ _ _ _ h
  .rcases jY H with ⟨j,u,rfl,rfl⟩ | ⟨y,u,rfl,rfl⟩
   .rw[C7]at h;exact SR x t j u _ _ _ _ h
   .rw[C8]at h;exact wpAny_eqBool_str h
 «strs»:=λk x t v h=>by
  rcases jY h with ⟨i,u,rfl,e⟩ | ⟨y,u,rfl,e⟩
  .exact nomatch e
  .injection e with E _;subst E;cases v<;>rfl
def Ym(p:ψ)(w:bU)(i:Int)(t:Tok):(aP p w).is (.inl i) (.int i t)=ν:=Z6 i t
def Yn(p:ψ)(w:bU)(x:π)(t:Tok):(aP p w).is (.inr x) (.str x t)=ν:=Z7 x t
end _L
namespace _L
open PySem PySem.Spec PyProof.Rows
inductive V where
 |non |bl (b:Bool) |int (i:Int) |str (x:π) |byt (b:Array UInt8) |flt (b:UInt64) |ref (a:ε) |ty (n:String)
 deriving DecidableEq
set_option genInjectivity false
def aC:V->η->Prop
 | .non,u=>u=β
 | .bl b,u=>u=ra b
 | .int i,u=>∃t,u=qL i t
 | .str x,u=>∃t,u=mu x t
 | .byt b,u=>∃t,u=Value.bytes b t
 | .flt b,u=>∃t,u=Value.float b t
 | .ref a,u=>u=ω a
 | .ty n,u=>u=gb n
abbrev aw:List V->List η->Prop:=Paired aC
def aw.length(r:aw x u):x.length=u.length:=Paired.length r
theorem aw.get:∀{X:List V} {U:List η} {i:Nat} {x:V},aw X U->X[i]?=δ x->∃u,U[i]?=δ u/\aC x u
 |_,_,_,_,.nil,e=>by simp at e
 |_,_,0,_,.cons r _,e=>by simp at e;subst e;exact#[_,Z,r]
 |_,_,i+1,x,.cons _ t,e=>by let⟨u,h,H⟩:=aw.get (i:=i) (x:=x) t (by simpa using e);exact#[u,by simpa using h,H]
theorem aw.set(r:aC x u):∀{X:List V} {U:List η} (i:Nat),aw X U->aw (X.set i x) (U.set i u)
 |_,_,_,.nil=>.nil
 |_,_,0,.cons _ t=>.cons r t
 |_,_,i+1,.cons q t=>.cons q (aw.set r i t)
theorem aw.append:∀{x y:List V} {u w:List η},aw x u->aw y w->aw (x++y) (u++w)
 |_,_,_,_,.nil,s=>s
 |_,_,_,_,.cons r t,s=>.cons r (aw.append t s)
theorem aw.take:∀{x:List V} {u:List η} (n:Nat),aw x u->aw (x.take n) (u.take n)
 |_,_,0,_ |_,_,_+1,.nil=>.nil
 |_,_,n+1,.cons r t=>.cons r (aw.take n t)
theorem aw.drop:∀{x:List V} {u:List η} (n:Nat),aw x u->aw (x.drop n) (u.drop n)
 |_,_,0,r=>r
 |_,_,_+1,.nil=>.nil
 |_,_,n+1,.cons _ t=>aw.drop n t
def dw:Option V->Option η->Prop
 |some v,δ u=>aC v u
 |none,ζ=>True
 |_,_=>False
def KV{a:Type}:List (a×V)->List (a×η)->Prop:=Paired λ(p:a×V) (q:a×η)=>p.1=q.1/\aC p.2 q.2
def kV:bG->V
 | .inl i=>.int i
 | .inr x=>.str x
inductive HO where
 |lst (xs:List V)
 |tup (xs:List V)
 |dK (kvs:List (bG×V)) |dT (kvs:List (List bG×V))
 |set (S:Int->Bool) (n:Nat)
 |ins (C dx:ε) (fs:List (π×V))
 |own (x:ε)
 |xd (fs:List (π×V))
 |met (f x:ε)
 |rng (lo hi:Int)
 |frz (o:gm) (u:HO)
 |tbl (ps:Array η)
 |ext (φ:ef->Prop)
abbrev Hp:=ε->Option HO
def upd(H:Hp)(a:ε)(o:HO):Hp:=λb=>if b=a then δ o else H b
def jc{H:Hp}{a:ε}{o:HO}:upd H a o a=δ o:=by unfold upd;rw[MQ Z]
def ji(h:b≠a):upd H a o b=H b:=by unfold upd;rw[MS h]
def jE{H:Hp}(h:H a=δ o)(c:H b=δ u)(d:o≠u):a≠b:=by intro e;subst e;rw[h]at c;exact d (Nn c)
def jk{H:Hp}(h:H a=δ o)(c:H b=ζ):a≠b:=by intro e;subst e;rw[h]at c;cases c
section
variable (P:ψ)(w:bU)
def aO(H:Hp)(h:ef)(a:ε):HO->Prop
 | .lst X=>X.length<=τ/\∃(i:List η) (n:Nat),aw X i/\h.get? a=δ { cls:=.type "list",data:=.seq i.toArray n }
 | .tup X=>X.length<=τ/\∃i:List η,aw X i/\IsTup h a i.toArray
 | .dK k=>k.length<=τ/\(a==sysModules)=μ/\∃c,KV k c/\h.DictOf (aP P w) a c
 | .dT k=>k.length<=τ/\(a==sysModules)=μ/\∃X:List (List bG×ε×η),
   Paired (λ(p:List bG×V) (q:List bG×ε×η)=>p.1=q.1/\H q.2.1=δ (.tup$ p.1.map kV)/\aC p.2 q.2.2) k X/\
   ∃o e E,h.get? a=δ o/\o.ExactDict/\o.data= .dict e E/\e.toList=X.map (entryOfKey$ tupleKind$ aP P w)/\(X.map (·.1)).Nodup
 | .set S n=>h.SetOf (intKind P w) a S n
 | .ins C d F=>H d=δ (.own a)/\F.length<=1000/\d≠a/\h.get? a=δ (instObj C d)/\
   ∃m,h.Ns1 d m/\(∀f,dw (F.lookup f)$ m f)/\PySem.Within m (F.map (·.1))
 | .own _=>∃o,h.get? a=δ o
 | .xd F=>∃m,h.Ns1 a m/\∀f,dw (F.lookup f) (m f)
 | .rng lo l=>∃t u v,h.get? a=δ { cls:=.type "range",data:=.fields (ι [.int lo t,.int l u,.int 1 v]) }
 | .frz o u=>h.get? a=δ o/\aO H h a u
 | .tbl r=>h.get? a=δ { cls:=.none,data:=.fields r }
 | .met f x=>h.get? a=δ (rb (.ref f) (.ref x))
 | .ext b=>b h/\(∃o,h.get? a=δ o)/\∀g j:ef,b g->(∀o,g.get? a=δ o->j.get? a=δ o)->b j
def fQ(H:Hp)(h:ef):Prop:=∀a o,H a=δ o->aO P w H h a o
end
section
variable {P:ψ}{w:bU}{H H':Hp}{h h':ef}{a:ε}{o:HO}
def aO.lt(x:aO P w H h a o):a < h.objs.size:=by
 cases o with
 |lst X=>let⟨_,_,_,_,e⟩:=x;exact My e
 |tup X=>let⟨_,_,_,p⟩:=x;exact p.lt
 |dK k |dT k=>let⟨_,_,_,_,o,_,_,e,_⟩:=x;exact My e
 |set S n=>let⟨o,_,_,_,e,_⟩:=x;exact My e
 |ins C d F=>let⟨_,_,_,e,_⟩:=x;exact My e
 |own y=>let⟨_,e⟩:=x;exact My e
 |xd F=>obtain⟨_,⟨_,_,_,e,_⟩,_⟩:=x;exact My e
 |rng lo b=>let⟨_,_,_,e⟩:=x;exact My e
 |frz O u=>let⟨e,_⟩:=x;exact My e
 |tbl c |met f y=>exact My (show h.get? a=δ _ from x)
 |ext g=>obtain⟨_,⟨_,e⟩,_⟩:=x;exact My e
theorem Paired.mapP{c d:Type}{F G:c->d->Prop}:∀{l:List c} {L:List d},Paired F l L->(∀a b,F a b->G a b)->Paired G l L
 |_,_,.nil,_=>.nil
 |_,_,.cons r t,f=>.cons (f _ _ r) (Paired.mapP t f)
def aO.stay(x:aO P w H h a o)(k:∀b u,(b=a∨H b=δ (.own a))->h.get? b=δ u->h'.get? b=δ u)
  (s:∀b,H b=δ (.own a)->H' b=δ (.own a)) (A:∀b X,H b=δ (.tup X)->H' b=δ (.tup X)):aO P w H' h' a o:=by
 induction o with
 |lst X=>let⟨z,i,n,r,e⟩:=x;exact#[z,i,n,r,k _ _ (.inl Z) e]
 |tup X=>let⟨z,i,r,O,e,c⟩:=x;exact#[z,i,r,O,k _ _ (.inl Z) e,c]
 |dK K=>let⟨z,y,V,r,O,E,g,e,c⟩:=x;exact#[z,y,V,r,O,E,g,k _ _ (.inl Z) e,c]
 |dT K=>let⟨z,y,X,r,O,E,g,e,c⟩:=x;exact#[z,y,X,Paired.mapP r λp q z=>#[z.1,A _ _ z.2.1,z.2.2],O,E,g,k _ _ (.inl Z) e,c]
 |set S n=>let⟨O,E,g,t,e,c⟩:=x;exact#[O,E,g,t,k _ _ (.inl Z) e,c]
 |ins C D F=>obtain⟨d,z,N,e,m,⟨j,E,g,B,c⟩,r⟩:=x;exact#[s _ d,z,N,k _ _ (.inl Z) e,m,#[j,E,g,k _ _ (.inr d) B,c],r]
 |own y=>let⟨O,e⟩:=x;exact#[O,k _ _ (.inl Z) e]
 |xd F=>obtain⟨m,⟨j,E,g,e,c⟩,r⟩:=x;exact#[m,#[j,E,g,k _ _ (.inl Z) e,c],r]
 |rng lo G=>let⟨t,u,v,e⟩:=x;exact#[t,u,v,k _ _ (.inl Z) e]
 |frz O u I=>let⟨e,q⟩:=x;exact#[k _ _ (.inl Z) e,I q]
 |tbl l=>have e:h.get? a=δ { cls:=.none,data:=.fields l }:=x;show h'.get? a=δ { cls:=.none,data:=.fields l };exact k a _ (.inl Z) e
 |met f y=>have e:h.get? a=δ (rb (.ref f)$ .ref y):=x;show h'.get? a=δ (rb (.ref f)$ .ref y);exact k a _ (.inl Z) e
 |ext J=>obtain⟨p,⟨o,e⟩,st⟩:=x;exact#[st _ _ p λo q=>k _ _ (.inl Z) q,#[o,k _ _ (.inl Z) e],st]
def fQ.lt(x:fQ P w H h)(e:H a=δ o):a < h.objs.size:=(x a o e).lt
def fQ.fresh(x:fQ P w H h)(e:h.objs.size<=a):H a=ζ:=by
 cases q:H a with
 |none=>rfl
 |some u=>exact absurd (MN (x.lt q) e) (Nk _)
def fQ.kept(x:fQ P w H h)(k:∀b u,h.get? b=δ u->h'.get? b=δ u):fQ P w H h':=λa o e=>
 (x a o e).stay (λb u _ q=>k b u q) (λ_ q=>q) λ_ _ q=>q
def fQ.laid(x:fQ P w H h)(k:∀b u,h.get? b=δ u->h'.get? b=δ u)(g:h.objs.size<=a)(n:aO P w (upd H a o) h' a o):fQ P w (upd H a o) h':=λb u e=>by
 let d:=x.fresh g;by_cases f:b=a
 .subst f;rw[jc]at e;cases e;exact n
 .rw[ji f]at e;exact(x b u e).stay (λc v _ q=>k c v q) (λc q=>by rw[ji$ jk q d];exact q) λc X q=>by rw[ji$ jk q d];exact q
end
def Rd(H:Hp)(a:ε)(u:HO):Prop:=H a=δ u∨∃o,H a=δ (.frz o u)
def Rd.ok{P:ψ}(r:Rd H a u)(x:fQ P w H h):aO P w H h a u:=by
 rcases r with r | ⟨o,r⟩
 .exact x a u r
 .let⟨_,q⟩:=x a _ r;exact q
def EV:Option HO->Prop
 |some (.lst _) |some (.dK _) |some (.dT _) |some (.set _ _) |some (.ins _ _ _) |some (.ext _)=>True
 |_=>False
section
variable {P:ψ}{w:bU}{H:Hp}{h h':ef}{x e:ε}{o':HO}
def fQ.write(o:fQ P w H h)(m:EV (H x))(i:e=x∨H e=δ (.own x))(k:∀b u,b≠e->h.get? b=δ u->h'.get? b=δ u)(f:∃u,h'.get? e=δ u)
  (g:aO P w (upd H x o') h' x o'):fQ P w (upd H x o') h':=λb u q=>by
 let n:∀c y,H c=δ (.own y)->c≠x:=λc y r z=>by subst z;rw[r]at m;exact m
 let N:∀c X,H c=δ (.tup X)->c≠x:=λc X r z=>by subst z;rw[r]at m;exact m
 by_cases d:b=x
 .subst d;rw[jc]at q;cases q;exact g
 .rw[ji d]at q;by_cases a:b=e
  .let Q:H b=δ (.own x):=by
    rcases i with z |z
    .exact absurd (a.trans z) d
    .rw[a];exact z
   rw[q]at Q;cases Q;let⟨v,j⟩:=f;exact#[v,by rw[a];exact j]
  .refine(o b u q).stay (λc v hc r=>k c v ?_ r) (λc r=>by rw[ji$ n c b r];exact r) λc X r=>by rw[ji$ N c X r];exact r
   rcases hc with rfl |hc
   .exact a
   .rintro rfl;rcases i with z |z
    .exact n c b hc z
    .rw[hc]at z;cases z;exact d Z
end
structure Un(fs ex:List ε)(H H':Hp)(h h':ef):Prop where
 keep:∀b o,h.get? b=δ o->H b=ζ->b∉fs->b∉ex->h'.get? b=δ o
 slot:∀b o,h.get? b=δ o->H b=ζ->b∈fs->b∉ex->∃sl,h'.get? b=δ { o with slots:=sl }
 free:∀b o,h.get? b=δ o->H b=ζ->b∉ex->H' b=ζ
 there:∀b o,h.get? b=δ o->b∉ex->∃o',h'.get? b=δ o'
 tups:∀b xs,H b=δ (.tup xs)->H' b=δ (.tup xs)
 frzs:∀b o u,H b=δ (.frz o u)->H' b=δ (.frz o u)
 tbls:∀b ps,H b=δ (.tbl ps)->∃more,H' b=δ (.tbl$ ps++more)
section
variable {fs fs' ex ex':List ε}{H H1 H2:Hp}{h h1 h2 h':ef}{a x e:ε}{o:HO}
def Un.any(u:Un fs ex H H1 h h1)(q:h.get? b=δ O)(n:H b=ζ)(c:b∉ex):∃s,h1.get? b=δ { O with slots:=s }:=by
 by_cases d:b∈fs
 .exact u.slot b O q n d c
 .exact#[O.slots,u.keep b O q n d c]
def Un.kept(k:∀b u,h.get? b=δ u->h'.get? b=δ u):Un fs ex H H h h':=
 #[λb O q _ _ _=>k b O q,λb O q _ _ _=>#[O.slots,k b O q],λ_ _ _ n _=>n,λb O q _=>#[O,k b O q],λ_ _ q=>q,λ_ _ _ q=>q,λ_ p q=>#[(ι []),by rw[q];simp]]
def Un.refl:Un fs ex H H h h:=Un.kept λ_ _ q=>q
def Un.laid(k:∀b u,h.get? b=δ u->h'.get? b=δ u)(d:h.objs.size<=a)(c:H a=ζ):Un fs ex H (upd H a o) h h' where
 keep:=λb u q _ _ _=>k b u q
 slot:=λb u q _ _ _=>#[u.slots,k b u q]
 free:=λb u q n _=>by rw[ji$ MG$ MN (My q) d];exact n
 there:=λb u q _=>#[u,k b u q]
 tups:=λb X q=>by rw[ji$ jk q c];exact q
 frzs:=λb u X q=>by rw[ji$ jk q c];exact q
 tbls:=λb p q=>#[(ι []),by rw[ji$ jk q c,q];simp]
def Un.write(m:EV (H x))(j:e=x∨H e=δ (.own x))(k:∀b u,b≠e->h.get? b=δ u->h'.get? b=δ u)(d:∃u,h'.get? e=δ u):Un fs ex H (upd H x o) h h':=by
 let g:∀b,H b=ζ->b≠x:=λb n z=>by subst z;rw[n]at m;exact m
 let i:∀b,H b=ζ->b≠e:=λb n z=>by
  subst z;rcases j with r |r
  .exact g b n r
  .rw[n]at r;cases r
 let f:∀b u,H b=δ u->¬EV (δ u)->b≠x:=λb u q N z=>by subst z;rw[q]at m;exact N m
 refine#[λb u q n _ _=>k b u (i b n) q,λb u q n _ _=>#[u.slots,k b u (i b n) q],λb u q n _=>by rw[ji$ g b n];exact n,λb u q _=>?_,
  λb X q=>by rw[ji$ f b _ q λz=>z];exact q,λb u X q=>by rw[ji$ f b _ q λz=>z];exact q,λb p q=>#[(ι []),by rw[ji$ f b _ q λz=>z,q];simp]]
 by_cases c:b=e
 .subst c;exact d
 .exact#[u,k b u c q]
end
def HX(h:ef)(H:Hp):List ε:=(kr h.objs.size).filter λa=>(H a).isSome
def lM(h:ef)(H:Hp):ef:=PySem.W.hideAll h (HX h H)
def Z8(h:ef)(H:Hp):(lM h H).objs.size=h.objs.size:=PySem.W.hideAll_size _ _
def tX{h:ef}{H:Hp}(e:h.get? b=δ o)(n:H b=ζ):(lM h H).get? b=δ o:=
 PySem.W.hideAll_get _ e λa=>by let q:(H b).isSome=ν:=(pw.mp a).2;rw[n]at q;simp at q
def yD(e:(lM h H).get? b=δ o):h.get? b=δ o/\H b=ζ:=by
 let E:h.get? b=δ o:=PySem.W.of_hideAll (HX h H) e;erw[#[E,?_]];cases q:H b with
 |none=>rfl
 |some x=>have a:b∈HX h H:=pw.mpr #[List.mem_range.mpr$ My E,by simp [q]];let z:(lM h H).get? b=ζ:=PySem.W.hideAll_none (HX h H) a;rw[z]at e;cases e
end _L
open _L.V renaming str->ti,int->tT,ref->vr
namespace _L
open PySem PySem.Spec PyProof.Rows
structure Mod(K:Ω)(mg:π->Option η)(base:ef):Prop where
 kin:K.In base
 glob:base.Ns Ξ mg
 blt:∃mb,base.Ns builtinsNs mb/\∀x:π,x≠"__name__"->mb x=bootBuiltins x
 nolimit:base.NoLimit
structure Cx where
 prog:ψ
 w:bU
 K:Ω
 mg:π->Option η
 base:ef
 A:cJ
 N:List π
 s₀:θ
 H₀:Hp
 env:tf
 outer:List tf
 stack:List tf
 ex:List ε
 fn:π->Bool
 calm:Bool
 pn:List (ε×gm)
 xe:η->θ->Prop
def iB(l:List tf):List ε:=l.filterMap (·.frame)
abbrev Cx.fs(X:Cx):List ε:=iB X.outer
def HN(s:hJ)(x:π):Prop:=s.names.lookup x=δ .local∨s.names.lookup x=δ .cell∨s.names.lookup x=δ .free
def xw(s:hJ)(x:π):Prop:=s.names.lookup x=δ .local∨s.names.lookup x=δ .cell
def Ie(e:tf)(h:ef)(m:π->Option η)(x:π)(u:η):Prop:=
 (e.kindOf x=δ .local/\m x=δ u)∨((e.kindOf x=δ .cell∨e.kindOf x=δ .free)/\∃c,e.cells.lookup x=δ c/\h.IsCell c (δ u))
structure Cx.Ok(X:Cx):Prop where
 mod:Mod X.K X.mg X.base
 kind:X.env.scope.kind= .function
 glob:X.env.globals=Ξ
 blt:X.env.builtins=builtinsNs
 above:X.s₀.heap.objs.size<=X.env.locals
 inj:∀x y c,X.env.cells.lookup x=δ c->X.env.cells.lookup y=δ c->x=y
 has:∀x,(X.env.kindOf x=δ .cell∨X.env.kindOf x=δ .free)->∃c,X.env.cells.lookup x=δ c
 cab:∀x c,X.fn x=ν->X.env.cells.lookup x=δ c->X.s₀.heap.objs.size<=c
 hd:X.calm=ν->X.A.handled=ζ
 frames:X.A.frames=δ X.stack
 stk:X.stack=X.outer∨(X.stack=X.env::X.outer/\X.env.frame=δ X.env.locals)
 exf:∀b∈X.ex,b≠X.env.locals/\∀x c,X.env.cells.lookup x=δ c->c≠b
 bs:∀b o,X.base.get? b=δ o->X.s₀.heap.get? b=δ o/\X.H₀ b=ζ
 bsz:X.base.objs.size<=X.s₀.heap.objs.size
 noex:∀b o,X.base.get? b=δ o->b∉X.ex
 exfs:∀b∈X.ex,b∉X.fs
 funs:X.s₀.heap.FunFrames X.base X.outer
 frf:∀b∈X.fs,X.H₀ b=ζ
structure ap(X:Cx)(pins:List (ε×gm))(σ:List (Option V))(H:Hp)(s:θ):Prop where
 ok:X.Ok
 os:s.os=X.s₀.os
 bare:AllBare s.gens
 base:Un X.fs X.ex X.H₀ H X.s₀.heap s.heap
 loc:∃m,s.heap.Ns X.env.locals m/\∀(i:Nat) (x:π) (v:V),X.N[i]?=δ x->σ[i]?=δ (δ v)->HN X.env.scope x->∃u,aC v u/\Ie X.env s.heap m x u
 cell:∀x c,X.env.cells.lookup x=δ c->∃v,s.heap.IsCell c v
 free:H X.env.locals=ζ
 freeC:∀x c,X.env.cells.lookup x=δ c->H c=ζ
 pin:∀p∈X.pn++pins,s.heap.get? p.1=δ p.2/\H p.1=ζ/\p.1≠X.env.locals/\p.1∉X.fs/\∀v,p.2.data≠ .cell v
 hok:fQ X.prog X.w H s.heap
 len:σ.length=X.N.length
section
variable {X:Cx}{pins:List (ε×gm)}{σ:List (Option V)}{H H':Hp}{s:θ}{h':ef}
def Cx.Ok.nofr(O:X.Ok)(e:X.base.get? b=δ o):b∉X.fs:=λh=>by let:=(O.funs.mem h).1;rw[e]at this;cases this
def ap.bs(I:ap X pins σ H s):∀b o,X.base.get? b=δ o->s.heap.get? b=δ o/\H b=ζ:=λb o e=>
 #[I.base.keep b o (I.ok.bs b o e).1 (I.ok.bs b o e).2 (I.ok.nofr e)$ I.ok.noex b o e,I.base.free b o (I.ok.bs b o e).1 (I.ok.bs b o e).2$ I.ok.noex b o e]
def ap.bk(I:ap X pins σ H s):∀b o,X.base.get? b=δ o->s.heap.get? b=δ o:=λb o e=>(I.bs b o e).1
def ap.mod(I:ap X pins σ H s):Mod X.K X.mg X.base:=I.ok.mod
def ap.kIn(I:ap X pins σ H s):X.K.In s.heap:=I.ok.mod.kin.keeps I.bk
def ap.lt(I:ap X pins σ H s):X.env.locals < s.heap.objs.size:=let #[_,h,_]:=I.loc;h.lt
def ap.sz(I:ap X pins σ H s):X.s₀.heap.objs.size<=s.heap.objs.size:=MT I.ok.above (ON I.lt)
def ap.nofs(I:ap X pins σ H s)(h:s.heap.objs.size<=a):a∉X.fs:=λb=>by let⟨_,o,c,_⟩:=I.ok.funs.mem b;exact absurd (MN (My c)$ MT I.sz h)$ Nk _
def ap.cne(I:ap X pins σ H s):∀x c,X.env.cells.lookup x=δ c->c≠X.env.locals:=λx c e z=>by let⟨v,o,b,d⟩:=I.cell x c e;obtain⟨m,⟨O,E,f,h,a,_⟩,_⟩:=I.loc;rw[z,h]at b;cases b;rw[a]at d;cases d
def ap.funs(I:ap X pins σ H s):s.heap.FunFrames X.base X.outer:=by
 let all:∀(l:List tf),(∀b∈iB l,b∈X.fs)->X.s₀.heap.FunFrames X.base l->s.heap.FunFrames X.base l:=by
  intro l;induction l with
  |nil=>intro _ _;trivial
  |cons E r i=>intro d f;obtain⟨g,⟨L,o,h,j,k,m⟩,n⟩:=f;let a:L∈X.fs:=d L (by unfold iB;rw[List.filterMap_cons,h];exact List.mem_cons_self);let⟨S,e⟩:=I.base.slot L o k (I.ok.frf L a) a λz=>I.ok.exfs L z a;exact#[g,#[L,_,h,j,e,m],i (λb c=>d b (by unfold iB;rw[List.filterMap_cons,h];exact List.mem_cons_of_mem _ c)) n]
 exact all X.outer (λ_ c=>c) I.ok.funs
def ap.stack(I:ap X pins σ H s):s.heap.FunFrames X.base X.stack:=by
 rcases I.ok.stk with e | ⟨e,h⟩
 .rw[e];exact I.funs
 .rw[e];let⟨m,a,_⟩:=I.loc;erw[.cons (by rw[I.ok.kind];decide) h a ?_ I.funs];exact Heap.get?_none_of_le$ MT I.ok.bsz I.ok.above
def ap.stkSub(I:ap X pins σ H s):∀b∈iB X.stack,b∈X.env.locals::X.fs:=λb h=>by
 rcases I.ok.stk with e | ⟨e,a⟩
 .rw[e]at h;exact MX _ h
 .rw[e]at h;unfold iB at h;rw[RB,a]at h;exact h
def ap.stkFree(I:ap X pins σ H s):∀b∈iB X.stack,H b=ζ:=λb hb=>by
 rcases Ψ.mp (I.stkSub b hb) with e |hb
 .rw[e];exact I.free
 .let⟨_,o,h,_⟩:=I.ok.funs.mem hb;exact I.base.free b o h (I.ok.frf b hb) λz=>I.ok.exfs b z hb
def ap.step{g':Array GenState}{d':Drawn}{ch:List ε}(I:ap X pins σ H s)
  (a:∀b∈ch,(b∈X.ex∨X.s₀.heap.objs.size<=b)/\b≠X.env.locals/\(∀x c,X.env.cells.lookup x=δ c->c≠b)/\∀p∈X.pn++pins,p.1≠b)
  (K:∀b o,b≠X.env.locals->b∉X.fs->b∉ch->s.heap.get? b=δ o->H b=ζ->h'.get? b=δ o)
  (S:∀b o,b≠X.env.locals->b∈X.fs->b∉ch->s.heap.get? b=δ o->H b=ζ->∃J,h'.get? b=δ { o with slots:=J }) (f:∀b o,b∉ch->s.heap.get? b=δ o->H b=ζ->H' b=ζ)
  (t:∀b o,b∉ch->s.heap.get? b=δ o->∃O,h'.get? b=δ O)
  (T:∀b j,H b=δ (.tup j)->H' b=δ (.tup j)) (F:∀b o u,H b=δ (.frz o u)->H' b=δ (.frz o u)) (B:∀b P,H b=δ (.tbl P)->∃M,H' b=δ (.tbl$ P++M))
  (ns:∀m,s.heap.Ns X.env.locals m->h'.Ns X.env.locals m) (L:fQ X.prog X.w H' h') (hg:AllBare g'):
  ap X pins σ H' { s with heap:=h',gens:=g',drawn:=d',toks:=t' }:=by
 let D:∀b o,X.s₀.heap.get? b=δ o->b≠X.env.locals:=λb o e=>MG (MN (My e) I.ok.above);let g:∀b o,X.s₀.heap.get? b=δ o->b∉X.ex->b∉ch:=λb o e h y=>by
  rcases(a b y).1 with z |z
  .exact h z
  .exact absurd (MN (My e) z)$ Nk _
 let C:∀x c,X.env.cells.lookup x=δ c->∀v,s.heap.IsCell c v->h'.IsCell c v:=λx c e v #[o,A,Q]=>by
  let N:c∉ch:=λz=>(a c z).2.2.1 x c e Z;by_cases U:c∈X.fs
  .let⟨J,q⟩:=S c o (I.cne x c e) U N A (I.freeC x c e);exact#[_,q,Q]
  .exact#[o,K c o (I.cne x c e) U N A$ I.freeC x c e,Q]
 erw[#[I.ok,I.os,hg,#[λb o e n y h=>?_,λb o e n y h=>?_,λb o e n h=>?_,λb o e h=>?_,λb j e=>T b j (I.base.tups b j e),λb o j e=>F b o j (I.base.frzs b o j e),λb P e=>?_],?_,λx c e=>?_,?_,λx c e=>?_,λp W=>?_,L,I.len]]
 .exact K b o (D b o e) y (g b o e h) (I.base.keep b o e n y h)$ I.base.free b o e n h
 .let⟨J,E⟩:=I.base.slot b o e n y h;let⟨R,G⟩:=S b _ (D b o e) y (g b o e h) E (I.base.free b o e n h);exact#[R,G]
 .let⟨O,E⟩:=I.base.there b o e h;exact f b O (g b o e h) E$ I.base.free b o e n h
 .let⟨O,E⟩:=I.base.there b o e h;exact t b O (g b o e h) E
 .let⟨m1,E⟩:=I.base.tbls b P e;let⟨m2,G⟩:=B b _ E;exact#[m1++m2,by rw[G,Array.append_assoc]]
 .let⟨m,hn,hl⟩:=I.loc;erw[#[m,ns m hn,λi x v E G e3=>?_]];let⟨u,r,l⟩:=hl i x v E G e3;erw[#[u,r,?_]];rcases l with l | ⟨k,c,e,z⟩
  .exact .inl l
  .exact .inr #[k,c,e,C x c e _ z]
 .let⟨v,z⟩:=I.cell x c e;exact#[v,C x c e v z]
 .obtain⟨m,⟨o,_,_,A,_⟩,_⟩:=I.loc;exact f _ o (λz=>(a _ z).2.1 Z) A I.free
 .let⟨v,o,A,Q⟩:=I.cell x c e;exact f c o (λz=>(a c z).2.2.1 x c e Z) A$ I.freeC x c e
 .let⟨e,n,Y,nf,d⟩:=I.pin p W;let N:p.1∉ch:=λz=>(a p.1 z).2.2.2 p W Z;exact#[K p.1 p.2 Y nf N e n,f p.1 p.2 N e n,Y,nf,d]
def ap.un{t':Nat}(I:ap X pins σ H s)(u:Un X.fs [] H H' s.heap h')(a:fQ X.prog X.w H' h'):ap X pins σ H' { s with heap:=h',toks:=t' }:=by
 obtain⟨m,⟨o,j,k,f,r⟩,_⟩:=id I.loc;let⟨S,g⟩:=u.any f I.free LM;exact I.step (g':=s.gens) (d':=s.drawn) (ch:=[]) (λ_ z=>nomatch z) (λb o _ c _ e n=>u.keep b o e n c LM) (λb o _ c _ e n=>u.slot b o e n c LM) (λb o _ e n=>u.free b o e n LM) (λb o _ e=>u.there b o e LM) u.tups u.frzs u.tbls (λM i=>by
  let⟨O,E,d,h,R⟩:=i;rw[f]at h;cases h;exact#[_,E,d,g,R]) a I.bare
def ap.call{g':Array GenState}{t':Nat}{d':Drawn}{ch:List ε}(I:ap X pins σ H s)(u:Un (iB X.stack) ch H H' s.heap h')(f:fQ X.prog X.w H' h')(k:AllBare g')
  (a:∀b∈ch,(b∈X.ex∨X.s₀.heap.objs.size<=b)/\b≠X.env.locals/\(∀x c,X.env.cells.lookup x=δ c->c≠b)/\∀p∈X.pn++pins,p.1≠b):
  ap X pins σ H' { s with heap:=h',gens:=g',drawn:=d',toks:=t' }:=by
 obtain⟨m,⟨o,t,v,j,r⟩,_⟩:=id I.loc;let⟨S,g⟩:=u.any j I.free λz=>(a _ z).2.1 Z;exact I.step (ch:=ch) a (λb o g l h e n=>u.keep b o e n (λz=>(Ψ.mp$ I.stkSub b z).elim g l) h) (λb o _ _ h e n=>u.any e n h) (λb o h e n=>u.free b o e n h) (λb o h e=>u.there b o e h) u.tups u.frzs u.tbls (λM q=>by
  let⟨O,E,i,d,R⟩:=q;rw[j]at d;cases d;exact#[_,E,i,g,R]) f k
def ap.turned{t':Nat}{it:ε}(I:ap X pins σ H s)(k:∀b o,b≠it->s.heap.get? b=δ o->h'.get? b=δ o)(d:H it=ζ)(a:it≠X.env.locals)
  (f:it∈X.ex∨X.s₀.heap.objs.size<=it) (g:∀x c,X.env.cells.lookup x=δ c->c≠it) (i:∀p∈X.pn++pins,p.1≠it):ap X pins σ H { s with heap:=h',toks:=t' }:=by
 let N:∀b u,H b=δ u->b≠it:=λb u e z=>by rw[z,d]at e;cases e
 refine I.step (g':=s.gens) (d':=s.drawn) (ch:=[it]) (λb j=>?_) (λb o _ _ h e _=>k b o (λz=>h (by simp [z])) e) (λb o _ _ h e _=>#[o.slots,k b o (λz=>h (by simp [z])) e]) (λ_ _ _ _ n=>n)
  (λb o h e=>#[o,k b o (λz=>h (by simp [z])) e]) (λ_ _ e=>e) (λ_ _ _ e=>e) (λb P e=>#[(ι []),by rw[e];simp]) (λm l=>?_) (λb u e=>?_) I.bare
 .let e:b=it:=by simpa using j
  subst e;exact#[f,a,g,i]
 .let⟨o,E,t,w,r⟩:=l;exact#[o,E,t,k _ o (MU a) w,r]
 .erw[(I.hok b u e).stay (λc v h q=>k c v ?_ q) (λ_ q=>q) λ_ _ q=>q];rcases h with z |z
  .rw[z];exact N b u e
  .exact N c _ z
def ap.tok(I:ap X pins σ H s)(t:Nat):ap X pins σ H { s with toks:=t }:=I.un (h':=s.heap) (t':=t) Un.refl I.hok
def ap.kept{t':Nat}(I:ap X pins σ H s)(k:∀b u,s.heap.get? b=δ u->h'.get? b=δ u):ap X pins σ H { s with heap:=h',toks:=t' }:=I.un (Un.kept k) (I.hok.kept k)
def ap.laid{a:ε}{o:HO}{t':Nat}(I:ap X pins σ H s)(k:∀b u,s.heap.get? b=δ u->h'.get? b=δ u)(h:s.heap.objs.size<=a)(n:aO X.prog X.w (upd H a o) h' a o):
  ap X pins σ (upd H a o) { s with heap:=h',toks:=t' }:=I.un (Un.laid k h$ I.hok.fresh h) (I.hok.laid k h n)
def ap.write{x e:ε}{o:HO}{t':Nat}(I:ap X pins σ H s)(m:EV (H x))(a:e=x∨H e=δ (.own x))(k:∀b u,b≠e->s.heap.get? b=δ u->h'.get? b=δ u)(h:∃u,h'.get? e=δ u)
  (n:aO X.prog X.w (upd H x o) h' x o):ap X pins σ (upd H x o) { s with heap:=h',toks:=t' }:=I.un (Un.write m a k h) (I.hok.write m a k h n)
def ap.pins_of{pins':List (ε×gm)}(I:ap X pins σ H s)(h:∀p∈pins',s.heap.get? p.1=δ p.2/\H p.1=ζ/\p.1≠X.env.locals/\p.1∉X.fs/\∀v,p.2.data≠ .cell v):ap X pins' σ H s:=
 #[I.ok,I.os,I.bare,I.base,I.loc,I.cell,I.free,I.freeC,λp a=>(γ.mp a).elim (λz=>I.pin p (Nb _ z)) (h p),I.hok,I.len]
def K7{N:List π}(h:N.Nodup){i j:Nat}{x:π}(a:N[i]?=δ x)(b:N[j]?=δ x):i=j:=by let⟨c,e⟩:=χ.mp a;let⟨d,E⟩:=χ.mp b;exact(List.getElem_inj h).mp (e.trans E.symm)
def QW{v:V}{Q:Unit->θ->Prop}(I:ap X pins σ H s)(hN:X.N.Nodup)(L:X.N[i]?=δ x)(l:xw X.env.scope x)(r:aC v u)
  (h:∀s',ap X pins (σ.set i$ δ v) H s'->(∃a,fy a s.heap s'.heap/\(a=X.env.locals∨X.env.cells.lookup x=δ a))->Q () s') (hf:autoParam (X.fn x=ν∨X.env.scope.names.lookup x=δ .local) Wb._auto_1):ξ M A (storeName X.env x u) Q E s:=by
 let⟨m,hn,hl⟩:=id I.loc;let O:(X.env.scope.kind== .class||(X.env.scope.kind== .module&&X.env.locals != X.env.globals))=μ:=by rw[I.ok.kind];rfl
 let D:i < σ.length:=by rw[I.len];exact(χ.mp L).1
 let F:=I.cne;let t:∀{a:ε} {h':ef},(∃o,s.heap.get? a=δ o/\H a=ζ)->fy a s.heap h'->fQ X.prog X.w H h':=λ{a h'} ha f b ob e=>by
  let⟨_,_,B⟩:=ha;erw[(I.hok b ob e).stay (λc W hc q=>(f.2 c ?_).trans q) (λ_ q=>q) λ_ _ q=>q];rintro rfl;rcases hc with rfl |hc
  .rw[B]at e;cases e
  .rw[B]at hc;cases hc
 rcases l with hk |hk
 .erw[wpAny_storeName_local hk hn (λh' h0 f=>?_) O];let⟨oL,_,_,h1,_⟩:=id hn;refine h _ #[I.ok,I.os,I.bare,#[λb o e n G l=>?_,λb o e n G l=>?_,I.base.free,λb o e l=>?_,I.base.tups,I.base.frzs,I.base.tbls],#[_,h0,λj y v' g C e3=>?_],λy c e=>?_,I.free,I.freeC,λp hp=>?_,t #[oL,h1,I.free] f,by simpa using I.len] #[_,f,.inl Z]
  .exact(f.2 b$ MG$ MN (My e) I.ok.above).trans (I.base.keep b o e n G l)
  .let⟨sl,g⟩:=I.base.slot b o e n G l;exact#[sl,(f.2 b$ MG$ MN (My e) I.ok.above).trans g]
  .let⟨o',g⟩:=I.base.there b o e l;exact#[o',(f.2 b$ MG$ MN (My e) I.ok.above).trans g]
  .by_cases J:j=i
   .subst J;rw[L]at g;cases g;rw[Od D]at C;cases C;exact#[u,r,.inl #[hk,LM]]
   .rw[N7$ MU J]at C;let⟨u',r',q⟩:=hl j y v' g C e3;erw[#[u',r',?_]];rcases q with ⟨k,e⟩ | ⟨k,c,e,z⟩
    .erw[.inl #[k,?_]];let:y≠x:=λe=>J (K7 hN g$ e▸L);simp [this,e]
    .exact .inr #[k,c,e,z.sameBut f$ F y c e]
  .let⟨W,z⟩:=I.cell y c e;exact#[W,z.sameBut f$ F y c e]
  .let⟨e,n,U,nf,d⟩:=I.pin p hp;exact#[(f.2 p.1 U).trans e,n,U,nf,d]
 .let K:X.fn x=ν:=by
   rcases hf with z |z
   .exact z
   .rw[z]at hk;cases hk
  let⟨c,hc⟩:=I.ok.has x (.inl hk);let⟨W,z⟩:=I.cell x c hc;erw[wpAny_storeName_cell I.ok.kind hk hc z (λh' P f=>?_)];let⟨oc,R,S⟩:=id z;erw[h { s with heap:=h' } #[I.ok,I.os,I.bare,#[λb o e n G l=>?_,λb o e n G l=>?_,I.base.free,λb o e l=>?_,I.base.tups,I.base.frzs,I.base.tbls],#[m,hn.sameBut f$ MU$ F x c hc,λj y v' g C e3=>?_],λy Y e=>?_,I.free,I.freeC,λp hp=>?_,t #[oc,R,I.freeC x c hc] f,by simpa using I.len] #[c,f,.inr hc]]
  .exact(f.2 b$ MG$ MN (My e)$ I.ok.cab x c K hc).trans (I.base.keep b o e n G l)
  .let⟨sl,g⟩:=I.base.slot b o e n G l;exact#[sl,(f.2 b$ MG$ MN (My e)$ I.ok.cab x c K hc).trans g]
  .let⟨o',g⟩:=I.base.there b o e l;exact#[o',(f.2 b$ MG$ MN (My e)$ I.ok.cab x c K hc).trans g]
  .by_cases J:j=i
   .subst J;rw[L]at g;cases g;rw[Od D]at C;cases C;exact#[u,r,.inr #[.inl hk,c,hc,P]]
   .rw[N7$ MU J]at C;let⟨u',r',q⟩:=hl j y v' g C e3;erw[#[u',r',?_]];rcases q with q | ⟨k,Y,e,z'⟩
    .exact .inl q
    .erw[.inr #[k,Y,e,z'.sameBut f ?_]];rintro rfl;exact J$ K7 hN g$ I.ok.inj _ _ _ e hc▸L
  .by_cases T:Y=c
   .subst T;exact#[_,P]
   .let⟨w2,z2⟩:=I.cell y Y e;exact#[w2,z2.sameBut f T]
  .let⟨e,n,U,nf,d⟩:=I.pin p hp;erw[#[(f.2 p.1 ?_).trans e,n,U,nf,d]];intro q;rw[q,R]at e;let q':oc=p.2:=Nn e;exact d W (by rw[<- q'];exact S)
def zD{v:V}{Q:Unit->θ->Prop}(I:ap X pins σ H s)(a:X.N.Nodup)(b:X.N[i]?=δ x)(c:xw X.env.scope x)(r:aC v u)
  (h:∀S,ap X pins (σ.set i$ δ v) H S->Q () S) (d:autoParam (X.fn x=ν∨X.env.scope.names.lookup x=δ .local) Wb._auto_1):ξ M A (storeName X.env x u) Q E s:=
 QW I a b c r (λS e _=>h S e) d
def ap.call'{S:θ}{ch:List ε}(I:ap X pins σ H s)(d:S.os=s.os)(u:Un (iB X.stack) ch H H' s.heap S.heap)(h:fQ X.prog X.w H' S.heap)(f:AllBare S.gens)
  (a:∀b∈ch,(b∈X.ex∨X.s₀.heap.objs.size<=b)/\b≠X.env.locals/\(∀x c,X.env.cells.lookup x=δ c->c≠b)/\∀p∈X.pn++pins,p.1≠b):ap X pins σ H' S:=by
 let⟨h',g',d',t',o⟩:=S;let e:o=s.os:=d;subst e;exact I.call (g':=g') (t':=t') (d':=d') u h f a
end
abbrev XK:=η->Option ε->Hp->Prop
abbrev St:=List (Option V)
abbrev VK:=V->Hp->Prop
abbrev TE:=St->Hp->VK->Prop
abbrev TT:=St->Hp->(Bool->Hp->Prop)->Prop
abbrev TA:=St->Hp->(List V->Hp->Prop)->Prop
structure a6 where
 nx:St->Hp->Prop
 rt:VK
 bk:St->Hp->Prop:=λ_ _=>False
 ct:St->Hp->Prop:=λ_ _=>False
abbrev TS:=a6->St->Hp->Prop
inductive EP(X:Cx)(a:List (ε×gm))(d:St)(Q:VK)(u:η)(c:θ):Prop
 |mk(v b:_)(_:ap X a d b c)(_:aC v u)(_:Q v b)
inductive TP(X:Cx)(a:List (ε×gm))(e:St)(Q:Bool->Hp->Prop)(b:Bool)(d:θ):Prop
 |mk(c:_)(_:ap X a e c d)(_:Q b c)
inductive AP(X:Cx)(a:List (ε×gm))(f:St)(Q:List V->Hp->Prop)(d:List η)(c:θ):Prop
 |mk(e b:_)(_:ap X a f b c)(_:aw e d)(_:Q e b)
def SP(X:Cx)(p:List (ε×gm))(D:a6)(f:Flow)(s:θ):Prop:=
 match f with
 | .next=>∃a H,ap X p a H s/\D.nx a H
 | .brk=>∃a H,ap X p a H s/\D.bk a H
 | .cont=>∃a H,ap X p a H s/\D.ct a H
 | .ret u=>∃v a H,ap X p a H s/\aC v u/\D.rt v H
def PE(X:Cx)(e:dr)(t:TE):Prop:=
 ∀(p:List (ε×gm)) (s:θ) (a:St) (H:Hp) (Q:VK),ap X p a H s->t a H Q->ξ (υ X.prog X.w) X.A (eval e X.env) (EP X p a Q) X.xe s
def PT(X:Cx)(e:dr)(t:TT):Prop:=
 ∀(p:List (ε×gm)) (s:θ) (a:St) (H:Hp) (Q:Bool->Hp->Prop),ap X p a H s->t a H Q->ξ (υ X.prog X.w) X.A (isTrue e X.env$ eval e X.env) (TP X p a Q) X.xe s
def PW(X:Cx)(e:dr)(t:TT):Prop:=
 ∀(W:Sem η) (p:List (ε×gm)) (s:θ) (a:St) (H:Hp) (Q:Bool->Hp->Prop),ap X p a H s->t a H Q->ξ (υ X.prog X.w) X.A (isTrue e X.env W) (TP X p a Q) X.xe s
def PW.pt{X:Cx}{e:dr}{t:TT}(h:PW X e t):PT X e t:=h _
def PA(X:Cx)(e:List dr)(t:TA):Prop:=
 ∀(P:Pos) (p:List (ε×gm)) (s:θ) (a:St) (H:Hp) (Q:List V->Hp->Prop),ap X p a H s->t a H Q->ξ (υ X.prog X.w) X.A (spliced$ eT P$ Θ e X.env) (AP X p a Q) X.xe s
def PS(X:Cx)(st:da)(t:TS):Prop:=
 ∀(p:List (ε×gm)) (s:θ) (a:St) (H:Hp) (D:a6),ap X p a H s->t D a H->ξ (υ X.prog X.w) X.A (exec st X.env) (SP X p D) X.xe s
def mz(X:Cx)(st:List da)(t:TS):Prop:=
 ∀(p:List (ε×gm)) (s:θ) (a:St) (H:Hp) (D:a6),ap X p a H s->t D a H->ξ (υ X.prog X.w) X.A (execs st X.env) (SP X p D) X.xe s
def aL{b:Type}{t:Sem b}{Q q:b->θ->Prop}{M:Model}{A:cJ}{E:η->θ->Prop}{s:θ}(h:ξ M A t Q E s)(H:∀a s,Q a s->q a s):ξ M A t q E s:=Ny h H λ_ _ x=>x
section
variable {X:Cx}
inductive a5(i:Nat)(a:St)(H:Hp)(Q:VK):Prop
 |mk(v:_)(_:a[i]?=δ (δ v))(_:Q v H)
def tC(v:V):TE:=λ_ H Q=>Q v H
def DP(j:X.N[i]?=δ x)(k:HN X.env.scope x)(b:↥((x==("__debug__":π))=μ))(d:↥((x==("__classdict__":π))=μ)):PE X (.Name x n) (a5 i):=by
 intro p s o H Q I h;let⟨v,e,h⟩:=h;let⟨m,q,t⟩:=I.loc;let⟨u,r,l⟩:=t i x v j e k;let f:EP X p o Q u s:=#[v,H,I,r,h];rcases l with ⟨hk,w⟩ | ⟨hk,c,g,a⟩
 .exact UN (Ur I.ok.kind hk q w f) b
 .rcases hk with hk |hk
  .exact UN (UA I.ok.kind hk g a f) b
  .exact UN (wpAny_loadName_free I.ok.kind hk g a f d) b
def jf{i j p}:PE X (.Constant (.int i) j p) (tC$ .int i):=λ_ _ _ H _ I h=>wpAny_Constant_int #[.int i,H,I.tok _,#[_,Z],h]
def Jf{b j p}:PE X (.Constant (.bool b) j p) (tC$ .bl b):=λ_ _ _ H _ I h=>Constant_bool #[.bl b,H,I,Z,h]
def YE{j p}:PE X (.Constant .none j p) (tC .non):=λ_ _ _ H _ I h=>Constant_none #[.non,H,I,Z,h]
def jj{x j p}:PE X (.Constant (.str x) j p) (tC$ .str x):=λ_ _ _ H _ I h=>Calls.Constant_str #[.str x,H,I.tok _,#[_,Z],h]
def Gl(X:Cx)(x:π):Prop:=X.env.kindOf x=δ .globalImplicit
def zK{Q:η->θ->Prop}(I:ap X p e H s)(a:Gl X x)(b:X.mg x=δ u)(h:Q u s)
  (c:↥((x==("__debug__":π))=μ)):ξ (υ X.prog X.w) X.A (eval (.Name x d) X.env) Q E s:=
 Sn I.ok.kind a (Calls.loadGlobal_global (by rw[I.ok.glob];exact I.mod.glob.keeps I.bk) b h) c
def qJ{Q:η->θ->Prop}(I:ap X p j H s)(a:Gl X x)(b:X.mg x=ζ)(c:bootBuiltins x=δ u)(h:Q u s)
  (d:↥(x≠"__name__")) (e:↥((x==("__debug__":π))=μ)):ξ (υ X.prog X.w) X.A (eval (.Name x f) X.env) Q E s:=by
 let⟨m,g,i⟩:=I.mod.blt;exact Sn I.ok.kind a (Calls.loadGlobal_builtin (by rw[I.ok.glob];exact I.mod.glob.keeps I.bk) b (by rw[I.ok.blt];exact g.keeps I.bk) ((i x d).trans c) h) e
def kG{v:V}(a:Gl X x)(b:X.mg x=δ u)(r:aC v u)(c:↥((x==("__debug__":π))=μ)):PE X (.Name x p) (tC v):=
 λ_ _ _ H _ I h=>zK I a b #[v,H,I,r,h] c
variable {a b:dr}{ta tb:TE}{pos:Pos}
def PC(X:Cx)(o:CmpOp)(a b:dr)(t:TE):Prop:=
 ∀(p:List (ε×gm)) (s:θ) (d:St) (H:Hp) (Q:VK),ap X p d H s->t d H Q->
  ξ (υ X.prog X.w) X.A (eval a X.env) (λv S=>ξ (υ X.prog X.w) X.A (eval b X.env) (λu c=>ξ (υ X.prog X.w) X.A (compareOp o v u) (EP X p d Q) X.xe c) X.xe S) X.xe s
inductive Lk(Q:Bool->Hp->Prop)(x:V)(a:Hp):Prop
 |mk(c:_)(_:x= .bl c)(_:Q c a)
def tB(t:TE):TT:=λc H Q=>t c H (Lk Q)
def DS(h:PC X o a b t)(e:behindInMarks o b=μ:=by first |exact n _ LO LO |rfl):PT X (.Compare a [o] [b] pos) (tB t):=by intro p s f H Q I g;erw[Ug (aL (h p s f H _ I g) λv S e=>aL e λu m i=>aL i λc w z=>?_) e];let⟨x,j,k,r,l⟩:=z;let⟨d,rfl,q⟩:=l;cases r;exact P9 #[j,k,q]
def Jl(h:PE X e t)(c:∀w,isTrue e X.env w=(do let v <- w;standAt e.pos;mL [v] (truthy v)):=by intro _;rfl):PT X e (tB t):=by intro p s f H Q I g;erw[isTrue_plain (aL (h p s f H _ I g) λv S z=>?_)$ c _];let⟨x,i,j,r,k⟩:=z;let⟨d,rfl,q⟩:=k;cases r;exact P9 #[i,j,q]
variable {tA tB':TT}{rest:List dr}
def IN(t u:TT):TT:=λd H Q=>t d H λc h=>if c=ν then u d h Q else Q μ h
def LA(t u:TT):TT:=λd H Q=>t d H λc h=>if c=ν then Q ν h else u d h Q
def IU(t:TT):TT:=λd H Q=>t d H λc h=>Q (!c) h
def Jz(d:PT X a tA):PW X (.BoolOp .And [a] pos) tA:=by
 intro w p s f H Q I h;erw[isTrue_and$ aL (d p s f H Q I h) λc S e=>?_];cases c with
 |true=>exact isTrue_and_nil e
 |false=>exact e
def Xo(d:PT X a tA):PW X (.BoolOp .Or [a] pos) tA:=by
 intro w p s f H Q I h;erw[isTrue_or$ aL (d p s f H Q I h) λc S e=>?_];cases c with
 |false=>exact isTrue_or_nil e
 |true=>exact e
def KK(f:PT X a tA)(g:PW X (.BoolOp .And (b::rest) pos) tB'):PW X (.BoolOp .And (a::b::rest) pos) (IN tA tB'):=by
 intro w p s d H Q I h;erw[isTrue_and$ aL (f p s d H _ I h) λc S z=>?_];let⟨e,i,q⟩:=z;cases c with
 |true=>exact g w p S d e Q i q
 |false=>exact#[e,i,q]
def Zr(f:PT X a tA)(g:PW X (.BoolOp .Or (b::rest) pos) tB'):PW X (.BoolOp .Or (a::b::rest) pos) (LA tA tB'):=by
 intro w p s d H Q I h;erw[isTrue_or$ aL (f p s d H _ I h) λc S z=>?_];let⟨e,i,q⟩:=z;cases c with
 |true=>exact#[e,i,q]
 |false=>exact g w p S d e Q i q
def KL(e:PT X a tA):PT X (.UnaryOp .Not a pos) (IU tA):=by intro p s f H Q I h;exact isTrue_not$ aL (e p s f H (λc d=>Q (!c) d) I h) λc S #[d,i,q]=>#[d,i,q]
def Lz(t:TT)(ta tb:TE):TE:=λd H Q=>t d H λc h=>if c=ν then ta d h Q else tb d h Q
def zT(g:PT X c tA)(j:PE X a ta)(k:PE X b tb):PE X (.IfExp c a b pos) (Lz tA ta tb):=by
 intro p s e H Q I h;erw[wpAny_IfExp$ aL (g p s e H _ I h) λd S z=>?_];let⟨f,i,q⟩:=z;cases d with
 |true=>exact j p S e f Q i q
 |false=>exact k p S e f Q i q
end
def aF(K:Ω)(H:Hp)(a:ε)(x:List V):Prop:=
 Rd H a (.lst x)∨
  ∃(o:gm) (i:Array η) (n:Nat),K.lookup a=δ o/\o.cls= .type "list"/\o.dict=ζ/\o.data= .seq i n/\i.size<=τ/\aw x i.toList
def aB(K:Ω)(H:Hp)(a:ε)(x:List V):Prop:=
 Rd H a (.tup x)∨
  ∃(o:gm) (i:Array η) (n:Nat),K.lookup a=δ o/\o.cls= .type "tuple"/\o.data= .seq i n/\i.size<=τ/\aw x i.toList
def Io:η->Option V
 | .none=>δ .non
 | .bool b=>δ (.bl b)
 | .int i _=>δ (.int i)
 | .str x _=>δ (.str x)
 | .bytes b _=>δ (.byt b)
 | .float b _=>δ (.flt b)
 | .ref a=>↑a
 | .type n=>δ (.ty n)
 |_=>ζ
def aC.abs(r:aC x u):Io u=δ x:=by
 cases x with
 |non |bl _=>cases r;rfl
 |int _ |str _ |byt _ |flt _=>let⟨t,rfl⟩:=r;rfl
 |ref _ |ty _=>cases r;rfl
def aC.inj{x:V}(r:aC x u)(q:aC y u):x=y:=Nn (r.abs.symm.trans q.abs)
theorem aw.inj:∀{x y:List V} {u:List η},aw x u->aw y u->x=y
 |_,_,_,.nil,.nil=>rfl
 |_,_,_,.cons r t,.cons R T=>by rw[r.inj R,aw.inj t T]
section
variable {X:Cx}{pins:List (ε×gm)}{σ:St}{H:Hp}{s:θ}{a:ε}{xs ys:List V}
def aF.of{K:Ω}(h:H a=δ (.lst xs)):aF K H a xs:=.inl (.inl h)
def aB.of{K:Ω}(h:H a=δ (.tup xs)):aB K H a xs:=.inl (.inl h)
def ap.list(I:ap X pins σ H s)(h:aF X.K H a xs):∃i:List η,aw xs i/\PlainL s.heap a i.toArray/\xs.length<=τ:=by
 rcases h with h | ⟨o,i,n,b,c,d,f,g,r⟩
 .let⟨z,i,n,r,e⟩:=h.ok I.hok;exact#[i,r,#[_,n,e,Z,Z,Z],z]
 .erw[#[i.toList,r,#[o,n,I.kIn a o b,c,d,by simpa using f],?_]];let e:=r.length;simp only[M5]at e;omega
def ap.tuple(I:ap X pins σ H s)(h:aB X.K H a xs):∃i:List η,aw xs i/\IsTup s.heap a i.toArray/\xs.length<=τ:=by
 rcases h with h | ⟨o,i,n,b,c,d,f,r⟩
 .let⟨z,i,r,p⟩:=h.ok I.hok;exact#[i,r,p,z]
 .erw[#[i.toList,r,#[o,I.kIn a o b,c,n,by simpa using d],?_]];let e:=r.length;simp only[M5]at e;omega
def ap.list_inj(I:ap X pins σ H s)(h:aF X.K H a xs)(c:aF X.K H a ys):xs=ys:=by
 obtain⟨b,r,⟨o,n,e,_,_,d⟩,_⟩:=I.list h;obtain⟨i,R,⟨O,N,E,_,_,D⟩,_⟩:=I.list c;rw[e]at E;cases E;rw[d]at D;injection D with f _;let:b=i:=by simpa using NK oS f
 subst this;exact r.inj R
def ap.tuple_inj(I:ap X pins σ H s)(h:aB X.K H a xs)(c:aB X.K H a ys):xs=ys:=by
 obtain⟨b,r,⟨o,e,_,n,d⟩,_⟩:=I.tuple h;obtain⟨i,R,⟨O,E,_,N,D⟩,_⟩:=I.tuple c;rw[e]at E;cases E;rw[d]at D;injection D with f _;let:b=i:=by simpa using NK oS f
 subst this;exact r.inj R
end
abbrev Cx.wish(X:Cx)(E:η->θ->Prop):Cx:={ X with xe:=E }
abbrev Cx.nox(X:Cx):Cx:=X.wish λ_ _=>False
def Cx.Ok.wish{X:Cx}(o:X.Ok)(E:η->θ->Prop):(X.wish E).Ok:=
 #[o.mod,o.kind,o.glob,o.blt,o.above,o.inj,o.has,o.cab,o.hd,o.frames,o.stk,o.exf,o.bs,o.bsz,o.noex,o.exfs,o.funs,o.frf]
def Cx.Ok.unwish{X:Cx}(o:(X.wish E).Ok):X.Ok:=
 #[o.mod,o.kind,o.glob,o.blt,o.above,o.inj,o.has,o.cab,o.hd,o.frames,o.stk,o.exf,o.bs,o.bsz,o.noex,o.exfs,o.funs,o.frf]
section
variable {X:Cx}{pins:List (ε×gm)}{σ:St}{H:Hp}{s:θ}{E:η->θ->Prop}
def ap.wish(I:ap X pins σ H s)(E:η->θ->Prop):ap (X.wish E) pins σ H s:=#[I.ok.wish E,I.os,I.bare,I.base,I.loc,I.cell,I.free,I.freeC,I.pin,I.hok,I.len]
def ap.unwish(I:ap (X.wish E) pins σ H s):ap X pins σ H s:=#[I.ok.unwish,I.os,I.bare,I.base,I.loc,I.cell,I.free,I.freeC,I.pin,I.hok,I.len]
def SP.unwish(h:SP (X.wish E) pins D f c):SP X pins D f c:=by
 cases f with
 |next |brk |cont=>let⟨a,b,I,q⟩:=h;exact#[a,b,I.unwish,q]
 |ret u=>let⟨v,a,b,I,r,q⟩:=h;exact#[v,a,b,I.unwish,r,q]
def mz.nox{st:List da}(h:mz X.nox st t):mz X st t:=λpins s σ H D I a=>
 Ny (h pins s σ H D (I.wish _) a) (λ_ _ q=>q.unwish) λ_ _ z=>False.elim z
end
section
variable {X:Cx}{st:da}{rest:List da}{t u:TS}{e:dr}{te:TE}{pos:Pos}
def wL:TS:=λD a H=>D.nx a H
def cy(t u:TS):TS:=λD a H=>t { D with nx:=u D } a H
def jo:mz X [] wL:=λ_ _ a H _ I h=>O0 #[a,H,I,h]
def jd(b:PS X st t)(c:mz X rest u):mz X (st::rest) (cy t u):=by
 intro p s d H D I h;erw[SG$ aL (b p s d H { D with nx:=u D } I h) λf S q=>?_];cases f with
 |next=>let⟨a,g,i,q⟩:=q;exact c p S a g D i q
 |ret v |brk |cont=>exact q
def jg(a:PS X st t):mz X [st] t:=by
 intro p s b H D I h;erw[SG$ aL (a p s b H D I h) λf S q=>?_];cases f with
 |next=>exact O0 q
 |ret v |brk |cont=>exact q
def ap.quiet(I:ap X p a H s):interactive X.env=μ:=by simp [interactive,I.ok.kind]
def pF(te:TE):TS:=λD a H=>te a H λ_ h=>D.nx a h
def jT(b:PE X e te)(c:↥(swapsWith e ζ pos.line X.env=pure μ)):PS X (.Expr e pos) (pF te):=by intro p s a H D I h;exact VA (aL (b p s a H _ I h) λv S #[x,d,i,r,q]=>#[a,d,i,q]) I.quiet c
def iw(te:TE):TS:=λD a H=>te a H D.rt
def jm(b:PE X e te):PS X (.Return (δ e) pos) (iw te):=by intro p s a H D I h;exact wpAny_Return_some$ aL (b p s a H _ I h) λv S #[x,c,i,r,q]=>#[x,a,c,i,r,q]
def lB(c:TT)(t u:TS):TS:=λD a H=>c a H λb h=>if b=ν then t D a h else u D a h
def jx{c:dr}{a b:List da}{T:TT}(j:PT X c T)(k:mz X a t)(l:mz X b u):PS X (.If c a b pos) (lB T t u):=by
 intro p s f H D I h;erw[wpAny_If$ aL (j p s f H _ I h) λd S z=>?_];let⟨g,i,q⟩:=z;cases d with
 |true=>exact k p S f g D i q
 |false=>exact l p S f g D i q
end
abbrev TG:=V->St->Hp->(St->Hp->Prop)->Prop
abbrev sH:=List V->St->Hp->(St->Hp->Prop)->Prop
def PG(X:Cx)(T:dr)(t:TG):Prop:=
 ∀(p:List (ε×gm)) (s:θ) (b:St) (H:Hp) (v:V) (u:η) (Q:St->Hp->Prop),ap X p b H s->aC v u->t v b H Q->
  ξ (υ X.prog X.w) X.A (assign T X.env u) (λ_ S=>∃a h,ap X p a h S/\Q a h) X.xe s
def Be(X:Cx)(T:List dr)(t:sH):Prop:=
 ∀(p:List (ε×gm)) (s:θ) (b:St) (H:Hp) (v:List V) (u:List η) (Q:St->Hp->Prop),ap X p b H s->aw v u->t v b H Q->
  ξ (υ X.prog X.w) X.A (assignInOrder ((assignEach T X.env).map (·.2)) u) (λ_ S=>∃a h,ap X p a h S/\Q a h) X.xe s
abbrev Cm:=V->V->V->Hp->(Hp->Prop)->Prop
def EY(X:Cx)(t:Cm):Prop:=
 ∀(p:List (ε×gm)) (s:θ) (a:St) (H:Hp) (o i v:V) (O I u:η) (Q:Hp->Prop),ap X p a H s->aC o O->aC i I->aC v u->t o i v H Q->
  ξ (υ X.prog X.w) X.A (setItem O I u) (λ_ S=>∃h,ap X p a h S/\Q h) X.xe s
abbrev Ii:=V->V->Hp->VK->Prop
def K'(X:Cx)(o:Operator)(t:Ii):Prop:=
 ∀(p:List (ε×gm)) (s:θ) (a:St) (H:Hp) (x y:V) (v u:η) (Q:VK),ap X p a H s->aC x v->aC y u->t x y H Q->
  ξ (υ X.prog X.w) X.A (inplaceOp o v u) (EP X p a Q) X.xe s
section
variable {X:Cx}{pos:Pos}
def bn(i:Nat):TG:=λv a H Q=>Q (a.set i$ δ v) H
def ju{i:Nat}{x:π}(a:X.N.Nodup)(b:X.N[i]?=δ x)(c:xw X.env.scope x)(d:autoParam (X.fn x=ν∨X.env.scope.names.lookup x=δ .local) Wb._auto_1):PG X (.Name x pos) (bn i):=by intro p s f H v u Q I r h;exact UX$ zD I a b c r (λS e=>#[_,H,e,h]) d
def tS:sH:=λv a H Q=>v=[]/\Q a H
inductive dB(t:TG)(u:sH)(a:List V)(b:St)(H:Hp)(Q:St->Hp->Prop):Prop
 |mk(v r:_)(_:a=v::r)(_:t v b H λσ' H'=>u r σ' H' Q)
def kH:Be X [] tS:=by intro p s a H v u Q I r h;let⟨e,h⟩:=h;subst e;cases r;exact assignInOrder_nil #[a,H,I,h]
def jA(b:PG X e t)(c:Be X E u)
  (d:↥((assignEach (e::E) X.env).map (·.2)=assign e X.env::(assignEach E X.env).map (·.2))):Be X (e::E) (dB t u):=by
 intro p s f H V U Q I r h;let⟨v,k,g,h⟩:=h;subst g;cases r with
 |cons r R=>rw[d];erw[assignInOrder_cons$ aL (b p s f H _ _ _ I r h) λ_ S z=>?_];let⟨a,i,j,q⟩:=z;exact c p S a i _ _ Q j R q
inductive tU(K:Ω)(n:Nat)(t:sH)(v:V)(c:St)(H:Hp)(Q:St->Hp->Prop):Prop
 |mk(a b:_)(_:v= .ref a)(_:aB K H a b)(_:b.length=n)(_:t b c H Q)
def qg{n:Nat}(g:X.calm=ν)(h:Be X E t)
  (i:↥((assignEach E X.env).length=n)) (c:↥((assignEach E X.env).findIdx? (·.1)=ζ)):PG X (.Tuple E k pos) (tU X.K n t):=by
 intro p s f H v u Q I r d;let⟨a,x,j,l,m,d⟩:=d;subst j;cases r;let⟨q,R,w,B⟩:=I.tuple l;erw[assign_Tuple_tuple (I.ok.hd g) w (by simp [i,<- m,R.length]) c λy z=>?_];let A:ap X p f H { s with heap:=y }:=I.kept (t':=s.toks) λb o e=>z b o (MG$ My e) e;exact h p _ f H x _ Q A (by simpa using R) d
def CW(T b:TE)(t:Cm):TG:=λv a H Q=>T a H λo h=>b a h λi c=>t o i v c λd=>Q a d
def Jm{o i:dr}{T c:TE}{t:Cm}(d:PE X o T)(e:PE X i c)(f:EY X t)
  (g:∀v,assign (.Subscript o i pos) X.env v=(do
   let O <- mL [v] (eval o X.env)
   let a <- mL [v,O] (eval i X.env)
   standAt pos
   mL [v,O,a] (setItem O a v)
   release [v,O,a] []):=by intro _;rfl):PG X (.Subscript o i pos) (CW T c t):=by
 intro p s b H v u Q I r h;rw[g];erw[Ms$ MW$ aL (d p s b H _ I h) λO S z=>?_];let⟨x,j,k,R,q⟩:=z;erw[Ms$ MW$ aL (e p S b j _ k q) λa l z=>?_];let⟨y,m,n,w,A⟩:=z;erw[Ms$ Oy$ Ms$ MW$ aL (f p l b m x y v O a u _ n R w r A) λ_ E z=>?_];let⟨B,C,D⟩:=z;exact wpAny_release #[b,B,C,D]
def dy(t:TE)(g:TG):TS:=λD a H=>t a H λx h=>g x a h D.nx
def zd{t e:dr}{T:TE}{g:TG}(b:PE X e T)(c:PG X t g)(d:↥(swapsWithSole [t] e pos.line X.env=pure μ))(f:↥(swappedStores [t] e X.env=pure ζ))
  (i:↥((assignEach [t] X.env).map (·.2)=[assign t X.env])):PS X (.Assign [t] e pos) (dy T g):=by
 intro p s a H D I h;erw[wpAny_Assign_stores (aL (b p s a H _ I h) λv S z=>?_) d f];let⟨x,j,k,r,Q⟩:=z;rw[i];exact aL (c p S a j x v _ k r Q) λ_ l q=>q
def ze{i:Nat}{x:π}{e:dr}{t:TE}{p:Pos}(a:X.N.Nodup)(b:X.N[i]?=δ x)(c:xw X.env.scope x)(d:PE X e t)(f:↥(swapsWith e (δ$ .Name x p) pos.line X.env=pure μ))(g:autoParam (X.fn x=ν∨X.env.scope.names.lookup x=δ .local) Wb._auto_1):
  PS X (.Assign [.Name x p] e pos) (dy t$ bn i):=by
 intro P s j H D I h;erw[wpAny_Assign_Name (aL (d P s j H _ I h) λv S z=>?_) f];let⟨y,k,l,r,q⟩:=z;exact zD l a b c r (λn m=>#[_,k,m,q]) g
inductive Hn(i:Nat)(a:TE)(b:Ii)(D:a6)(c:St)(H:Hp):Prop
 |mk(x:_)(_:c[i]?=δ (δ x))(_:a c H λy H1=>b x y H1 λz H2=>D.nx (c.set i (δ z)) H2)
def DQ{i:Nat}(q:X.N.Nodup)(g:X.N[i]?=δ x)(f:xw X.env.scope x)(t:PE X e T)(B:K' X o C)(E:autoParam (X.fn x=ν∨X.env.scope.names.lookup x=δ .local) Wb._auto_1):
  PS X (.AugAssign (.Name x j) o e pos) (Hn i T C):=by
 intro p s n H D I h;let⟨v,F,h⟩:=h;let⟨m,J,K⟩:=I.loc;let V:HN X.env.scope x:=by rcases f with k |k;exact .inl k;exact .inr$ .inl k
 let⟨u,r,l⟩:=K i x v g F V;erw[wpAny_AugAssign_Name ?_];let G:ξ (υ X.prog X.w) X.A (eval e X.env) (λw S=>ξ (υ X.prog X.w) X.A (inplaceOp o u w) (λr d=>ξ (υ X.prog X.w) X.A (storeName X.env x r) (λ_=>SP X p D .next) X.xe d) X.xe S) X.xe s:=by erw[aL (t p s n H _ I h) λw L a=>?_];let⟨y,M,O,R,Q⟩:=a;erw[aL (B p L n M v y u w _ O r R Q) λz s2 a=>?_];let⟨zv,P,U,W,Y⟩:=a;exact zD U q g f W (λs3 I3=>#[_,P,I3,Y]) E
 rcases l with ⟨hk,hm⟩ | ⟨hk,c,hc,b⟩
 .exact Ur I.ok.kind hk J hm G
 .rcases hk with hk |hk
  .exact UA I.ok.kind hk hc b G
  .rcases f with k |k
   .let:X.env.scope.names.lookup x=δ .free:=hk;rw[k]at this;cases this
   .let:X.env.scope.names.lookup x=δ .free:=hk;rw[k]at this;cases this
inductive Lh(f:Int->Int->Int)(x y:V)(H:Hp)(Q:VK):Prop
 |mk(i j:_)(_:x= .int i)(_:y= .int j)(_:Q (.int (f i j)) H)
def C2:K' X .Add (Lh λi j=>i+j):=by intro p s a H x y v u Q I r R h;let⟨i,j,e,E,q⟩:=h;subst e;subst E;let⟨t,rfl⟩:=r;let⟨T,rfl⟩:=R;exact iadd_int #[.int _,H,I.tok _,#[_,Z],q]
end
section
variable {X:Cx}{pos:Pos}
def wP(c:TT)(t:TS):TS:=λD a H=>∃W:Nat->St->Hp->Prop,(∃m,W m a H)/\∀m a H,W m a H->
 c a H λb h=>if b=ν then ∃N:St->Hp->Prop,(∀d e,N d e->∃M,M < m/\W M d e)/\t { D with nx:=N,ct:=N,bk:=D.nx } a h else D.nx a h
def K8(o:PassesOwn (υ X.prog X.w) X.A X.env X.xe)(E:PT X c T)(F:mz X B G):PS X (.While c B [] pos) (wP T G):=by
 intro p s J H D I h;obtain⟨W,⟨M,K⟩,t⟩:=h;erw[wpAny_While$ codeAny_whileLoop (λn S=>∃e r,ap X p e r S/\W n e r) ?_ M #[J,H,I,K]];rintro n L ⟨d,u,O,P⟩;erw[OL o$ aL (E p L d u _ O$ t n d u P) λb R z=>?_];let⟨x,y,q⟩:=z;cases b with
 |true=>
  let⟨N,C,q⟩:=q;rw[MQ Z];erw[OL o$ aL (F p R d x _ y q) λf U Q=>?_];cases f with
  |next |cont=>let⟨a,g,i,j⟩:=Q;let⟨m,k,l⟩:=C a g j;exact#[m,k,a,g,i,l]
  |brk |ret v=>exact Q
 |false=>rw[MS MJ];exact O0 #[d,x,y,q]
end
structure It where
 go:Nat->Hp->Prop
 yld:Nat->Hp->V->Hp->Prop
 stop:Nat->Hp->Prop
def dS(X:Cx)(P:List (ε×gm))(H:Hp)(b:ε):Prop:=
 H b=ζ/\b≠X.env.locals/\b∉X.fs/\(b∈X.ex∨X.s₀.heap.objs.size<=b)/\(∀x c,X.env.cells.lookup x=δ c->c≠b)/\∀p∈X.pn++P,p.1≠b
def ap.fpOk{X:Cx}{d:Hp}(I:ap X a i H s)(h:s.heap.objs.size<=b)(f:d b=ζ):dS X a d b:=by
 erw[#[f,Nz$ MN I.lt h,I.nofs h,.inr$ MT I.sz h,λx c e z=>?_,λp g z=>?_]]
 .let⟨v,q⟩:=I.cell x c e;exact absurd (MN q.lt (by rw[z];exact h))$ Nk _
 .exact absurd (MN (My (I.pin p g).1) (by rw[z];exact h))$ Nk _
structure pI(P:ψ)(w:bU)(K:Ω)(tg:dr)(J:It)(fp:List ε)(it:ε)(tn:Nat->ef->Prop):Prop where
 mem:it∈fp
 obj:∀i h,tn i h->∀b∈fp,∃o,h.get? b=δ o/\∀v,o.data≠ .cell v
 keep:∀i h h',tn i h->(∀b∈fp,∀o,h.get? b=δ o->h'.get? b=δ o)->tn i h'
 item:∀(X:Cx),X.prog=P->X.w=w->X.K=K->X.calm=ν->∀(i:Nat) (pins:List (ε×gm)) (s:θ) (σ:St) (H:Hp) (E:η->θ->Prop),ap X pins σ H s->(∀b∈fp,dS X pins H b)->tn i s.heap->J.go i H->
  ξ (υ P w) X.A (pyNext$ .ref it) (λr s1=>∃u,r=δ u/\
   ξ (υ P w) X.A (letOwnedTupleGo tg (.ref it) u) (λ_ s2=>∃x H',ap X pins σ H' s2/\aC x u/\J.yld i H x H'/\tn (i+1) s2.heap/\∀b∈fp,H' b=ζ) E s1) E s
 done:∀(X:Cx),X.prog=P->X.w=w->X.K=K->X.calm=ν->∀(i:Nat) (pins:List (ε×gm)) (s:θ) (σ:St) (H:Hp) (E:η->θ->Prop),ap X pins σ H s->(∀b∈fp,dS X pins H b)->tn i s.heap->J.stop i H->
  ξ (υ P w) X.A (pyNext$ .ref it) (λr s1=>r=ζ/\ap X pins σ H s1) E s
 self:∀(A:cJ) (i:Nat) (s:θ) (Q:η->θ->Prop) (E:η->θ->Prop),tn i s.heap->Q (.ref it) s->ξ (υ P w) A (pyIter$ .ref it) Q E s
abbrev TI:=St->Hp->(It->Hp->Prop)->Prop
def I9(X:Cx)(p:List (ε×gm))(a:St)(T:dr)(R:It->Hp->Prop)(i:η)(s:θ):Prop:=
 ∃(I:ε) (f:List ε) (t:Nat->ef->Prop) (J:It) (H:Hp),i= .ref I/\ap X p a H s/\pI X.prog X.w X.K T J f I t/\t 0 s.heap/\(∀b∈f,dS X p H b)/\R J H
def PI(X:Cx)(t iter:dr)(W:TI):Prop:=
 ∀(p:List (ε×gm)) (s:θ) (a:St) (H:Hp) (R:It->Hp->Prop),ap X p a H s->W a H R->
  ξ (υ X.prog X.w) X.A (eval iter X.env) (λv S=>ξ (υ X.prog X.w) X.A (pyIter v) (I9 X p a t R) X.xe S) X.xe s
def XZ{s : θ}{n : String}{Q : Unit -> θ -> Prop}(a : s.heap.get? i = δ o)(b : o.cls = .type n)(c : o.data = .fields v)
    (d : ["enumerate", "zip", "dict_itemiterator", "dict_reverseitemiterator", "odict_iterator", "itertools.zip_longest", "itertools.pairwise"].contains n = μ) (H : Q () s) : ξ M A (letOwnedTupleGo t (.ref i) u) Q E s := by
  unfold letOwnedTupleGo;cases t <;> first
    | exact Mu H
    | (cases u <;> first
        | exact Mu H
        | (refine Ms (UM a ?_)
           rw [b, c];show ξ M A (if (["enumerate", "zip", "dict_itemiterator", "dict_reverseitemiterator", "odict_iterator", "itertools.zip_longest", "itertools.pairwise"].contains n && v[0]? == δ (rawInt _)) = ν then _ else _) Q E s;rw [MS (by intro h; rw [d, UK] at h; cases h)];exact Mu H))
def xp(K:Ω)(a:ε):It:=
 #[λi H=>∃X x,aF K H a X/\X[i]?=δ x,λi H x h=>h=H/\∀X,aF K H a X->X[i]?=δ x,λi H=>∃X,aF K H a X/\X.length<=i]
def xq(K:Ω)(a:ε):It:=
 #[λi H=>∃X x,aB K H a X/\X[i]?=δ x,λi H x h=>h=H/\∀X,aB K H a X->X[i]?=δ x,λi H=>∃X,aB K H a X/\X.length<=i]
def xJ(lo:Int)(n:Nat):It:=#[λi _=>i < n,λi H x h=>h=H/\x= .int (lo+i),λi _=>n<=i]
def Z9{P:ψ}{K:Ω}(a g:ε):pI P w K tg (xp K a) [g] g (λi h=>h.IsListIter g a i) where
 mem:=by simp
 obj:=λi h st b j=>by
  let e:b=g:=by simpa using j
  subst e;let⟨o,e,c,d⟩:=st;exact#[o,e,λv z=>by rw[d]at z;cases z]
 keep:=λi h l st k=>st.at λo e=>k g LM o e
 item:=by intro X q r t L i f s M H E I m st y;subst q r t;let⟨N,x,n,A⟩:=y;let⟨B,R,p,O⟩:=I.list n;let⟨u,Q,T⟩:=R.get A;let⟨F,C,U,D,G,J⟩:=m g LM;erw[Rt st p.isList (x:=u) (by simpa using Q) λl S V=>?_];let W:ap X f M H { s with heap:=l }:=I.turned (t':=s.toks) (λb o j e=>(V.2 b j).trans e) F C D G J;let⟨o,e,c,d⟩:=id S;exact#[u,Z,XZ (s:={ s with heap:=l }) e c d LO #[x,H,W,T,#[Z,λys Y=>by rw[I.list_inj Y n];exact A],S,λb j=>(m b j).1]]
 done:=by intro X q r t L i f s M H E I m st y;subst q r t;let⟨N,n,A⟩:=y;let⟨B,R,p,O⟩:=I.list n;let⟨F,C,U,D,G,J⟩:=m g LM;let hl:=R.length;exact Ue (I.ok.hd L) st p.isList (by simp;omega) λl eb=>#[Z,I.turned (t':=s.toks) (λb o j e=>eb b o j e) F C D G J]
 self:=λ_ _ _ _ _ st h=>Uf st h
def YM{P:ψ}{K:Ω}(a g:ε):pI P w K tg (xq K a) [g] g (λi h=>h.IsTupleIter g a i) where
 mem:=by simp
 obj:=λi h st b j=>by
  let e:b=g:=by simpa using j
  subst e;let⟨o,e,c,d⟩:=st;exact#[o,e,λv z=>by rw[d]at z;cases z]
 keep:=λi h m st k=>st.at λo e=>k g LM o e
 item:=by intro X r t y L i f s M H E I n st A;subst r t y;let⟨N,x,q,B⟩:=A;let⟨l,R,p,O⟩:=I.tuple q;let⟨u,Q,T⟩:=R.get B;let⟨F,C,U,D,G,J⟩:=n g LM;erw[wpAny_pyNext_tuple_item st (show s.heap.IsTuple a l.toArray from p) (x:=u) (by simpa using Q) λm S V=>?_];let W:ap X f M H { s with heap:=m }:=I.turned (t':=s.toks) (λb o j e=>(V.2 b j).trans e) F C D G J;let⟨o,e,c,d⟩:=id S;exact#[u,Z,XZ (s:={ s with heap:=m }) e c d LO #[x,H,W,T,#[Z,λys Y=>by rw[I.tuple_inj Y q];exact B],S,λb j=>(n b j).1]]
 done:=by intro X r t y L i f s M H E I n st A;subst r t y;let⟨N,q,B⟩:=A;let⟨l,R,p,O⟩:=I.tuple q;let⟨F,C,U,D,G,J⟩:=n g LM;let hl:=R.length;exact wpAny_pyNext_tuple_end (I.ok.hd L) st (show s.heap.IsTuple a l.toArray from p) (by simp;omega) λm eb=>#[Z,I.turned (t':=s.toks) (λb o j e=>eb b o j e) F C D G J]
 self:=λ_ _ _ _ _ st h=>wpAny_pyIter_tupleiter st h
def YN{P:ψ}{K:Ω}(a:ε)(lo:Int)(n:Nat):pI P w K M (xJ lo n) [a] a (λi h=>IsRangeIter h a (lo+(i:Nat)*1) ((n:Int) - (i:Nat)) 1) where
 mem:=by simp
 obj:=λi h st b c=>by
  let e:b=a:=by simpa using c
  subst e;exact#[_,st,λv z=>by
   let B:Data.fields _=Data.cell v:=z;cases B]
 keep:=λi h d st k=>k a LM _ st
 item:=by intro X g j l m i p s A H E I f st q;subst g j l;let⟨F,r,C,u,x,y⟩:=f a LM;let W:=Walks.range (prog:=X.prog) (w:=X.w) (I.ok.hd m) a lo 1 n;erw[W.item i s _ _ q st λv d T D S G=>?_];let⟨t,rfl⟩:=D;let J:ap X p A H { s with heap:=d,toks:=T }:=I.turned (λb o c e=>G b o (by simpa using c) e) F r u x y;erw[#[_,Z,XZ (s:={ s with heap:=d,toks:=T }) (n:="range_iterator") S Z Z LO #[.int$ lo+i,H,J,#[t,?_],#[Z,Z],S,λb c=>(f b c).1]]];rw[Int.mul_one]
 done:=by intro X g j l m i p s A H E I f st q;subst g j l;let⟨F,r,C,u,x,y⟩:=f a LM;exact wpAny_pyNext_range_end (I.ok.hd m) st (by let:n<=i:=q;omega) λd L=>#[Z,I.turned (t':=s.toks) (λb o c e=>L b o c e) F r u x y]
 self:=λ_ _ _ _ _ st h=>wpAny_pyIter_rangeiter st h
section
variable {X:Cx}{tg:dr}
inductive t9(K:Ω)(R:It->Hp->Prop)(x:V)(b:Hp):Prop
 |mk(a:_)(_:x= .ref a)(_:∃xs,aF K b a xs)(_:R (xp K a) b)
def tY(K:Ω)(t:TE):TI:=λa H R=>t a H (t9 K R)
inductive Bx(K:Ω)(R:It->Hp->Prop)(x:V)(b:Hp):Prop
 |mk(a:_)(_:x= .ref a)(_:∃xs,aB K b a xs)(_:R (xq K a) b)
def Iz(K:Ω)(t:TE):TI:=λa H R=>t a H (Bx K R)
def qd(c:PE X l t):PI X tg l (tY X.K t):=by
 intro P s d H R I h;erw[aL (c P s d H _ I h) λv S z=>?_];let⟨x,f,i,r,Q⟩:=z;obtain⟨a,e,⟨m,g⟩,q⟩:=Q;subst e;cases r;let⟨j,n,p,u⟩:=i.list g;erw[O6 p.isList ?_];erw[#[S.heap.objs.size,[S.heap.objs.size],_,_,f,Z,i.kept (t':=S.toks) λb o e=>Mt _ e,Z9 a _,#[_,MD _ Z,Z,Z],λb k=>?_,q]];let e:b=S.heap.objs.size:=by simpa using k
 subst e;exact i.fpOk (Mx _)$ i.hok.fresh$ Mx _
def zp(d:PE X l t):PI X tg l (Iz X.K t):=by
 intro P s f H R I h;erw[aL (d P s f H _ I h) λv S z=>?_];let⟨x,g,i,r,Q⟩:=z;obtain⟨a,e,⟨m,j⟩,q⟩:=Q;subst e;cases r;let⟨c,n,p,u⟩:=i.tuple j;erw[UL (show S.heap.IsTuple a c.toArray from p) ?_];erw[#[S.heap.objs.size,[S.heap.objs.size],_,_,g,Z,i.kept (t':=S.toks) λb o e=>Mt _ e,YM a _,#[_,MD _ Z,Z,Z],λb k=>?_,q]];let e:b=S.heap.objs.size:=by simpa using k
 subst e;exact i.fpOk (Mx _)$ i.hok.fresh$ Mx _
def vp{R:It->Hp->Prop}{lo:Int}(I:ap X p a H s)(c: -(2 ^ 62)<=lo)(d:lo < 2 ^ 62)(f: -(2 ^ 62)<=h)(g:h < 2 ^ 62)
  (q:R (xJ lo (h - lo).toNat) H):ξ (υ X.prog X.w) X.A (pyIter$ .ref s.heap.objs.size) (I9 X p a tg R) E { s with heap:=s.heap.push { cls:=.type "range",data:=.fields (ι [.int lo t,.int h u,.int 1 v]) },toks:=T }:=by
 erw[wpAny_pyIter_range (IsRange.new ..) (small_one c d f g) ?_];let i:ap X p a H { s with heap:=s.heap.push { cls:=.type "range",data:=.fields (ι [.int lo t,.int h u,.int 1 v]) },toks:=T }:=I.kept λb o e=>Mt _ e;refine#[(s.heap.push { cls:=.type "range",data:=.fields (ι [.int lo t,.int h u,.int 1 v]) }).objs.size,[(s.heap.push { cls:=.type "range",data:=.fields (ι [.int lo t,.int h u,.int 1 v]) }).objs.size],_,_,H,Z,
  i.kept (t':=T) λb o e=>Mt _ e,YN _ lo (h - lo).toNat,?_,λb j=>?_,q]
 .let k:lo+((0:Nat):Int)*1=lo:=by simp
  let l:(((h - lo).toNat:Nat):Int) - ((0:Nat):Int)=Builtin.Range.rangeSize lo h 1:=by rw[rangeSize_one];split<;>omega
  show IsRangeIter _ _ (lo+((0:Nat):Int)*1) ((((h - lo).toNat:Nat):Int) - ((0:Nat):Int)) 1;rw[k,l];exact MD _ Z
 .let e:b=(s.heap.push { cls:=.type "range",data:=.fields (ι [.int lo t,.int h u,.int 1 v]) }).objs.size:=by simpa using j
  subst e;exact i.fpOk (Mx _)$ i.hok.fresh$ Mx _
inductive ua(R:It->Hp->Prop)(b:List V)(a:Hp):Prop
 |mk(j:Int)(_:b=[.int j])(_:-(2 ^ 62)<=j)(_:j < 2 ^ 62)(_:R (xJ 0 j.toNat) a)
def FK(t:TA):TI:=λa H R=>t a H (ua R)
def zr{a:dr}{T:TA}{p P:Pos}(c:Gl X "range")(d:X.mg "range"=ζ)(f:PA X [a] T)(g:↥(Θ [a] X.env=[(μ,eval a X.env)])):PI X tg (.Call (.Name "range" p) [a] [] P) (FK T):=by
 intro b s i H R I h;erw[Call_$ qJ I c d boot_range$ NA (aL (f P b s i H _ I h) λu S z=>?_) g Z];let⟨v,o,k,l,Q⟩:=z;let⟨j,e,Q,m,q⟩:=Q;subst e;cases l with
 |cons r n=>cases n;let⟨t,rfl⟩:=r;exact call_range_1$ vp k LN LN Q m (by simpa using q)
def Es(w:TI)(g:TG)(t:TS):TS:=λD a H=>w a H λJ d=>∃W:Nat->Nat->St->Hp->Prop,(∃m,W 0 m a d)/\∀i m a H,W i m a H->
 (J.stop i H/\D.nx a H)∨(J.go i H/\∃N:St->Hp->Prop,(∀b h,N b h->∃M,M < m/\W (i+1) M b h)/\∀x h,J.yld i H x h->g x a h λc e=>t { D with nx:=N,ct:=N,bk:=D.nx } c e)
def lO(f:List ε)(h:ef):List (ε×gm):=f.filterMap λb=>(h.get? b).map λo=>(b,o)
def j4{h:ef}(H:b∈f)(e:h.get? b=δ o):(b,o)∈lO f h:=List.mem_filterMap.mpr #[b,H,by rw[e];rfl]
def rq(H:p∈lO f h):p.1∈f/\h.get? p.1=δ p.2:=by
 let⟨b,a,e⟩:=List.mem_filterMap.mp H;cases q:h.get? b with
 |none=>rw[q]at e;cases e
 |some o=>rw[q]at e;let E:(b,o)=p:=Nn e;subst E;exact#[a,q]
def ap.pinned(I:ap X a c H s)(g:∀b∈f,dS X a H b)(i:∀b∈f,∃o,s.heap.get? b=δ o/\∀v,o.data≠ .cell v):ap X (a++lO f s.heap) c H s:=
 I.pins_of λp j=>(γ.mp j).elim (λz=>I.pin p (MF _ z)) λz=>by let⟨h,e⟩:=rq z;let⟨F,k,l,_⟩:=g p.1 h;let⟨o,E,d⟩:=i p.1 h;rw[e]at E;cases E;exact#[e,F,k,l,d]
def ap.unpinned(I:ap X (a++c) b H s):ap X a b H s:=I.pins_of λp h=>I.pin p (MF _$ Nb _ h)
def kP{iter:dr}{B:List da}{wi:TI}{g:TG}{tb:TS}{P:Pos}(C:PassesOwn (υ X.prog X.w) X.A X.env X.xe)(hc:X.calm=ν)(hi:PI X tg iter wi)(hg:PG X tg g)(c:mz X B tb)
  (hs:∀x,foldedSetIterable iter X.env x=pure x:=by intro _;rfl):PS X (.For tg iter B [] P) (Es wi g tb):=by
 intro p s σ H D I h;erw[wpAny_For (aL (hi p s σ H _ I h) λv s1 h1=>aL h1 λi0 s2 h2=>?_) hs];obtain⟨it,F,tn,J,H2,e,I2,T,O,f2,W,⟨m0,w0⟩,E⟩:=h2;subst e;let S:∀{t:Hp},(∀b∈F,t b=ζ)->∀b∈F,dS X p t b:=λhn b c=>#[hn b c,(f2 b c).2];erw[codeAny_forLoop_any (λn s'=>∃i j t,ap X p j t s'/\tn i s'.heap/\(∀b∈F,t b=ζ)/\W i n j t) ?_ m0 #[0,σ,H2,I2,O,λb c=>(f2 b c).1,w0]];rintro n s3 ⟨i,k,M,I3,G,K,w3⟩;rcases E i n k M w3 with ⟨stop,qn⟩ | ⟨go,N,hN,step⟩
 .erw[OL C$ aL (T.done X Z Z Z hc i p s3 k M X.xe I3 (S K) G stop) λr s4 z=>?_];let⟨R,I4⟩:=z;subst R;exact O0 #[k,M,I4,qn]
 .erw[OL C$ aL (T.item X Z Z Z hc i p s3 k M X.xe I3 (S K) G go) λr s4 z=>?_];let⟨u,R,h4⟩:=z;subst R;erw[OL C$ aL h4 λ_ s5 z=>?_];let⟨x,H5,I5,r5,y5,y,U⟩:=z;let V:=I5.pinned (S U) (T.obj _ _ y);erw[OL C$ aL (hg _ s5 k H5 x u _ V r5$ step x H5 y5) λ_ s6 z=>?_];let⟨Y,H6,I6,q6⟩:=z;erw[OL C$ aL (c _ s6 Y H6 _ I6 q6) λf s7 Q=>?_];let again:∀{a:St} {l:Hp},ap X (p++lO F s5.heap) a l s7->N a l->∃m,m < n/\∃i j t,ap X p j t s7/\tn i s7.heap/\(∀b∈F,t b=ζ)/\W i m j t:=λ{a l} q L=>by let⟨m',hm,w7⟩:=hN a l L;erw[#[m',hm,i+1,a,l,q.unpinned,T.keep _ _ _ y λb c o e=>(q.pin (b,o)$ MF _$ MF _$ j4 c e).1,λb c=>?_,w7]];let⟨o,e,d⟩:=T.obj _ _ y b c;exact(q.pin (b,o)$ MF _$ MF _$ j4 c e).2.1
  cases f with
  |next |cont=>let⟨a,l,q,L⟩:=Q;exact again q L
  |brk=>let⟨a,l,q,Q⟩:=Q;exact#[a,l,q.unpinned,Q]
  |ret v=>let⟨x7,a,l,q,r7,Q⟩:=Q;exact#[x7,a,l,q.unpinned,r7,Q]
end
def tP{K:Ω}{a:ε}{X:List V}{g:TG}{t:TS}{D:a6}{b:St}{H:Hp}(Pv:Nat->St->Hp->Prop)(k:Pv 0 b H)(l:∀i b H,i<=X.length->Pv i b H->aF K H a X)
  (n:∀i x b H,X[i]?=δ x->Pv i b H->g x b H λc j=>t { D with nx:=Pv (i+1),ct:=Pv (i+1),bk:=D.nx } c j) (o:∀b H,Pv X.length b H->D.nx b H):
  ∃W:Nat->Nat->St->Hp->Prop,(∃m,W 0 m b H)/\∀i m b H,W i m b H->
   ((xp K a).stop i H/\D.nx b H)∨((xp K a).go i H/\∃N:St->Hp->Prop,(∀d h,N d h->∃M,M < m/\W (i+1) M d h)/\∀x h,(xp K a).yld i H x h->g x b h λc j=>t { D with nx:=N,ct:=N,bk:=D.nx } c j):=by
 erw[#[λi m b H=>m=X.length - i/\i<=X.length/\Pv i b H,#[X.length,LM,MH _,k],?_]];rintro i m b H ⟨rfl,r,p⟩;let q:=l i b H r p;by_cases f:i < X.length
 .erw[.inr #[#[X,X[i],q,by simp [f]],Pv$ i+1,λd h P=>#[X.length - (i+1),LN,Z,f,P],λx h y=>?_]];let⟨e,y⟩:=y;subst e;exact n i x b _ (y X q) p
 .let e:i=X.length:=by omega
  subst e;exact .inl #[#[X,q,Mx _],o b H p]
def ye{K:Ω}{a:ε}{X:List V}{g:TG}{t:TS}{D:a6}{b:St}{H:Hp}(Pv:Nat->St->Hp->Prop)(k:Pv 0 b H)(l:∀i b H,i<=X.length->Pv i b H->aB K H a X)
  (n:∀i x b H,X[i]?=δ x->Pv i b H->g x b H λc j=>t { D with nx:=Pv (i+1),ct:=Pv (i+1),bk:=D.nx } c j) (o:∀b H,Pv X.length b H->D.nx b H):
  ∃W:Nat->Nat->St->Hp->Prop,(∃m,W 0 m b H)/\∀i m b H,W i m b H->
   ((xq K a).stop i H/\D.nx b H)∨((xq K a).go i H/\∃N:St->Hp->Prop,(∀d h,N d h->∃M,M < m/\W (i+1) M d h)/\∀x h,(xq K a).yld i H x h->g x b h λc j=>t { D with nx:=N,ct:=N,bk:=D.nx } c j):=by
 erw[#[λi m b H=>m=X.length - i/\i<=X.length/\Pv i b H,#[X.length,LM,MH _,k],?_]];rintro i m b H ⟨rfl,r,p⟩;let q:=l i b H r p;by_cases f:i < X.length
 .erw[.inr #[#[X,X[i],q,by simp [f]],Pv$ i+1,λd h P=>#[X.length - (i+1),LN,Z,f,P],λx h y=>?_]];let⟨e,y⟩:=y;subst e;exact n i x b _ (y X q) p
 .let e:i=X.length:=by omega
  subst e;exact .inl #[#[X,q,Mx _],o b H p]
def QX{lo:Int}{n:Nat}{g:TG}{t:TS}{D:a6}{a:St}{H:Hp}(Pv:Nat->St->Hp->Prop)(j:Pv 0 a H)
  (k:∀i a H,i < n->Pv i a H->g (.int$ lo+i) a H λb f=>t { D with nx:=Pv (i+1),ct:=Pv (i+1),bk:=D.nx } b f) (l:∀a H,Pv n a H->D.nx a H):
  ∃W:Nat->Nat->St->Hp->Prop,(∃m,W 0 m a H)/\∀i m a H,W i m a H->
   ((xJ lo n).stop i H/\D.nx a H)∨((xJ lo n).go i H/\∃N:St->Hp->Prop,(∀c h,N c h->∃M,M < m/\W (i+1) M c h)/\∀x h,(xJ lo n).yld i H x h->g x a h λb f=>t { D with nx:=N,ct:=N,bk:=D.nx } b f):=by
 erw[#[λi m a H=>m=n - i/\i<=n/\Pv i a H,#[n,LM,MH _,j],?_]];rintro i m a H ⟨rfl,o,p⟩;by_cases d:i < n
 .erw[.inr #[d,Pv$ i+1,λc h P=>#[n - (i+1),LN,Z,d,P],λx h y=>?_]];let⟨e,y⟩:=y;subst e y;exact k i a _ d p
 .let e:i=n:=by omega
  subst e;exact .inl #[Mx _,l a H p]
abbrev R2:=V->V->Hp->VK->Prop
def gg(X:Cx)(f:η->η->Sem η)(r:R2):Prop:=
 ∀(p:List (ε×gm)) (s:θ) (a:St) (H:Hp) (x y:V) (v u:η) (Q:VK),ap X p a H s->aC x v->aC y u->r x y H Q->
  ξ (υ X.prog X.w) X.A (f v u) (EP X p a Q) X.xe s
def Il(X:Cx)(f:η->Sem η)(r:V->Hp->VK->Prop):Prop:=
 ∀(p:List (ε×gm)) (s:θ) (a:St) (H:Hp) (x:V) (v:η) (Q:VK),ap X p a H s->aC x v->r x H Q->
  ξ (υ X.prog X.w) X.A (f v) (EP X p a Q) X.xe s
def dI(X:Cx)(f:η)(r:List V->Hp->VK->Prop):Prop:=
 ∀(p:List (ε×gm)) (s:θ) (a:St) (H:Hp) (x:List V) (u:List η) (Q:VK),ap X p a H s->aw x u->r x H Q->
  ξ (υ X.prog X.w) X.A (call f u) (EP X p a Q) X.xe s
def Ik(X:Cx)(r:V->Hp->(Bool->Hp->Prop)->Prop):Prop:=
 ∀(p:List (ε×gm)) (s:θ) (a:St) (H:Hp) (x:V) (v:η) (Q:Bool->Hp->Prop),ap X p a H s->aC x v->r x H Q->
  ξ (υ X.prog X.w) X.A (truthy v) (TP X p a Q) X.xe s
def eh(r:R2)(t T:TE):TE:=λa H Q=>t a H λx h=>T a h λy b=>r x y b Q
def LB(r:V->Hp->VK->Prop)(t:TE):TE:=λa H Q=>t a H λx h=>r x h Q
inductive rI(C:Int->Int->Prop)(g:Int->Int->V)(x y:V)(H:Hp)(Q:VK):Prop
 |mk(i j:_)(_:x= .int i)(_:y= .int j)(_:C i j)(_:Q (g i j) H)
inductive xE(g:Int->Int->V)(x y:V)(H:Hp)(Q:VK):Prop
 |mk(i j:_)(_:x= .int i)(_:y= .int j)(_:Q (g i j) H)
inductive rU(g:Int->V)(x:V)(H:Hp)(Q:VK):Prop
 |mk(i:_)(_:x= .int i)(_:Q (g i) H)
section
variable {X:Cx}{a b c:dr}{ta tb tc:TE}{pos:Pos}
def Cu(k:PE X a ta)(l:PE X b tb){R:V->V->Hp->Prop}(I:ap X p e H s)
  (h:ta e H λx j=>tb e j λy d=>R x y d)  {f:η->η->Sem η}
  (m:∀v u i x y d,ap X p e d i->aC x v->aC y u->R x y d->ξ (υ X.prog X.w) X.A (f v u) Q X.xe i):
  ξ (υ X.prog X.w) X.A (eval a X.env) (λv S=>ξ (υ X.prog X.w) X.A (eval b X.env) (λu g=>ξ (υ X.prog X.w) X.A (f v u) Q X.xe g) X.xe S) X.xe s:=by
 erw[aL (k p s e H _ I h) λv n z=>?_];let⟨x,j,o,r,q⟩:=z;erw[aL (l p n e j _ o q) λu i z=>?_];let⟨y,d,t,B,C⟩:=z;exact m v u i x y d t r B C
def jw{o:Operator}{r:R2}(d:gg X (binaryOp o) r)(e:PE X a ta)(f:PE X b tb):PE X (.BinOp a o b pos) (eh r ta tb):=by intro p s g H Q I h;exact wpAny_BinOp$ Cu e f I h λv u S x y i j R k q=>d p S g i x y v u Q j R k q
def X0(e:Il X (unaryOp o) r)(f:PE X a ta):PE X (.UnaryOp o a pos) (LB r ta):=by intro p s d H Q I h;exact UnaryOp_$ aL (f p s d H _ I h) λv S #[x,g,i,R,q]=>e p S d g x v Q i R q
def HS{f:η->η->Sem η}{C:Int->Int->Prop}{g:Int->Int->Int}
  (rule:∀(i j:Int) (t u:Tok) (s:θ) (Q:η->θ->Prop) (E:η->θ->Prop),C i j->Q (.int (g i j) s.toks) { s with toks:=s.toks+1 }->ξ (υ X.prog X.w) X.A (f (.int i t)$ .int j u) Q E s):
  gg X f (rI C λi j=>.int (g i j)):=by
 intro p s e H x y v u Q I r R h;let⟨i,j,rfl,rfl,d,q⟩:=h;let⟨t,rfl⟩:=r;let⟨T,rfl⟩:=R;exact rule i j t T s _ _ d #[.int$ g i j,H,I.tok _,#[_,Z],q]
def Gn{f:η->η->Sem η}{g:Int->Int->Int}
  (rule:∀(i j:Int) (t u:Tok) (s:θ) (Q:η->θ->Prop) (E:η->θ->Prop),Q (.int (g i j) s.toks) { s with toks:=s.toks+1 }->ξ (υ X.prog X.w) X.A (f (.int i t)$ .int j u) Q E s):
  gg X f (xE λi j=>.int (g i j)):=by
 intro p s d H x y v u Q I r R h;let⟨i,j,rfl,rfl,q⟩:=h;let⟨t,rfl⟩:=r;let⟨T,rfl⟩:=R;exact rule i j t T s _ _ #[.int$ g i j,H,I.tok _,#[_,Z],q]
def DE{f:η->η->Sem η}{g:Int->Int->Bool}
  (rule:∀(i j:Int) (t u:Tok) (s:θ) (Q:η->θ->Prop) (E:η->θ->Prop),Q (.bool$ g i j) s->ξ (υ X.prog X.w) X.A (f (.int i t)$ .int j u) Q E s):
  gg X f (xE λi j=>.bl (g i j)):=by
 intro p s d H x y v u Q I r R h;let⟨i,j,rfl,rfl,q⟩:=h;let⟨t,rfl⟩:=r;let⟨T,rfl⟩:=R;exact rule i j t T s _ _ #[.bl$ g i j,H,I,Z,q]
def HY(i j:Int):Prop:=0<=j/\j<=1000000/\i.natAbs < 2 ^ 64
def xG(i j:Int):Prop:=(-(2 ^ 64) < i/\i < 2 ^ 64)∨(-(2 ^ 64) < j/\j < 2 ^ 64)
def xG.ok(h:xG i j):IntMulOk i j:=by
 rcases h with ⟨H,d⟩ | ⟨H,d⟩
 .exact .of_left$ intBits_le_64 H d
 .exact .of_right$ intBits_le_64 H d
def jS:gg X (binaryOp .Add) (xE λi j=>.int (i+j)):=Gn λ_ _ _ _ _ _ _ q=>add_int q
def kQ:gg X (binaryOp .Sub) (xE λi j=>.int (i - j)):=Gn λ_ _ _ _ _ _ _ q=>sub_int q
def zH:gg X (binaryOp .Mult) (rI xG λi j=>.int (i*j)):=HS λ_ _ _ _ _ _ _ h q=>mul_int q h.ok
def zk:gg X (binaryOp .Mod) (rI (λ_ j=>0 < j) λi j=>.int (i % j)):=HS λi j _ _ _ _ _ h q=>by let H:(0:Int) < j:=h;exact mod_int' LN (by rw[Int.fmod_eq_emod_of_nonneg i LN];exact q)
def JU:gg X (binaryOp .Pow) (rI HY λi j=>.int (i ^ j.toNat)):=HS λ_ _ _ _ _ _ _ h q=>pow_int_small h.1 h.2.1 h.2.2 q
def LD{f:η->Sem η}{g:Int->Int}
  (rule:∀(i:Int) (t:Tok) (s:θ) (Q:η->θ->Prop) (E:η->θ->Prop),Q (.int (g i) s.toks) { s with toks:=s.toks+1 }->ξ (υ X.prog X.w) X.A (f$ .int i t) Q E s):
  Il X f (rU λi=>.int (g i)):=by
 intro p s d H x v Q I r h;let⟨i,rfl,q⟩:=h;let⟨t,rfl⟩:=r;exact rule i t s _ _ #[.int$ g i,H,I.tok _,#[_,Z],q]
def KM:Il X (unaryOp .USub) (rU λi=>.int (-i)):=LD λ_ _ _ _ _ q=>neg_int q
end
def G8:V->V->Bool
 | .non,.non=>ν | .non,.int _=>ν | .int _,.non=>ν | .non,.bl _=>ν | .bl _,.non=>ν | .non,.str _=>ν | .str _,.non=>ν
 | .int _,.int _=>ν | .bl _,.bl _=>ν | .str _,.str _=>ν | .byt _,.byt _=>ν
 | .int _,.str _=>ν | .str _,.int _=>ν | .bl _,.str _=>ν | .str _,.bl _=>ν
 |_,_=>μ
def Gx:R2:=λx y H Q=>G8 x y=ν/\Q (.bl$ decide$ x=y) H
def Lv:R2:=λx y H Q=>G8 x y=ν/\Q (.bl (!decide (x=y))) H
def Zv:decide (tT i=tT j)=(i==j):=by rw[Rl];simp
def tj:decide (V.bl i=V.bl j)=(i==j):=by rw[Rl];simp
def Zw:decide (ti i=ti j)=(i==j):=by rw[Rl];simp
def Zx:decide (V.byt i=V.byt j)=(i.toList==j.toList):=by rw[Rl];cases i;cases j;simp
section
variable {X:Cx}{a b c:dr}{ta tb tc:TE}{pos:Pos}
def jM{Q:VK}(I:ap X p d H s)(q:Q (.bl k) H)(e:k=f):EP X p d Q (.bool f) s:=by subst e;exact#[.bl k,H,I,Z,q]
def zJ:gg X (compareOp .Eq) Gx:=by
 intro p s e H x y v u Q I R r h;let⟨d,q⟩:=h;cases x with
 |non=>
  cases R;cases y with
  |non=>cases r;exact Vo (jM I q LM)
  |bl j=>cases r;exact Vq (jM I q LM)
  |int j=>let⟨T,rfl⟩:=r;exact Vp (jM I q LM)
  |str j=>let⟨T,rfl⟩:=r;exact Vn (jM I q LM)
  |_=>exact absurd (show μ=ν from d) MJ
 |bl i=>
  cases R;cases y with
  |non=>cases r;exact Vs (jM I q LM)
  |bl j=>cases r;exact eq_bool (jM I q tj)
  |str j=>let⟨T,rfl⟩:=r;exact Vc (jM I q LM)
  |_=>exact absurd (show μ=ν from d) MJ
 |int i=>
  let⟨t,rfl⟩:=R;cases y with
  |non=>cases r;exact Vr (jM I q LM)
  |int j=>let⟨T,rfl⟩:=r;exact eq_int (jM I q Zv)
  |str j=>let⟨T,rfl⟩:=r;exact Vb (jM I q LM)
  |_=>exact absurd (show μ=ν from d) MJ
 |str i=>
  let⟨t,rfl⟩:=R;cases y with
  |non=>cases r;exact Vm (jM I q LM)
  |bl j=>cases r;exact Va (jM I q LM)
  |int j=>let⟨T,rfl⟩:=r;exact U' (jM I q LM)
  |str j=>let⟨T,rfl⟩:=r;exact eq_str (jM I q Zw)
  |_=>exact absurd (show μ=ν from d) MJ
 |byt i=>
  let⟨t,rfl⟩:=R;cases y with
  |byt j=>let⟨T,rfl⟩:=r;exact PySem.W.eq_bytes (jM I q Zx)
  |_=>exact absurd (show μ=ν from d) MJ
 |_=>cases y<;>exact absurd (show μ=ν from d) MJ
def Jx:gg X (compareOp .NotEq) Lv:=by
 intro p s e H x y v u Q I R r h;let⟨d,q⟩:=h;cases x with
 |non=>
  cases R;cases y with
  |non=>cases r;exact Vh (jM I q LM)
  |bl j=>cases r;exact Vj (jM I q LM)
  |int j=>let⟨T,rfl⟩:=r;exact Vi (jM I q LM)
  |str j=>let⟨T,rfl⟩:=r;exact Vg (jM I q LM)
  |_=>exact absurd (show μ=ν from d) MJ
 |bl i=>
  cases R;cases y with
  |non=>cases r;exact Vl (jM I q LM)
  |bl j=>cases r;exact ne_bool (jM I q (NK not tj))
  |str j=>let⟨T,rfl⟩:=r;exact U9 (jM I q LM)
  |_=>exact absurd (show μ=ν from d) MJ
 |int i=>
  let⟨t,rfl⟩:=R;cases y with
  |non=>cases r;exact Vk (jM I q LM)
  |int j=>let⟨T,rfl⟩:=r;exact ne_int (jM I q (NK not Zv))
  |str j=>let⟨T,rfl⟩:=r;exact U8 (jM I q LM)
  |_=>exact absurd (show μ=ν from d) MJ
 |str i=>
  let⟨t,rfl⟩:=R;cases y with
  |non=>cases r;exact Vf (jM I q LM)
  |bl j=>cases r;exact U7 (jM I q LM)
  |int j=>let⟨T,rfl⟩:=r;exact U6 (jM I q LM)
  |str j=>let⟨T,rfl⟩:=r;exact ne_str (jM I q (NK not Zw))
  |_=>exact absurd (show μ=ν from d) MJ
 |byt i=>
  let⟨t,rfl⟩:=R;cases y with
  |byt j=>let⟨T,rfl⟩:=r;exact PySem.W.ne_bytes (jM I q (NK not Zx))
  |_=>exact absurd (show μ=ν from d) MJ
 |_=>cases y<;>exact absurd (show μ=ν from d) MJ
def Kz:gg X (compareOp .Lt) (xE λi j=>.bl (decide$ i < j)):=DE λ_ _ _ _ _ _ _ q=>lt_int q
def J9:gg X (compareOp .Gt) (xE λi j=>.bl (decide$ j < i)):=DE λ_ _ _ _ _ _ _ q=>gt_int q
def uX:gg X (compareOp .GtE) (xE λi j=>.bl (decide$ j<=i)):=DE λ_ _ _ _ _ _ _ q=>ge_int q
def ax(b:dr)(h:↥(o≠ .In))(H:↥(o≠ .NotIn)):behindInMarks o b=μ:=by
 let e:(o==CmpOp.In)=μ:=by cases o<;>first |rfl |exact absurd Z h
 let E:(o==CmpOp.NotIn)=μ:=by cases o<;>first |rfl |exact absurd Z H
 cases b<;>simp [behindInMarks,e,E]
def kU(d:gg X (compareOp o) r)(e:PE X a ta)(f:PE X b tb)(g:behindInMarks o b=μ):PE X (.Compare a [o] [b] pos) (eh r ta tb):=by intro p s i H Q I h;exact wpAny_Compare1 (Cu e f I h λv u S x y j k R l q=>d p S i j x y v u Q k R l q) g
inductive wN(Q:Bool->Hp->Prop)(x:V)(a:Hp):Prop
 |mk(k:_)(_:x= .bl k)(_:Q k a)
def lG(t:TE):TT:=λd H Q=>t d H (wN Q)
def jB{o:CmpOp}{r:R2}(f:gg X (compareOp o) r)(g:PE X a ta)(i:PE X b tb)(j:behindInMarks o b=μ):PT X (.Compare a [o] [b] pos) (lG$ eh r ta tb):=by
 intro p s d H Q I h;refine Ug (aL (g p s d H _ I h) λv S #[x,l,m,R,q]=>aL (i p S d l _ m q) λu n #[y,t,w,A,B]=>
  aL (f p n d t x y v u _ w R A B) λc G #[z,C,D,E,k,e,F]=>?_) j
 subst e;cases E;exact P9 #[C,D,F]
def Fb(K:Ω)(x:V)(H:Hp)(k:Bool):Prop:=
 match x with
 | .non=>k=μ
 | .bl b=>k=b
 | .int i=>k=(i != 0)
 | .str y=>y.length<=τ/\k=((y.length:Int) != 0)
 | .byt y=>y.size<=τ/\k=((y.size:Int) != 0)
 | .ref p=>(∃d,aF K H p d/\k=!d.isEmpty)∨(∃d,aB K H p d/\k=!d.isEmpty)∨∃e,H p=δ (.dK e)/\k=!e.isEmpty
 |_=>False
def YO{d:Type}{k:List (d×V)}{v:List (d×η)}(r:KV k v):(!v.isEmpty)=!k.isEmpty:=by cases r<;>rfl
def Qg(r:aw x i):(!i.toArray.isEmpty)=!x.isEmpty:=by cases r<;>simp
def eS:(τ:Nat) < 2 ^ 63:=by rw[O3];decide
def Ey:Ik X (λx H Q=>∃k,Fb X.K x H k/\Q k H):=by
 intro o s B H x v Q I R h;let⟨k,e,q⟩:=h;let C:=eS;let D:τ=16777216:=O3;cases x with
 |non=>cases R;let E:k=μ:=e;subst E;exact truthy_none #[H,I,q]
 |bl b=>cases R;let E:k=b:=e;subst E;exact P9 #[H,I,q]
 |int i=>let⟨t,rfl⟩:=R;let E:k=(i != 0):=e;subst E;exact PySem.P.truthy_int #[H,I,q]
 |str y=>let⟨t,rfl⟩:=R;obtain⟨z,E⟩:y.length<=τ/\k=((y.length:Int) != 0):=e;subst E;exact PySem.P.truthy_str LN #[H,I.tok _,q]
 |byt y=>let⟨t,rfl⟩:=R;obtain⟨z,E⟩:y.size<=τ/\k=((y.size:Int) != 0):=e;subst E;exact PySem.W.truthy_bytes LN #[H,I.tok _,q]
 |ref p=>
  cases R;let E:(∃g,aF X.K H p g/\k=!g.isEmpty)∨(∃g,aB X.K H p g/\k=!g.isEmpty)∨∃d,H p=δ (.dK d)/\k=!d.isEmpty:=e;rcases E with ⟨g,j,E⟩ | ⟨g,j,E⟩ | ⟨d,j,E⟩
  .subst E;let⟨l,r,n,u⟩:=I.list j;let f:=r.length;exact wpAny_truthy_list n.isList (by simp only[ME];omega) #[H,I.tok _,by rw[Qg r];exact q]
  .subst E;let⟨l,r,n,u⟩:=I.tuple j;let f:=r.length;exact truthy_tuple n (by simp only[ME];omega) #[H,I.tok _,by rw[Qg r];exact q]
  .subst E;obtain⟨u,A,V,r,m⟩:d.length<=τ/\(p==sysModules)=μ/\∃V,KV d V/\s.heap.DictOf (aP X.prog X.w) p V:=I.hok p _ j;let f:d.length=V.length:=Paired.length r;exact wpAny_truthy_dict A m LN #[H,I.tok _,by rw[YO r];exact q]
 |_=>exact(show False from e).elim
def vm(f:PE X a ta)(g:∀w,isTrue a X.env w=(do let v <- w;standAt a.pos;mL [v] (truthy v))):
  PT X a (λd H Q=>ta d H λx e=>∃k,Fb X.K x e k/\Q k e):=by
 intro p s d H Q I h;exact isTrue_plain (aL (f p s d H _ I h) λv S #[x,i,j,r,q]=>Ey p S d i x v Q j r q)$ g _
def zg:gg X (binaryOp .Add) (λx y H Q=>∃i j,x= .str i/\y= .str j/\i.length+j.length<=τ/\Q (.str$ i++j) H):=by intro p s e H x y v u Q I r R h;let⟨i,j,rfl,rfl,d,q⟩:=h;let⟨t,rfl⟩:=r;let⟨T,rfl⟩:=R;exact add_str (λT f=>#[.str$ i++j,H,I.tok _,#[_,Z],q]) d
def eZ(r:aw [x] U):∃u,U=[u]/\aC x u:=by
 cases r with
 |cons R d=>cases d;exact#[_,Z,R]
def Cd(r:aw [x,y] U):∃u w,U=[u,w]/\aC x u/\aC y w:=by
 cases r with
 |cons R d=>
  cases d with
  |cons e f=>cases f;exact#[_,_,Z,R,e]
def J3(e:X.calm=ν):dI X (.builtin "max") (λx H Q=>∃i j,x=[.int i,.int j]/\Q (.int (if j > i then j else i)) H):=by
 intro p s f H x U Q I r h;let⟨i,j,rfl,q⟩:=h;obtain⟨u,w,rfl,⟨t,rfl⟩,⟨T,rfl⟩⟩:=Cd r;erw[max_two_ints (I.ok.hd e) λg l k=>#[_,H,I.kept k,?_,q]];by_cases d:j > i
 .rw[MQ d,MQ d];exact#[_,Z]
 .rw[MS d,MS d];exact#[_,Z]
def j8:dI X (.type "int") (λx H Q=>(∃i,x=[.int i]/\Q (.int i) H)∨∃k,x=[.bl k]/\Q (.int (if k then 1 else 0)) H):=by
 intro p s d H x U Q I r h;rcases h with ⟨i,rfl,q⟩ | ⟨k,rfl,q⟩
 .let⟨u,rfl,t,rfl⟩:=eZ r;exact call_int_int #[.int i,H,I,#[_,Z],q]
 .let⟨u,rfl,R⟩:=eZ r;cases R;exact call_int_bool #[.int (if k then 1 else 0),H,I.tok _,#[_,Z],q]
end
structure nP(h:ef)(x dx C:ε)(mA:π->Option η):Prop where
 obj:h.get? x=δ (instObj C dx)
 ns:h.Ns1 dx mA
 ne:dx≠x
def QY{h:ef}(n:h.Ns1 d m):∃O,h.get? d=δ O/\∀name,lookIn name O=δ (m name):=by
 let⟨o,E,j,b,c,f,_,g⟩:=n;erw[#[o,b,λname=>?_]];let e:=g name;unfold nsFind findBy at e;rw[<- Array.find?_toList]at e;unfold lookIn;rw[c];dsimp only;split
 .rename_i y q
  rw[q]at e;exact NK δ e
 .rename_i q
  rw[q]at e;let a:E.toList.any (·.refKey)=μ:=by rw[Ua];intro y i;let⟨z,t,H⟩:=f y (Array.mem_toList_iff.mp i);simp [DictEntry.refKey,H]
  let A:¬E.toList.any (·.refKey)=ν:=by rw[a];exact MJ
  rw[MS A];exact NK δ e
def nP.look(I:nP h x d C m):∃o,PySem.W.InstAt h x (instObj C d) C (δ o)/\∀name,lookIn name o=δ (m name):=
 let #[o,H,a]:=QY I.ns
 #[o,#[I.obj,Z,Z,H],a]
section
variable {prog:ψ}{w:bU}{A:cJ}{E:η->θ->Prop}{s:θ}{K:Ω}{x dx C f:ε}{mA:π->Option η}{name:π}{v:η}
def yh{Q:η->θ->Prop}(X:K.In s.heap)(I:nP s.heap x dx C mA)(a:plainGet K C name=ν)(b:hasDictIn K C=ν)
  (c:findIn K (.ref C) name=δ ζ) (d:mA name=δ v) (H:PySem.W.handedIn v=ν) (h:Q v { s with toks:=s.toks+1 }):
  ξ (υ prog w) A (getAttr (.ref x) name e) Q E s:=by
 let⟨o,J,g⟩:=I.look;exact PySem.W.get_value X J (Rp a).1 (Te b c Z (by rw[g,d])) H h
def tV{Q:η×List η->θ->Prop}(X:K.In s.heap)(I:nP s.heap x dx C mA)(H:plainGet K C name=ν)
  (a:findIn K (.ref C) name=δ (↑f)) (b:isFn K (.ref f)=ν) (c:mA name=ζ) (h:Q (.ref f,[.ref x]) s):
  ξ (υ prog w) A (getMethod (.ref x) name p) Q E s:=by
 let⟨o,J,d⟩:=I.look;exact PySem.W.method_fn X J (Rp H).1 (Rp H).2 a (beq_iff_eq.mp b) (by show(lookIn name o).map (·.isSome)=δ μ;rw[d,c];rfl) h
def AF{Q:Unit->θ->Prop}(X:K.In s.heap)(I:nP s.heap x dx C mA)
  (k:findIn K (.ref C) "__setattr__"=δ (δ$ .builtin "object.__setattr__")) (l:PySem.W.plainOver K C=ν) (m:rs K C name=δ ζ) (n:hasDictIn K C=ν)
  (o:PySem.Within mA N) (p:N.length<=τ)
  (h:∀d,nP d x dx C (λy=>if y=name then δ v else mA y)->fy dx s.heap d->Q () { s with heap:=d,toks:=s.toks+2 }):
  ξ (υ prog w) A (setAttr (.ref x) name v) Q E s:=by
 let⟨O,J,B⟩:=I.look;erw[PySem.W.set_plain X J k$ PySem.W.osa_open (s:={ s with toks:=s.toks+1 }) (r:=ζ) X J l m λb=>?_];let⟨D,q,e⟩:=PySem.W.any_some n;let t:s.heap.get? x=δ #[.ref C,δ dx,.plain,(ι [])]:=I.obj;erw[Ms$ Mu$ Ms$ Ms$ PH t$ Ms$ Sj (s:={ s with toks:=s.toks+1 }) (PySem.W.looks_clsIn X q) ?_];rw[e];erw[Mu (a:=δ dx)$ Ms$ Mu$ Ms ?_];erw[wpAny_nsSet1 (s:={ s with toks:=s.toks+1 }) I.ns λd H c=>?_];let⟨F,u,z,g,i,j⟩:=H.count (Ve name v o);erw[Ms$ U3 g (by rw[i];exact U4$ MT j (by rw[MZ];omega)) ?_];exact Mu$ h _ #[(c.2 _$ MU I.ne).trans I.obj,H,I.ne] c
def ut{R:Result->θ->Prop}(X:K.In s.heap)(H:PySem.W.makesIn K C=ν)
  (b:findIn K (.ref C) "__init__"=δ (↑f)) (c:typeIn K (.ref f)=δ (.type "function"))
  (h:fv (υ prog w) (A.under$ .builtin "type.__call__" #[.ref C::a,k]) (.call (.ref f) #[.ref (s.heap.objs.size+1)::a,k]) (PySem.W.InitBack (s.heap.objs.size+1) R)
   { s with heap:=(s.heap.push emptyDict).push (instObj C s.heap.objs.size) }):
  fv (υ prog w) A (.call (.ref C) #[a,k]) R s:=by
 let⟨e,g,d,t,os⟩:=s;exact PySem.W.make_core (PySem.W.makes_of X H) (PySem.W.looks_findIn X b) (λS=>PySem.W.bind_fn X S c) (.inl Z) h
end
def eU(f:π)(v:V):List (π×V)->List (π×V)
 | []=>[(f,v)]
 | (g,x)::r=>if g=f then (g,v)::r else (g,x)::eU f v r
theorem Ke(f g:π)(v:V):∀F:List (π×V),(eU f v F).lookup g=if g=f then δ v else F.lookup g
 | []=>by
  show fz g [(f,v)]=_;by_cases h:g=f
  .let H:(g==f)=ν:=beq_iff_eq.mpr h;simp only[fz,H,MQ h]
  .let H:(g==f)=μ:=beq_eq_false_iff_ne.mpr h;simp only[fz,H,MS h]
 | (k,x)::r=>by
  let i:=Ke f g v r;rw[show eU f v ((k,x)::r)=(if k=f then (k,v)::r else (k,x)::eU f v r) from Z];by_cases a:k=f
  .rw[MQ a];by_cases h:g=k
   .let H:(g==k)=ν:=beq_iff_eq.mpr h;simp only[fz,H,MQ$ h.trans a]
   .let H:(g==k)=μ:=beq_eq_false_iff_ne.mpr h;simp only[fz,H,MS (λe:g=f=>h (e.trans a.symm))]
  .rw[MS a];by_cases h:g=k
   .let H:(g==k)=ν:=beq_iff_eq.mpr h;simp only[fz,H,MS (λe:g=f=>a (h.symm.trans e))]
   .let H:(g==k)=μ:=beq_eq_false_iff_ne.mpr h;simp only[fz,H];exact i
theorem J4(f:π)(v:V):∀F:List (π×V),f∈(eU f v F).map (·.1)/\∀g,g∈F.map (·.1)->g∈(eU f v F).map (·.1)
 | []=>#[by simp [eU],λg h=>by simp at h]
 | (k,x)::r=>by
  let⟨i,I⟩:=J4 f v r;rw[show eU f v ((k,x)::r)=(if k=f then (k,v)::r else (k,x)::eU f v r) from Z];by_cases H:k=f
  .rw[MQ H];subst H;exact#[LM,λg h=>by simpa using h]
  .rw[MS H];refine#[?_,λg h=>?_]
   .rw[Nw];exact MX _ i
   .rw[Nw]at h ⊢;rcases Ψ.mp h with e |e
    .exact Ψ.mpr$ .inl e
    .exact MX _$ I g e
theorem Kf(f:π)(v:V):∀F:List (π×V),(eU f v F).length<=F.length+1
 | []=>by simp [eU]
 | (k,x)::r=>by
  let i:=Kf f v r;rw[show eU f v ((k,x)::r)=(if k=f then (k,v)::r else (k,x)::eU f v r) from Z];by_cases h:k=f
  .rw[MQ h,MZ,MZ];omega
  .rw[MS h,MZ,MZ];omega
def dw.some_of{v:V}{o:Option η}(r:dw (δ v) o):∃u,o=δ u/\aC v u:=by
 cases o with
 |none=>exact(show False from r).elim
 |some u=>exact#[u,Z,r]
def dw.none_of(r:dw ζ o):o=ζ:=by
 cases o with
 |none=>rfl
 |some u=>exact(show False from r).elim
def QZ(r:aC v u):PySem.W.handedIn u=ν:=by
 cases v with
 |non=>cases (show u=β from r);rfl
 |bl b=>cases (show u=ra b from r);rfl
 |int i=>let⟨t,e⟩:=(show ∃t,u=qL i t from r);cases e;rfl
 |str x=>let⟨t,e⟩:=(show ∃t,u=mu x t from r);cases e;rfl
 |byt b=>let⟨t,e⟩:=(show ∃t,u=Value.bytes b t from r);cases e;rfl
 |flt b=>let⟨t,e⟩:=(show ∃t,u=Value.float b t from r);cases e;rfl
 |ref a=>cases (show u=ω a from r);rfl
 |ty n=>cases (show u=gb n from r);rfl
section
variable {P:ψ}{w:bU}{H H':Hp}{h h':ef}{a C dx:ε}{fs fs':List (π×V)}
def Xy(b:fQ P w H h)(e:H a=δ (.ins C dx fs)):∃m,nP h a dx C m/\(∀f,dw (fs.lookup f)$ m f)/\PySem.Within m (fs.map (·.1))/\fs.length<=1000/\H dx=δ (.own a):=by let⟨d,z,N,o,m,n,r,q⟩:=(show aO P w H h a (.ins C dx fs) from b a _ e);exact#[m,#[o,n,N],r,q,z,d]
end
structure sw(K:Ω)(C:ε):Prop where
 pg:plainGet K C Str.empty=ν
 hd:hasDictIn K C=ν
 po:PySem.W.plainOver K C=ν
 sa:findIn K (.ref C) "__setattr__"=δ (δ$ .builtin "object.__setattr__")
def sw.get{K:Ω}(c:sw K C)(f:π):plainGet K C f=ν:=c.pg
def aW(K:Ω)(C:ε)(f:π):Prop:=findIn K (.ref C) f=δ ζ
def aW.taker{K:Ω}(n:aW K C f):rs K C f=δ ζ:=by unfold rs;rw[show findIn K (.ref C) f=δ ζ from n];rfl
structure cq(K:Ω)(C:ε)(m:π)(f:ε):Prop where
 at_:findIn K (.ref C) m=δ (↑f)
 fn:isFn K (.ref f)=ν
 kp:fx K (.ref f)=ν
section
variable {X:Cx}{pins:List (ε×gm)}{σ:St}{H:Hp}{s:θ}{a C dx:ε}{fs:List (π×V)}{f:π}{v:V}{A:cJ}{E:η->θ->Prop}
def Qh{Q:η->θ->Prop}(I:ap X pins σ H s)(e:H a=δ (.ins C dx fs))(c:sw X.K C)(n:aW X.K C f)(l:fs.lookup f=δ v)
  (h:∀u S,ap X pins σ H S->aC v u->Q u S):ξ (υ X.prog X.w) A (getAttr (.ref a) f b) Q E s:=by
 let⟨m,O,r,_,_,_⟩:=Xy I.hok e;let⟨u,d,R⟩:=dw.some_of (v:=v) (o:=m f) (by rw[<- l];exact r f);exact yh I.kIn O (c.get f) c.hd n d (QZ R)$ h u _ (I.tok _) R
def Qi{Q:η×List η->θ->Prop}(I:ap X pins σ H s)(e:H a=δ (.ins C dx fs))(c:sw X.K C)(k:cq X.K C m g)(l:fs.lookup m=ζ)
  (h:Q (.ref g,[.ref a]) s):ξ (υ X.prog X.w) A (getMethod (.ref a) m p) Q E s:=by
 let⟨M,O,r,_,_,_⟩:=Xy I.hok e;let b:M m=ζ:=dw.none_of (by rw[<- l];exact r m);exact tV I.kIn O (c.get m) k.at_ k.fn b h
def Qj{Q:Unit->θ->Prop}(I:ap X pins σ H s)(e:H a=δ (.ins C dx fs))(c:sw X.K C)(n:aW X.K C f)(F:fs.length < 1000)(R:aC y u)
  (h:∀S,ap X pins σ (upd H a$ .ins C dx$ eU f y fs) S->Q () S):ξ (υ X.prog X.w) A (setAttr (.ref a) f u) Q E s:=by
 let⟨m,O,r,W,_,i⟩:=Xy I.hok e;let j:(fs.map (·.1)).length<=τ:=by rw[Mv,O3];omega
 erw[AF I.kIn O c.sa c.po n.taker c.hd W j λk d l=>h _ ?_];let p:∃o,k.get? dx=δ o:=let #[o,_,_,t,_]:=d.ns;#[o,t]
 erw[I.write (x:=a) (e:=dx) (by rw[e];exact True.intro) (.inr i) (λb q B z=>(l.2 b B).trans z) p ?_];erw[#[by rw[ji O.ne];exact i,?_,O.ne,d.obj,_,d.ns,λg=>?_,λg D=>?_]]
 .let:=Kf f y fs;omega
 .show dw ((eU f y fs).lookup g) (if g=f then δ u else m g);rw[Ke];by_cases q:g=f
  .rw[MQ q,MQ q];exact R
  .rw[MS q,MS q];exact r g
 .by_cases q:g=f
  .rw[q];exact(J4 f y fs).1
  .erw[(J4 f y fs).2 g (W g λz=>D ?_)];show(if g=f then δ u else m g)=ζ;rw[MS q];exact z
def ap.made(I:ap X pins σ H s):ap X pins σ (upd (upd H s.heap.objs.size$ .own$ s.heap.objs.size+1) (s.heap.objs.size+1)$ .ins C s.heap.objs.size [])
  { s with heap:=(s.heap.push emptyDict).push (instObj C s.heap.objs.size) }:=by
 let c:(s.heap.push emptyDict).get? s.heap.objs.size=δ emptyDict:=MD s.heap Z;let d:((s.heap.push emptyDict).push$ instObj C s.heap.objs.size).get? (s.heap.objs.size+1)=δ (instObj C s.heap.objs.size):=by let:=MD (s.heap.push emptyDict) (o:=instObj C s.heap.objs.size) Z;rwa [Nc]at this
 let g:(s.heap.push emptyDict).Ns s.heap.objs.size (λ_=>ζ):=#[emptyDict,(ι []),_,c,Z,(λe h=>absurd h LM),λ_=>Z];let i:=I.laid (a:=s.heap.objs.size) (o:=.own (s.heap.objs.size+1)) (h':=s.heap.push emptyDict) (t':=s.toks) (λb u q=>Mt _ q) (Mx _) #[_,c];erw[i.laid (a:=s.heap.objs.size+1) (o:=.ins C s.heap.objs.size []) (t':=s.toks) (λb u q=>Mt _ q) (Rh$ Nc _ _) ?_];let n:s.heap.objs.size≠s.heap.objs.size+1:=MG (NV _);erw[#[by rw[ji n,jc],MH _,n,d,λ_=>ζ,(Tx g).at λo q=>Mt _ q,λ_=>True.intro,λy j=>absurd Z j]]
def Zy{f:π}{s:θ}(c:attributeBase e f b (eval e b)=eval e b)
  (h:ξ (υ p w) A (eval e b) (λo S=>ξ (υ p w) A (getAttr o f ν) Q E S) E s):ξ (υ p w) A (eval (.Attribute e f d) b) Q E s:=
 Attribute_any_ h (by rw[arm_eval_Attribute,c])
end
inductive BY(K:Ω)(f:π)(Q:VK)(x:V)(b:Hp):Prop
 |mk(a C c d v:_)(_:x= .ref a)(_:b a=δ (.ins C c d))(_:sw K C)(_:aW K C f)(_:d.lookup f=δ v)(_:Q v b)
def IS(K:Ω)(t:TE)(f:π):TE:=λa H Q=>t a H (BY K f Q)
inductive BO(K:Ω)(f:π)(D:a6)(e:St)(y x:V)(b:Hp):Prop
 |mk(a C c d:_)(_:x= .ref a)(_:b a=δ (.ins C c d))(_:sw K C)(_:aW K C f)(_:d.length < 1000)(_:D.nx e (upd b a (.ins C c (eU f y d))))
def IF(K:Ω)(t T:TE)(f:π):TS:=λD a H=>T a H λy h=>t a h (BO K f D a y)
def ET(X:Cx)(o:Operator)(r:V->V->Hp->VK->Prop):Prop:=
 ∀(p:List (ε×gm)) (s:θ) (a:St) (H:Hp) (x y:V) (u v:η) (Q:VK),ap X p a H s->aC x u->aC y v->r x y H Q->ξ (υ X.prog X.w) X.A (inplaceOp o u v) (EP X p a Q) X.xe s
inductive mM(K:Ω)(g:TE)(e:V->V->Hp->VK->Prop)(f:π)(D:a6)(h:St)(x:V)(b:Hp):Prop
 |mk(a C c d v:_)(_:x= .ref a)(_:b a=δ (.ins C c d))(_:sw K C)(_:aW K C f)(_:d.lookup f=δ v)(_:g h b λy H2=>e v y H2 λz H3=>∃dx' fs',H3 a=δ (.ins C dx' fs')/\fs'.length < 1000/\D.nx h (upd H3 a (.ins C dx' (eU f z fs'))))
def Am(K:Ω)(t T:TE)(r:V->V->Hp->VK->Prop)(f:π):TS:=λD a H=>t a H (mM K T r f D a)
section
variable {X:Cx}{o e value:dr}{f:π}{pos pos' tpos:Pos}{ta tv:TE}
def zQ(b:PE X e ta)(d:attributeBase e f X.env (eval e X.env)=eval e X.env):PE X (.Attribute e f pos) (IS X.K ta f):=by intro p s g H Q I h;erw[Zy d$ aL (b p s g H _ I h) λu S z=>?_];let⟨x,i,j,r,a,C,D,F,v,E,k,c,n,l,q⟩:=z;subst E;obtain rfl:u=ω a:=r;exact Qh j k c n l λU t m R=>#[v,i,m,R,q]
def Jn(d:PE X o ta)(g:PE X value tv)(i:swapsWith value (δ$ .Attribute o f pos') pos.line X.env=pure μ):PS X (.Assign [.Attribute o f pos'] value pos) (IF X.K ta tv f):=by intro p s b H D I h;erw[So (aL (g p s b H _ I h) λu S #[y,j,k,r,q]=>aL (d p S b j _ k q) λO w z=>?_) i];let⟨x,A,m,R,a,C,B,F,E,t,c,n,l,Q⟩:=z;subst E;obtain rfl:O=ω a:=R;exact Qj m t c n l r λG v=>#[b,_,v,Q]
def rR{O:Operator}{r:V->V->Hp->VK->Prop}(i:PE X o ta)(j:PE X value tv)(g:ET X O r):PS X (.AugAssign (.Attribute o f tpos) O value pos) (Am X.K ta tv r f):=by intro p s d H D I h;erw[wpAny_AugAssign_AttributeAny$ aL (i p s d H _ I h) λk s1 b=>?_];let⟨x,m,t,R,a,C,dx,fs,v,w,A,c,n,l,q⟩:=b;subst w;obtain rfl:k=ω a:=R;erw[Qh t A c n l λu S B F=>aL (j p S d m _ B q) λW G #[y,J,L,M,Q]=>aL (g p G d J v y u W _ L F M Q) λw4 s4 b=>?_];let⟨z,H3,N,P,T,U,E,Y,q4⟩:=b;exact Qj N E c n Y P λs5 I5=>#[d,_,I5,q4]
inductive Gw(x y:V)(H:Hp)(Q:VK):Prop
 |mk(i j:_)(_:x= .int i)(_:y= .int j)(_:Q (.int (i+j)) H)
def C1:ET X .Add Gw:=by rintro p s a H x y u v Q I r R ⟨i,j,rfl,rfl,q⟩;let⟨t,rfl⟩:=(show ∃t,u=qL i t from r);let⟨T,rfl⟩:=(show ∃T,v=qL j T from R);exact Vu #[.int$ i+j,H,I.tok _,#[_,Z],q]
end
structure ba(k:Nat)(A:cJ):Prop where
 hd:A.handled=ζ
 dp:A.depth+3*k+5 < recursionLimit
 un:A.units+16*k+200 < cLine
def ba.mono(r:ba k A)(h:j<=k):ba j A:=#[r.hd,by let:=r.dp;omega,by let:=r.un;omega]
def ba.deeper(r:ba (k+1) A)(e:tf):ba k (A.deeper e):=
 #[r.hd,by let:=r.dp;show A.depth+1+3*k+5 < _;omega,by let:=r.un;show A.units+3+16*k+200 < _;omega]
def YQ{A:cJ}:(A.under$ .builtin "type.__call__" #[.ref C::u,k]).depth=A.depth+1:=by
 first |rfl |simp [Around.under,Code.weight,Code.isCreation,Code.isGuard,Code.isCaller,Code.frames,Code.isFrame,guardIds]
def YR{A:cJ}:(A.under$ .builtin "type.__call__" #[.ref C::u,k]).units=A.units+1:=by
 first |rfl |simp [Around.under,Code.cUnits,Code.frames,Code.isFrame]
def ba.make(r:ba (k+1) A)(C:ε)(u:List η)(K:List (π×η)):ba k (A.under$ .builtin "type.__call__" #[.ref C::u,K]):=
 #[r.hd,by let:=r.dp;rw[YQ];omega,by let:=r.un;rw[YR];omega]
def ba.depth(r:ba k A):A.depth < recursionLimit:=by let:=r.dp;omega
def ba.units(r:ba k A):A.units+64 < cLine:=by let:=r.un;omega
def aK:TA:=λ_ H Q=>Q [] H
def al(t:TE)(T:TA):TA:=λa H Q=>t a H λx h=>T a h λX b=>Q (x::X) b
section
variable {X:Cx}{e:dr}{es:List dr}{te:TE}{t:TA}{pos:Pos}
def jb:PA X [] aK:=λ_ _ _ _ H Q I h=>OJ #[[],H,I,.nil,h]
def ja(b:PE X e te)(c:PA X es t)(d:↥(Θ (e::es) X.env=(μ,eval e X.env)::Θ es X.env)):PA X (e::es) (al te t):=by intro pos p s a H Q I h;rw[d];show ξ _ _ (spliced ((μ,eval e X.env)::eT pos (Θ es X.env))) _ _ s;erw[Oi$ aL (b p s a H _ I h) λu S z=>?_];let⟨x,f,i,r,q⟩:=z;exact aL (c pos p S a f _ i q) λU m #[g,j,k,R,l]=>#[x::g,j,k,.cons r R,l]
def bq(t:TA):TE:=λa H Q=>t a H λx h=>x.length<=τ/\∀p,h p=ζ->Q (.ref p) (upd h p$ .tup x)
def nB(t:TA):TE:=λa H Q=>t a H λx h=>x.length<=τ/\∀p,h p=ζ->Q (.ref p) (upd h p$ .lst x)
def jh{x}(h:PA X es t):PE X (.Tuple es x pos) (bq t):=by intro p s c H Q I d;erw[wpAny_Tuple_spliced$ aL (h pos p s c H _ I d) λU S #[f,a,i,r,z,q]=>#[by rw[<- r.length];exact z,?_]];let g:a S.heap.objs.size=ζ:=i.hok.fresh (Mx _);erw[#[.ref S.heap.objs.size,upd a S.heap.objs.size$ .tup f,i.laid (t':=S.toks) (λb u e=>Mt _ e) (Mx _) ?_,Z,q _ g]];exact#[z,U,r,#[_,MD _ Z,Z,_,Z]]
def jD(h:PA X es t):PE X (.List es pos) (nB t):=by intro p s c H Q I d;erw[wpAny_List_spliced$ aL (h pos p s c H _ I d) λU S #[x,a,i,r,z,q]=>#[by rw[<- r.length];exact z,?_]];let f:a S.heap.objs.size=ζ:=i.hok.fresh (Mx _);erw[#[.ref S.heap.objs.size,upd a S.heap.objs.size$ .lst x,i.laid (t':=S.toks) (λb u e=>Mt _ e) (Mx _) ?_,Z,q _ f]];exact#[z,U,0,r,MD _ Z]
end
abbrev Sp:=List V->Hp->VK->XK->Prop
abbrev nF:=List tf->Hp->θ->XK->η->θ->Prop
structure lJ(P:ψ)(w:bU)(K:Ω)(mg:π->Option η)(base:ef)(A:cJ)(outer:List tf)(s:θ)(H:Hp):Prop where
 frames:A.frames=δ outer
 mod:Mod K mg base
 bs:∀b o,base.get? b=δ o->s.heap.get? b=δ o/\H b=ζ
 bsz:base.objs.size<=s.heap.objs.size
 funs:s.heap.FunFrames base outer
 frf:∀b∈iB outer,H b=ζ
 hok:fQ P w H s.heap
 bare:AllBare s.gens
def CE(o:List tf)(P:ψ)(w:bU)(H:Hp)(s:θ)(Q:VK)(u:η)(S:θ):Prop:=
 ∃v h,S.os=s.os/\AllBare S.gens/\Un (iB o) [] H h s.heap S.heap/\fQ P w h S.heap/\aC v u/\Q v h
def CR(C:nF)(o:List tf)(P:ψ)(w:bU)(H:Hp)(s:θ)(Q:VK)(E:XK)(r:Result)(S:θ):Prop:=
 match r with
 | .ok (.ret u)=>CE o P w H s Q u S
 | .ok _=>False
 | .error e=>C o H s E e S
structure ai(P:ψ)(w:bU)(K:Ω)(mg:π->Option η)(base:ef)(CX:nF)(k:Nat)(f:ε)(fd:Φ)(ps:List π)(sp:Sp):Prop where
 len:∀vs H Q E,sp vs H Q E->vs.length=ps.length
 run:∀(A:cJ) (outer:List tf) (s:θ) (H:Hp) (args:Args) (us:List η) (vs:List V) (Q:VK) (E:XK),ba k A->lJ P w K mg base A outer s H->BindsTo s fd args (ps.zip us)->aw vs us->sp vs H Q E->
  fv (υ P w) A (.call (.ref f) args) (CR CX outer P w H s Q E) s
def ai.mono{P:ψ}{K:Ω}(F:ai P w K m b C j f c p d)(h:j<=k):
  ai P w K m b C k f c p d:=#[F.len,λA o s H a u v Q E e=>F.run A o s H a u v Q E (e.mono h)]
def lJ.make{P:ψ}{K:Ω}(e:lJ P w K m b A o s H)(C:ε)(u:List η)(k:List (π×η)):
  lJ P w K m b (A.under$ .builtin "type.__call__" #[.ref C::u,k]) o s H:=#[by first |exact e.frames | (simpa [Around.under,Code.envs,Code.isFrame,pushEnvs] using e.frames),e.mod,e.bs,e.bsz,e.funs,e.frf,e.hok,e.bare]
section
variable {X:Cx}{pins:List (ε×gm)}{σ:St}{H:Hp}{s s':θ}
def ap.env0(I:ap X pins σ H s):lJ X.prog X.w X.K X.mg X.base X.A X.stack s H:=
 #[I.ok.frames,I.ok.mod,I.bs,MT I.ok.bsz I.sz,I.stack,I.stkFree,I.hok,I.bare]
def ap.after(I:ap X pins σ H s)(h:CE X.stack X.prog X.w H s Q u s'):EP X pins σ Q u s':=by let⟨v,c,os,B,U,a,r,q⟩:=h;let⟨e,g,d,t,o⟩:=s';obtain rfl:o=s.os:=os;exact#[v,c,I.call (h':=e) (g':=g) (d':=d) (t':=t) (ch:=[]) U a B (λb z=>absurd z LM),r,q]
end
def dR(s:Sp)(d:List V)(E:XK)(t:TA):TE:=λa H Q=>t a H λv h=>s (v++d) h Q E
inductive wK(C:ε)(m:π)(f:Sp)(b:List V)(E:XK)(t:TA)(g:St)(Q:VK)(x:V)(c:Hp):Prop
 |mk(a d e:_)(_:x= .ref a)(_:c a=δ (.ins C d e))(_:e.lookup m=ζ)(_:t g c λvs H2=>f (x::(vs++b)) H2 Q E)
def wJ(C:ε)(m:π)(s:Sp)(d:List V)(E:XK)(T:TE)(t:TA):TE:=λa H Q=>T a H (wK C m s d E t a Q)
def Hs(C:ε)(s:Sp)(D:List V)(E:XK)(t:TA):TE:=λa H Q=>t a H λb h=>∀x d,h x=ζ->h d=ζ->d≠x->
 s (.ref x::(b++D)) (upd (upd h d$ .own x) x$ .ins C d []) (λv c=>v= .non/\Q (.ref x) c) E
def au(K:Ω)(f:Φ)(p:List π)(d:List η):Prop:=
 ∀(s:θ) (u:List η),K.In s.heap->(u++d).length=p.length->BindsTo s f #[u,[]] (p.zip$ u++d)
def au.all{K:Ω}{p:List π}(h:∀u:List η,u.length=p.length->bindArgs f #[u,[]]=pure (p.zip u)):au K f p []:=λs u _ H=>by rw[Rk]at H ⊢;exact .of_eq$ h u H
def c7(C:nF)(X:Cx)(E:XK):Prop:=∀(p:List (ε×gm)) (a:St) (H:Hp) (s:θ) (e:η) (S:θ),ap X p a H s->C X.stack H s E e S->X.xe e S
section
variable {X:Cx}{CX:nF}{k:Nat}{f C:ε}{fd:Φ}{ps:List π}{sp:Sp}{dvs:List V}{ds:List η}{E:XK}{x m:π}{p pos apos:Pos}{e o:dr}{es:List dr}{ta:TE}{t:TA}
def Xp{us:List η}{vs:List V}(F:ai X.prog X.w X.K X.mg X.base CX k f fd ps sp)(d:ba k X.A)(g:au X.K fd ps ds)(i:aw dvs ds)(j:c7 CX X E)
  (I:ap X a c H s) (r:aw vs us) (h:sp (vs++dvs) H Q E):ξ (υ X.prog X.w) X.A (call (.ref f) us) (EP X a c Q) X.xe s:=by
 let R:aw (vs++dvs) (us++ds):=r.append i;let l:(us++ds).length=ps.length:=by rw[<- R.length];exact F.len _ _ _ _ h
 erw[O1$ Oa (F.run X.A X.stack s H #[us,[]] (us++ds) (vs++dvs) Q E d I.env0 (g s us I.kIn l) R h) λr S b=>?_];cases r with
 |error e=>exact j a c H s e S I b
 |ok n=>
  cases n with
  |ret u=>exact I.after b
  |next |brk |cont=>exact False.elim b
def kf(F:ai X.prog X.w X.K X.mg X.base CX k f fd ps sp)(c:ba k X.A)(d:Gl X x)(g:X.mg x=↑f)(j:fx X.K (.ref f)=ν)(l:au X.K fd ps ds)(n:aw dvs ds)(u:c7 CX X E)
  (v:PA X (e::es) t) (a:↥((x==("__debug__":π))=μ)) (y:↥(Θ (e::es) X.env=(μ,eval e X.env)::Θ es X.env)) (b:↥((eT pos$ Θ es X.env).any (·.1)=μ)):
  PE X (.Call (.Name x p) (e::es) [] pos) (dR sp dvs E t):=by
 intro P s z H Q I h;erw[No$ zK I d g ?_ a];erw[PL (h₀:=X.base) I.ok.mod.kin j (aL (v pos P s z H _ I h) λU S #[B,D,i,r,q]=>#[i.kIn,?_]) y b];exact Xp F c l n u i r q
def zn(v:PE X o ta)(c:sw X.K C)(g:cq X.K C m f)(F:ai X.prog X.w X.K X.mg X.base CX k f fd ps sp)(y:ba k X.A)(B:au X.K fd ps ds)(D:aw dvs ds)(G:c7 CX X E)(J:PA X (e::es) t)
  (b:↥(Θ (e::es) X.env=(μ,eval e X.env)::Θ es X.env)) (d:↥((eT pos$ Θ es X.env).any (·.1)=μ))
  (L:↥(eval (.Call (.Attribute o m apos) (e::es) [] pos) X.env=(do
   let O <- eval o X.env
   standAt apos.atName
   let (f,first) <- mL [O] (getMethod O m pl)
   callWith pos f first (eT pos$ Θ (e::es) X.env) (backToKw pos$ keywordEach [] X.env)))):
  PE X (.Call (.Attribute o m apos) (e::es) [] pos) (wJ C m sp dvs E ta t):=by
 intro P s i H Q I h;erw[PR (pl:=pl) (aL (v P s i H _ I h) λu S z=>?_) L];let⟨x,M,j,R,a,W,Y,N,T,l,q⟩:=z;subst N;obtain rfl:u=ω a:=R;erw[Qi j T c g l ?_];erw[PL (first:=[.ref a]) (h₀:=X.base) I.ok.mod.kin g.kp (aL (J pos P S i M _ j q) λus s2 #[vs,H2,n,r,U]=>#[n.kIn,?_]) b d];exact Xp (us:=.ref a::us) (vs:=.ref a::vs) F y B D G n (.cons Z r) U
def u7(d:PE X o ta)(c:sw X.K C)(b:cq X.K C m f)(F:ai X.prog X.w X.K X.mg X.base CX k f fd ps sp)(g:ba k X.A)(j:au X.K fd ps ds)(n:aw dvs ds)(r:c7 CX X E)
  (v:↥(eval (.Call (.Attribute o m apos) [] [] pos) X.env=(do
   let O <- eval o X.env
   standAt apos.atName
   let (f,first) <- mL [O] (getMethod O m pl)
   callWith pos f first (eT pos$ Θ [] X.env) (backToKw pos$ keywordEach [] X.env)))):
  PE X (.Call (.Attribute o m apos) [] [] pos) (wJ C m sp dvs E ta aK):=by
 intro P s y H Q I h;erw[PR (pl:=pl) (aL (d P s y H _ I h) λu S z=>?_) v];let⟨x,G,i,R,a,J,L,B,D,l,q⟩:=z;subst B;obtain rfl:u=ω a:=R;erw[Qi i D c b l ?_];exact Tf (first:=[.ref a]) i.kIn b.kp$ Xp (us:=[.ref a]) (vs:=[.ref a]) F g j n r i (.cons Z .nil) q
structure Mk(K:Ω)(C f:ε):Prop where
 makes:PySem.W.makesIn K C=ν
 init:findIn K (.ref C) "__init__"=δ (↑f)
 fn:isFn K (.ref f)=ν
 kp:fx K (.ref C)=ν
def vq(M:Mk X.K C f)(F:ai X.prog X.w X.K X.mg X.base CX k f fd ps sp)(l:ba (k+1) X.A)(n:au X.K fd ps ds)(q:aw dvs ds)
  (y:c7 CX X E) (I:ap X b c H s) (r:aw g U)
  (h:∀x d,H x=ζ->H d=ζ->d≠x->sp (.ref x::(g++dvs)) (upd (upd H d$ .own x) x$ .ins C d []) (λv z=>v= .non/\Q (.ref x) z) E):
  ξ (υ X.prog X.w) X.A (call (.ref C) U) (EP X b c Q) X.xe s:=by
 let j:=h (s.heap.objs.size+1) s.heap.objs.size (I.hok.fresh$ NM _) (I.hok.fresh$ Mx _) (MG$ NV _);let i:=ap.made (C:=C) I;let R:aw (vr (s.heap.objs.size+1)::(g++dvs)) (ω (s.heap.objs.size+1)::(U++ds)):=.cons Z (r.append q);let B:(ω (s.heap.objs.size+1)::U++ds).length=ps.length:=by let e:=R.length;rw[F.len _ _ _ _ j]at e;exact e.symm
 refine O1 (ut (f:=f) I.kIn M.makes M.init (beq_iff_eq.mp M.fn) (Oa (F.run _ X.stack _ _ #[ω (s.heap.objs.size+1)::U,[]] (ω (s.heap.objs.size+1)::(U++ds)) _ _ E (l.make C U [])
  (i.env0.make C U []) (n _ (ω (s.heap.objs.size+1)::U) i.kIn B) R j) λr S a=>?_))
 cases r with
 |error e=>exact y b c _ _ e S i a
 |ok D=>
  cases D with
  |ret u=>let⟨v,G,J,L,N,O⟩:=i.after a;subst N;exact#[L,#[vr$ s.heap.objs.size+1,G,J,Z,O]]
  |next |brk |cont=>exact False.elim a
def Zz(M:Mk X.K C f)(F:ai X.prog X.w X.K X.mg X.base CX k f fd ps sp)(c:ba (k+1) X.A)(d:Gl X x)(g:X.mg x=↑C)(j:au X.K fd ps ds)(l:aw dvs ds)(n:c7 CX X E)
  (u:PA X (e::es) t) (a:↥((x==("__debug__":π))=μ)) (v:↥(Θ (e::es) X.env=(μ,eval e X.env)::Θ es X.env)) (b:↥((eT pos$ Θ es X.env).any (·.1)=μ)):
  PE X (.Call (.Name x p) (e::es) [] pos) (Hs C sp dvs E t):=by
 intro P s y H Q I h;erw[No$ zK I d g ?_ a];erw[PL (h₀:=X.base) I.ok.mod.kin M.kp (aL (u pos P s y H _ I h) λU S #[z,B,i,r,q]=>#[i.kIn,?_]) v b];exact vq M F c j l n i r q
end
structure ak(N P:List π)(sc:hJ):Prop where
 kind:sc.kind= .function
 co:sc.isCoroutine=μ
 gen:sc.isGenerator=μ
 nd:N.Nodup
 pre:N.take P.length=P
 par:∀x∈P,sc.names.lookup x=δ .local∨sc.names.lookup x=δ .cell
 nofree:∀y∈sc.names,y.2≠ .free
theorem Q0{kindOf:π->Option NameKind}:∀{b:List (π×η)} {m:π->Option η},(∀v,(x,v)∉b)->bindL kindOf b m x=m x
 | [],_,_=>rfl
 | (n,v)::r,m,h=>by
  unfold bindL;rw[Q0 λw H=>h w (MX _ H)];split
  .let:x≠n:=by rintro rfl;exact h v MM
   simp [this]
  .rfl
theorem Q1{kindOf:π->Option NameKind}:∀{b:List (π×η)} {m:π->Option η},(∀v,(x,v)∉b)->bindC kindOf b m x=m x
 | [],_,_=>rfl
 | (n,v)::r,m,h=>by
  unfold bindC;rw[Q1 λw H=>h w (MX _ H)];split
  .rfl
  .let:x≠n:=by rintro rfl;exact h v MM
   simp [this]
theorem Q2{kindOf:π->Option NameKind}:∀{P:List π} {V:List η} {i:Nat} {m:π->Option η},P.Nodup->P[i]?=δ x->V[i]?=δ v->kindOf x=δ .local->
  bindL kindOf (P.zip V) m x=δ v
 | [],_,_,_,_,h,_,_ |_::_,[],_,_,_,_,h,_=>by simp at h
 |p::P,w::V,0,m,n,H,a,b=>by simp at H a;subst H;subst a;show bindL kindOf ((p,w)::P.zip V) m p=_;unfold bindL;rw[Q0 λv c=>(mT.mp n).1 (Pd c).1,MQ b];simp
 |p::P,w::V,i+1,m,n,H,a,b=>by show bindL kindOf ((p,w)::P.zip V) m x=_;unfold bindL;exact Q2 (i:=i) (mT.mp n).2 (by simpa using H) (by simpa using a) b
theorem Q3{kindOf:π->Option NameKind}:∀{P:List π} {V:List η} {i:Nat} {m:π->Option η},P.Nodup->P[i]?=δ x->V[i]?=δ v->kindOf x≠δ .local->
  bindC kindOf (P.zip V) m x=δ v
 | [],_,_,_,_,h,_,_ |_::_,[],_,_,_,_,h,_=>by simp at h
 |p::P,w::V,0,m,n,H,a,b=>by simp at H a;subst H;subst a;show bindC kindOf ((p,w)::P.zip V) m p=_;unfold bindC;rw[Q1 λv c=>(mT.mp n).1 (Pd c).1,MS b];simp
 |p::P,w::V,i+1,m,n,H,a,b=>by show bindC kindOf ((p,w)::P.zip V) m x=_;unfold bindC;exact Q3 (i:=i) (mT.mp n).2 (by simpa using H) (by simpa using a) b
def dQ(N:List π)(v:List V):St:=v.map δ++ks (N.length - v.length) ζ
def eP(C:nF)(P:ψ)(w:bU)(K:Ω)(mg:π->Option η)(base:ef)(N:List π)(q:π)(S:hJ)(f:ε)(c:η)(A:cJ)(outer:List tf)(s:θ)(H:Hp)(E:XK):Cx where
 prog:=P
 w:=w
 K:=K
 mg:=mg
 base:=base
 A:=A.deeper (envOfC q S s.heap.objs.size f c)
 N:=N
 s₀:=s
 H₀:=H
 env:=envOfC q S s.heap.objs.size f c
 outer:=outer
 stack:=envOfC q S s.heap.objs.size f c::outer
 ex:=[]
 calm:=ν
 fn:=λ_=>ν
 pn:=[]
 xe:=λe b=>ξ (υ P w) (A.deeper$ envOfC q S s.heap.objs.size f c) (leaving (envOfC q S s.heap.objs.size f c) e) (λ_ a=>C outer H s E e a) (λd a=>C outer H s E d a) b
def X3{s:hJ}{n:Nat}(h:s.names.lookup x=δ .cell):∃c,(cellsFrom n s.names []).lookup x=δ c:=by let q:=PM s.names n [] (.inl h);exact kz.mp q
def Q4{P:ψ}{K:Ω}{A:cJ}{E:XK}{l:List V}
  (S:ak N t d) (O:A.handled=ζ) (j:lJ P w K M B A o s H) (hl:l.length=t.length) (r:aw l U)
  (x:InCallC s s.heap.objs.size (bindL (envOfC Q d s.heap.objs.size f I).kindOf (t.zip U) λ_=>ζ) (cellsFrom (s.heap.objs.size+1) d.names []) (bindC (envOfC Q d s.heap.objs.size f I).kindOf (t.zip U) λ_=>ζ) T):
  ap (eP Y P w K M B N Q d f I A o s H E) [] (dQ N l) H T:=by
 let R:t.length<=N.length:=by let:=NK List.length S.pre;rw[M1]at this;omega
 let⟨F,tk,rfl,J⟩:=x.done;let m:∀b:ε,b∉(eP Y P w K M B N Q d f I A o s H E).ex:=λb z=>absurd (show b∈([]:List ε) from z) LM;refine#[#[j.mod,S.kind,Z,Z,Mx _,λy z c F g=>?_,λy hy=>?_,λy c _ h=>?_,λ_=>O,To j.frames,.inr #[Z,Z],λb z=>absurd z (m b),j.bs,j.bsz,λb _ _=>m b,λb z=>absurd z (m b),j.funs,j.frf],
  rfl,j.bare,Un.kept J,#[_,x.toInCall.ns,λi y v F g h3=>?_],λy c h=>#[_,x.cell y c h],j.hok.fresh$ Mx _,λy c h=>?_,λp C=>absurd (show p∈([]:List (ε×gm)) from C) LM,j.hok.kept J,?_]
 .exact name_of_addr x.apart (NW F)$ NW g
 .let hy:d.names.lookup y=δ .cell∨d.names.lookup y=δ .free:=hy;rcases hy with hy |hy
  .exact X3 hy
  .exact absurd Z$ S.nofree _$ NW hy
 .exact ON$ x.above y c$ NW h
 .let G:i < l.length:=by
   unfold dQ at g;by_cases G:i < l.length
   .exact G
   .rw[NZ (by simpa using G)]at g;rw[Tc]at g;split at g<;>cases g
  let W:l[i]?=δ v:=by
   unfold dQ at g;rw[Oq (by simpa using G),MK]at g;cases e:l[i]? with
   |none=>rw[e]at g;cases g
   |some a=>rw[e]at g;cases g;rfl
  let⟨u,L,X⟩:=r.get W;let C:t[i]?=δ y:=by rw[<- S.pre,List.getElem?_take_of_lt LN];exact F
  let D:t.Nodup:=by rw[<- S.pre];exact S.nd.sublist$ Ot _ _
  erw[#[u,X,?_]];rcases S.par y (ML C) with k |k
  .exact .inl #[k,Q2 D C L k]
  .let⟨c,e⟩:=X3 (n:=s.heap.objs.size+1) k;erw[.inr #[.inl k,c,e,?_]];let q:=x.cell y c e;rw[Q3 D C L (by show d.names.lookup y≠_;rw[k];decide)]at q;exact q
 .exact j.hok.fresh$ ON$ x.above y c$ NW h
 .unfold dQ;show _=N.length;rw[Mz,Mv,O4];omega
def Bu{P:ψ}{K:Ω}{kV:η}
    {G:Sp} (lk:K.lookup f=δ #[oc,od,.func$ rz name c p h a dV kV L pm an C ct,o1]) (M:codeIn K C c=ν) (S:ak N T a)
  (len:∀d H Q E,G d H Q E->d.length=T.length)
  (j:∀(A:cJ) (O:List tf) (s:θ) (H:Hp) (d:List V) (Q:VK) (E:XK),ba k (A.deeper$ envOfC c a s.heap.objs.size f C)->G d H Q E->
   ∃t,mz (eP U P w K Y B N c a f C A O s H E) h t/\t { nx:=λ_ i=>Q .non i,rt:=Q } (dQ N d) H):
  ai P w K Y B U (k+1) f (rz name c p h a dV kV L pm an C ct) T G:=by
 erw[#[len,λA O s H a0 us d Q E R z hb r D=>?_]];let hl:=len _ _ _ _ D;let KX:K.In s.heap:=z.mod.kin.keeps λb o e=>(z.bs b o e).1;let W:s.heap.NoLimit:=z.mod.nolimit.keeps λb o e=>(z.bs b o e).1;let l:∀y∈T.zip us,a.names.lookup y.1=δ .local∨(a.names.lookup y.1=δ .cell/\((cellsFrom (s.heap.objs.size+1) a.names []).lookup y.1).isSome=ν):=λ#[n,v] hy=>by
  rcases S.par n (Pd hy).1 with q |q
  .exact .inl q
  .exact .inr #[q,PM _ _ _$ .inl q]
 erw[Uh R.depth (KX _ _ lk) Z S.co S.gen Z (Tu KX M)$ hb _ _ _ _ ?_];erw[Tq S.kind l λe1 he s1 x=>?_];subst he;erw[#[W.keeps x.toInCall.keep,codeAny_func ?_]];let⟨t,ht,hq⟩:=j A O s H d Q E (R.deeper _) D;let I:ap (eP U P w K Y B N c a f C A O s H E) [] (dQ N d) H s1:=Q4 S R.hd z hl r x;erw[Ny (ht [] s1 (dQ N d) H _ I hq) (λfl X m=>?_) λe X m=>m];let F:∀{g:St} {i:Hp} {v:V} {u:η},ap (eP U P w K Y B N c a f C A O s H E) [] g i X->aC v u->Q v i->CE O P w H s Q u X:=
  λ{g i v u} J rv q=>#[v,i,J.os,J.bare,J.base,J.hok,rv,q]
 cases fl with
 |ret u=>let⟨v,g,i,J,rv,q⟩:=m;exact F J rv q
 |next=>let⟨g,i,J,q⟩:=m;exact F (v:=V.non) (u:=β) J Z q
 |brk |cont=>let⟨_,_,_,q⟩:=m;exact False.elim q
section
variable {X:Cx}{x:π}{p pos:Pos}{e:dr}{es:List dr}{t:TA}{id T:String}{r:List V->Hp->VK->Prop}
def HV(r:List V->Hp->VK->Prop)(t:TA):TE:=λa H Q=>t a H λv h=>r v h Q
def jF(d:dI X (.builtin id) r)(f:Gl X x)(g:X.mg x=ζ)(i:bootBuiltins x=δ (.builtin id))(j:PA X (e::es) t)(k:↥(x≠"__name__"))(a:↥((x==("__debug__":π))=μ))
  (l:↥(Θ (e::es) X.env=(μ,eval e X.env)::Θ es X.env)) (b:↥((eT pos$ Θ es X.env).any (·.1)=μ)):PE X (.Call (.Name x p) (e::es) [] pos) (HV r t):=by
 intro P s c H Q I h;erw[No$ qJ I f g i ?_ k a];exact Vw (aL (j pos P s c H _ I h) λu S #[v,m,n,R,q]=>d P S c m v u Q n R q) l b
def jC(d:dI X (.type T) r)(f:Gl X x)(g:X.mg x=ζ)(i:bootBuiltins x=δ (.type T))(j:PA X (e::es) t)(k:↥(x≠"__name__"))(a:↥((x==("__debug__":π))=μ))
  (l:↥(Θ (e::es) X.env=(μ,eval e X.env)::Θ es X.env)) (b:↥((eT pos$ Θ es X.env).any (·.1)=μ)):PE X (.Call (.Name x p) (e::es) [] pos) (HV r t):=by
 intro P s c H Q I h;erw[No$ qJ I f g i ?_ k a];exact NA (aL (j pos P s c H _ I h) λu S #[v,m,n,R,q]=>d P S c m v u Q n R q) l b
end
end _L
namespace HT
open PySem PyProof.Rows
section
variable {prog:ψ}{w:bU}{A:cJ}{E:η->θ->Prop}{s:θ}
def cat_tup{v W:List η}{Q:η->θ->Prop}(m:IsTup s.heap t v.toArray)(o:IsTup s.heap b W.toArray)(i:v≠[])
  (p:W=[]->Q (.ref t) s) (q:W≠[]->Q (.ref s.heap.objs.size) { s with heap:=s.heap.push { cls:=.type "tuple",data:=.seq (v++W).toArray } })
  (g:v.length+W.length<=τ):ξ (υ prog w) A (binaryOp .Add (.ref t)$ .ref b) Q E s:=by
 obtain⟨⟨cls,D,data,j⟩,c,k,n,l⟩:=id m;obtain⟨⟨C,d,data2,S⟩,h,H,N,a⟩:=id o;simp only at k l H a;subst k l H a;let e:v.toArray++W.toArray=(v++W).toArray:=by simp
 by_cases f:W=[]
 .exact T5 #[_,c,Z] #[_,h,Z] SH TK PQ Pt (Pq _ _)
   (tuple_addW1 t b v.toArray W.toArray n N D d j S (by simpa using i) (by simp [f])) #[c,h,p f]
 .refine T5 #[_,c,Z] #[_,h,Z] SH TK PQ Pt (Pq _ _)
   (tuple_addW2 t b v.toArray W.toArray n N D d j S (by simpa using i) (by simpa using f) (by rw[ME,ME];exact g)) #[c,h,?_]
  rw[e];exact q f
def sIx(n d:Nat):Option Int->Nat
 |none=>d
 |some v=>if v < 0 then (v+(n:Int)).toNat else min v.toNat n
def sIx_none(n d:Nat):sIx n d ζ=d:=rfl
def sIx_nat(n d k:Nat):sIx n d (δ (k:Int))=min k n:=by show(if (k:Int) < 0 then ((k:Int)+(n:Int)).toNat else min (k:Int).toNat n)=min k n;rw[MS LN,Nr]
def D0(n d:Nat)(H:d<=n)(o:Option Int):sIx n d o<=n:=by
 cases o with
 |none=>exact H
 |some v=>
  show(if v < 0 then (v+(n:Int)).toNat else min v.toNat n)<=n;by_cases h:v < 0
  .rw[MQ h];omega
  .rw[MS h];exact Nat.min_le_right _ _
def ZA(v:Int)(n d:Nat):(if v < 0 then max (v+(n:Int)) 0 else min v (n:Int))=((sIx n d (δ v):Nat):Int):=by
 show(if v < 0 then max (v+(n:Int)) 0 else min v (n:Int))=(((if v < 0 then (v+(n:Int)).toNat else min v.toNat n):Nat):Int);by_cases h:v < 0
 .simp only[MQ h];omega
 .simp only[MS h];omega
def YS(lo h:Option Int)(n:Nat):mN lo h 1 (n:Int)=(((sIx n 0 lo:Nat):Int),((sIx n n h:Nat):Int)):=by
 let H:¬((1:Int) < 0):=by omega
 unfold mN;simp only[H,NR];erw[Prod.ext ?_ ?_]
 .cases lo with
  |none=>rfl
  |some v=>exact ZA v n 0
 .cases h with
  |none=>rfl
  |some v=>exact ZA v n n
def YT(i j:Nat):ic (i:Int) (j:Int) 1=j - i:=by
 unfold ic;let h:(1:Int) > 0:=by omega
 simp only[h,Pj,Int.ediv_one];split<;>omega
def Qk{Q:Option Int->θ->Prop}(p:IsPart v o)(h:Q o s):ξ (υ prog w) A (Builtin.Slice.slicePartIndex v) Q E s:=by
 cases p with
 |none=>exact VB h
 |int i t=>exact slicePart_int h
def sliceApplied_gen{lo:Option Int}{Q:Int×Int×Nat->θ->Prop}(d:s.heap.IsSliceOf e v c .none)(p:IsPart v lo)(P:IsPart c b)
  (h:Q (((sIx n 0 lo:Nat):Int),1,sIx n n b - sIx n 0 lo) s):ξ (υ prog w) A (rc (.ref e)$ pure (n:Int)) Q E s:=by
 let⟨os,H,f,a⟩:=id d;unfold rc Builtin.Slice.sliceFields;erw[Ms$ Ms$ M3 H a (x:=v) Z$ Ms$ M3 H a (x:=c) Z$ Ms$ M3 H a (x:=.none) Z$ Mu ?_];erw[Ms$ VB ?_];show ξ _ _ (if ((1:Int)==0)=ν then _ else _) _ _ s;rw[MS LO];erw[Ms$ Qk p$ Ms$ Qk P$ Ms$ Mu ?_];show ξ _ _ (match mN lo b 1 (n:Int) with | (lo,b)=>pure (lo,(1:Int),ic lo b 1)) _ _ s;rw[YS lo b n];show ξ _ _ (pure (((sIx n 0 lo:Nat):Int),(1:Int),ic ((sIx n 0 lo:Nat):Int) ((sIx n n b:Nat):Int) 1)) _ _ s;rw[YT];exact Mu h
def vh(X:Array η)(i k:Nat):((kr k).filterMap λ(m:Nat)=>X[((i:Int)+(m:Int)*1).toNat]?).toArray=((X.toList.drop i).take k).toArray:=by
 let e:(λ(m:Nat)=>X[((i:Int)+(m:Int)*1).toNat]?)=λm=>X[i+m]?:=by
  funext m;let:((i:Int)+(m:Int)*1).toNat=i+m:=by omega
  rw[this]
 rw[e];let:=pick_run X i k;rw[List.filterMap_map]at this;let a:((λx=>X[x]?) ∘ λx=>i+x)=λm=>X[i+m]?:=rfl;rw[a]at this;rw[this]
def getItem_tuple_cut{lo:Option Int}{Q:η->θ->Prop}(ht:IsTup s.heap t items)(hs:s.heap.IsSliceOf sl vl vu .none)(pl:IsPart vl lo)(pu:IsPart vu hi)
  (hw:¬(sIx items.size 0 lo=0/\sIx items.size items.size hi=items.size))
  (h:Q (.ref s.heap.objs.size) { s with heap:=s.heap.push { cls:=.type "tuple",data:=.seq ((items.toList.drop$ sIx items.size 0 lo).take$ sIx items.size items.size hi - sIx items.size 0 lo).toArray } })
  (hsz:items.size<=τ):ξ (υ prog w) A (getItem (.ref t)$ .ref sl) Q E s:=by
 let htake:sizeOk (.seq ((items.toList.drop$ sIx items.size 0 lo).take$ sIx items.size items.size hi - sIx items.size 0 lo).toArray):=by show((items.toList.drop$ sIx items.size 0 lo).take$ sIx items.size items.size hi - sIx items.size 0 lo).toArray.size<=τ;rw[ME,M1,Og,M5];omega
 let hj:sIx items.size items.size hi<=items.size:=D0 _ _ (Mx _) hi;let⟨os,hos,hcs,hds⟩:=id hs;let hTs:s.TypeIs (.ref sl) "slice":=#[os,hos,hcs];unfold getItem;try with_reducible erw[MW ?_]
 first |refine Ms (Mu ?_) |skip
 erw[Ms$ Se ht.typeIs LO ?_];refine Ms (M' (name:=Str.ofString "__getitem__") ht.typeIs Om
  (Nf Om ht.typeIs entry_tuple_getitem ?_$ args_tuple_getitem _ _))
 show ξ _ _ (ri (.ref t) >>= _) _ _ s;erw[Ms$ tupleItemsOf_ ht ?_];erw[Ms$ Ol hTs ?_];rw[MQ LO];erw[Ms$ sliceApplied_gen hs pl pu ?_];let hno:¬((((sIx items.size 0 lo:Nat):Int)==0&&(1:Int)==1&&(sIx items.size items.size hi - sIx items.size 0 lo)==items.size)=ν):=by intro q;rw[NE,NE]at q;let q1:((sIx items.size 0 lo:Nat):Int)=0:=eq_of_beq q.1.1;let q2:sIx items.size items.size hi - sIx items.size 0 lo=items.size:=eq_of_beq q.2;exact hw #[LN,LN]
 show ξ _ _ (if (((sIx items.size 0 lo:Nat):Int)==0&&(1:Int)==1&&(sIx items.size items.size hi - sIx items.size 0 lo)==items.size)=ν then _ else _) _ _ s;rw[MS hno,vh];first
  |exact Ms (m:=ey _) (Na (Mu #[_,Z,Mu h]) htake)
  |exact Ms (m:=ey _) (Na (Ms (Mu (Mu #[_,Z,Mu h]))) htake)
  |exact Ms (Ms (m:=ey _) (Na (Mu (Mu #[_,Z,Mu h])) htake))
  |exact Ms (Ms (m:=ey _) (Na (Mu #[_,Z,Mu h]) htake))
end
end HT
namespace _L
open PySem PySem.Spec PyProof.Rows
abbrev TO:=St->Hp->(Option Int->Hp->Prop)->Prop
def PO(X:Cx)(e:Option dr)(t:TO):Prop:=
 ∀(p:List (ε×gm)) (s:θ) (a:St) (H:Hp) (Q:Option Int->Hp->Prop),ap X p a H s->t a H Q->
  ξ (υ X.prog X.w) X.A (evalPart e X.env) (λu S=>∃o h,ap X p a h S/\IsPart u o/\Q o h) X.xe s
def mx:TO:=λ_ H Q=>Q ζ H
inductive wM(Q:Option Int->Hp->Prop)(x:V)(a:Hp):Prop
 |mk(i:_)(_:x= .int i)(_:Q (δ i) a)
def nD(t:TE):TO:=λa H Q=>t a H (wM Q)
section
variable {X:Cx}{e:dr}{te:TE}{lo hi:Option dr}{tl th:TO}{pos p2:Pos}
def ki:PO X ζ mx:=by intro p s a H Q I h;rw[evalPart_none];exact Mu #[ζ,H,I,.none,h]
def jI(h:PE X e te):PO X (δ e) (nD te):=by intro p s a H Q I b;rw[evalPart_some];erw[aL (h p s a H _ I b) λu S z=>?_];let⟨x,c,d,r,f⟩:=z;let⟨i,rfl,q⟩:=f;let⟨t,rfl⟩:=r;exact#[δ i,c,d,.int i t,q]
def EZ(X:Cx)(r:V->Option Int->Option Int->Hp->VK->Prop):Prop:=
 ∀(p:List (ε×gm)) (s:θ) (a:St) (H:Hp) (x:V) (v b c:η) (lo hi:Option Int) (S:ε) (Q:VK),ap X p a H s->aC x v->s.heap.IsSliceOf S b c .none->IsPart b lo->IsPart c hi->r x lo hi H Q->
  ∃T id,typeLookup (.type T) "__getitem__"=pure (δ$ .builtin id)/\s.TypeIs v T/\ξ (υ X.prog X.w) X.A (getItem v$ .ref S) (EP X p a Q) X.xe s
def HW(r:V->Option Int->Option Int->Hp->VK->Prop)(te:TE)(tl th:TO):TE:=λa H Q=>te a H λx h=>tl a h λl b=>th a b λu c=>r x l u c Q
def jK{r:V->Option Int->Option Int->Hp->VK->Prop}(g:EZ X r)(i:PE X e te)(j:PO X lo tl)(k:PO X hi th):PE X (.Subscript e (.Slice lo hi ζ p2) pos) (HW r te tl th):=by intro p s a H Q I h;erw[UR$ aL (i p s a H _ I h) λv m z=>?_];let⟨x,n,o,R,t⟩:=z;erw[wpAny_Slice$ aL (j p m a n _ o t) λc y #[l,B,C,P,D]=>aL (k p y a B _ C D) λd S z=>?_];let⟨u,f,E,F,G⟩:=z;rw[evalPart_none];erw[Mu ?_];let J:ap X p a f { S with heap:=S.heap.push { cls:=.type "slice",data:=.fields (ι [c,d,.none]) } }:=E.kept (t':=S.toks) λb O q=>Mt _ q;let⟨T,id,K,L,M⟩:=g p { S with heap:=S.heap.push { cls:=.type "slice",data:=.fields (ι [c,d,.none]) } } a f x v c d l u S.heap.objs.size Q J R (Sb ..) P F G;show ξ (υ X.prog X.w) X.A (subscriptTail e (.Slice lo hi ζ p2) v$ .ref S.heap.objs.size) (EP X p a Q) X.xe { S with heap:=S.heap.push { cls:=.type "slice",data:=.fields (ι [c,d,.none]) } };exact tail_any (ops:=[.ref S.heap.objs.size,v]) L K M (by with_unfolding_all rfl)
def aX(x:List V)(lo hi:Option Int):List V:=(x.drop$ HT.sIx x.length 0 lo).take (HT.sIx x.length x.length hi - HT.sIx x.length 0 lo)
def zG(x:List V)(lo hi:Option Int):(aX x lo hi).length<=x.length:=by unfold aX;rw[M1,Og];omega
inductive GH(K:Ω)(x:V)(c b:Option Int)(H:Hp)(Q:VK):Prop
 |mk(a d:_)(_:x= .ref a)(_:aB K H a d)(_:¬(HT.sIx d.length 0 c=0/\HT.sIx d.length d.length b=d.length))(_:∀p,H p=ζ->Q (.ref p) (upd H p (.tup (aX d c b))))
def Eh:EZ X (GH X.K):=by
 intro p s n H x v V t lo hi S Q I R j P k h;let⟨a,d,rfl,l,m,q⟩:=h;cases R;let⟨i,r,f,g⟩:=I.tuple l;let c:i.toArray.size=d.length:=by rw[ME];exact r.length.symm
 erw[#["tuple",_,PyProof.Rows.slot_tuple_getitem.lookup,f.typeIs,?_]];erw[HT.getItem_tuple_cut f j P k (by rw[c];exact m) ?_ (by rw[c];exact g)];rw[c];erw[#[.ref s.heap.objs.size,_,I.laid (t':=s.toks) (o:=.tup (aX d lo hi)) (λb O q=>Mt _ q) (Mx _) ?_,Z,q _$ I.hok.fresh$ Mx _]];exact#[MT (zG d lo hi) g,_,(r.drop$ HT.sIx d.length 0 lo).take$ HT.sIx d.length d.length hi - HT.sIx d.length 0 lo,Ub _ _]
inductive BM(K:Ω)(x y:V)(H:Hp)(Q:VK):Prop
 |mk(a b c d:_)(_:x= .ref a)(_:y= .ref b)(_:aB K H a c)(_:aB K H b d)(_:c≠[])(_:c.length+d.length<=τ)(_:d=[]->Q (.ref a) H)(_:d≠[]->∀p,H p=ζ->Q (.ref p) (upd H p (.tup (c++d))))
def aw.nil_iff(r:aw x u):u=[]↔x=[]:=by
 cases r with
 |nil |cons _ _=>simp
def yX:gg X (binaryOp .Add) (BM X.K):=by intro p s A H x y v u Q I d f h;let⟨a,b,g,Y,rfl,rfl,j,k,l,c,m,n⟩:=h;cases d;cases f;let⟨t,R,P,_⟩:=I.tuple j;let⟨i,r,p2,_⟩:=I.tuple k;erw[HT.cat_tup P p2 (λz=>l (R.nil_iff.mp z)) (λz=>#[.ref a,H,I,Z,m$ r.nil_iff.mp z]) (λz=>?_) (by rw[<- R.length,<- r.length];exact c)];erw[#[.ref s.heap.objs.size,_,I.laid (t':=s.toks) (o:=.tup (g++Y)) (λb O q=>Mt _ q) (Mx _) ?_,Z,n (λw=>z (r.nil_iff.mpr w)) _$ I.hok.fresh$ Mx _]];exact#[by rw[Mz];exact c,_,R.append r,Ub _ _]
end
def nK(n:Nat)(i:Int):Option Nat:=if 0<=i then (if i < n then δ i.toNat else ζ) else if -(n:Int)<=i then δ (i+n).toNat else ζ
def dM{a:Type}(x:List a)(i:Int):Option a:=(nK x.length i).bind λj=>x[j]?
def ZB(h:nK n i=δ j):seqIndex? i n=δ j/\j < n/\ -(n:Int)<=i/\i < n:=by
 unfold nK at h;by_cases a:0<=i
 .rw[MQ a]at h;by_cases H:i < n
  .rw[MQ H]at h;let e:i.toNat=j:=Nn h;exact#[by rw[Ut a H,e],LN,LN,H]
  .rw[MS H]at h;cases h
 .rw[MS a]at h;by_cases H: -(n:Int)<=i
  .rw[MQ H]at h;let e:(i+n).toNat=j:=Nn h;exact#[by rw[T4 LN H,e],LN,H,LN]
  .rw[MS H]at h;cases h
def Xz{a:Type}{x:List a}{v:a}(h:dM x i=δ v):∃j,seqIndex? i x.length=δ j/\x[j]?=δ v/\j < x.length/\ -(x.length:Int)<=i/\i < x.length:=by
 unfold dM at h;cases e:nK x.length i with
 |none=>rw[e]at h;cases h
 |some j=>rw[e]at h;let⟨H,b,c,d⟩:=ZB e;exact#[j,H,h,b,c,d]
def jP{a:Type}{x:List a}{j:Nat}{v:a}(h:x[j]?=δ v):dM x (j:Int)=δ v:=by
 let H:j < x.length:=(χ.mp h).1;let e:nK x.length (j:Int)=δ j:=by unfold nK;rw[MQ LN,MQ LN];simp
 unfold dM;rw[e];exact h
def xK(b:dr):Prop:=∀o i,subscripted b μ o i=operate [o,i] (getItem o i)
def EU(X:Cx)(r:R2):Prop:=
 ∀(a S:dr) (p:List (ε×gm)) (s:θ) (b:St) (H:Hp) (x y:V) (v u:η) (Q:VK),ap X p b H s->aC x v->aC y u->r x y H Q->
  subscripted S μ v u=operate [v,u] (getItem v u)->ξ (υ X.prog X.w) X.A (subscriptTail a S v u) (EP X p b Q) X.xe s
def HK(X:Cx)(id:String)(r:V->List V->Hp->VK->Prop):Prop:=
 ∀(p:List (ε×gm)) (s:θ) (a:St) (H:Hp) (x:V) (b:List V) (v:η) (u:List η) (Q:VK),ap X p a H s->aC x v->aw b u->r x b H Q->
  ξ (υ X.prog X.w) X.A (call (.builtin id) (v::u)) (EP X p a Q) X.xe s
section
variable {X:Cx}{a b:dr}{ta tb:TE}{pos:Pos}
def jr{r:R2}(c:EU X r)(d:PE X a ta)(e:PE X b tb)(f:xK b):PE X (.Subscript a b pos) (eh r ta tb):=by intro p s g H Q I h;exact UR$ Cu d e I h λv u S x y i j R k q=>c a b p S g i x y v u Q j R k q (f _ _)
inductive lv(K:Ω)(x y:V)(H:Hp)(Q:VK):Prop
 |mk(p a i v:_)(_:x= .ref p)(_:y= .int i)(_:aF K H p a)(_:dM a i=δ v)(_:Q v H)
inductive fj(K:Ω)(x y:V)(H:Hp)(Q:VK):Prop
 |mk(p a i v:_)(_:x= .ref p)(_:y= .int i)(_:aB K H p a)(_:dM a i=δ v)(_:Q v H)
inductive Ag(x y:V)(H:Hp)(Q:VK):Prop
 |mk(z i c:_)(_:x= .str z)(_:y= .int i)(_:z.length<=τ)(_:dM z.cps.toList i=δ c)(_:Q (.str #[(ι [c])]) H)
def jp:EU X (lv X.K):=by
 intro V S P s k H x y v u Q I n o h l;let⟨p,L,i,z,rfl,rfl,A,B,q⟩:=h;cases n;let⟨t,rfl⟩:=o;let⟨d,r,e,M⟩:=I.list A;let⟨j,c,C,N,D,F⟩:=Xz B;let⟨w,E,R⟩:=r.get C;let G:=r.length;let O:=eS;let f:EP X P k Q w s:=#[z,H,I,R,q];by_cases m:0<=i
 .let g:i.toNat=j:=by rw[Ut m F]at c;exact Nn c
  exact item_listR e.isList m LN (by rw[g];simpa using E) f l
 .let g:(i+(d.toArray.size:Int)).toNat=j:=by rw[T4 LN D]at c;rw[ME,<- G];exact Nn c
  exact T3 (x:=w) e.isList.typeIs slot_list_getitem.lookup
   (wpAny_getItem_list_neg (Q:=λr J=>r=w/\EP X P k Q r J) e.isList LN (by rw[ME]<;>omega) LN (by rw[g];simpa using E) #[Z,f]) l
def j6:EU X (fj X.K):=by
 intro V S P s c H x y v u Q I e g h k;let⟨p,D,i,z,rfl,rfl,l,m,q⟩:=h;cases e;let⟨t,rfl⟩:=g;let⟨n,r,d,F⟩:=I.tuple l;let⟨j,o,A,G,J,L⟩:=Xz m;let⟨w,E,R⟩:=r.get A;let B:=r.length;let M:=eS;let f:EP X P c Q w s:=#[z,H,I,R,q];exact T3 (x:=w) d.typeIs slot_tuple_getitem.lookup
  (getItem_tuple (j:=j) (Q:=λr C=>r=w/\EP X P c Q r C) d LN LN (by rw[ME,<- B];exact o) (by simpa using E) #[Z,f]) k
def KN:EU X Ag:=by
 intro V S p s o H x y v u Q I r R h e;let⟨z,i,c,rfl,rfl,w,f,q⟩:=h;let⟨t,rfl⟩:=r;let⟨T,rfl⟩:=R;let⟨j,d,g,A,k,l⟩:=Xz f;let m:z.cps.toList.length=z.length:=by simp [Str.length]
 rw[m]at d k l;let B:=eS;exact tail_any (UO s z t) slot_str_getitem.lookup (getItem_str (c:=c) (by
  let E:decide (i < -(2 ^ 63:Int))=μ:=MY LN;let n:decide (i≥2 ^ 63)=μ:=MY LN;rw[E,n,Tb]) (by rw[d];simpa using g) #[.str #[(ι [c])],H,I.tok _,#[_,Z],q]) e
def YU(i:List η)(n j:Nat)(u:η):ib (·.setIfInBounds j u) { cls:=.type "list",data:=.seq i.toArray n }={ cls:=.type "list",data:=.seq (i.set j u).toArray n }:=by simp [ib]
def ap.lst(I:ap X c d H s)(h:H p=δ (.lst x)):
  ∃(i:List η) (n:Nat),aw x i/\s.heap.get? p=δ { cls:=.type "list",data:=.seq i.toArray n }/\x.length<=τ:=by
 let⟨z,i,n,r,e⟩:=I.hok p _ h;exact#[i,n,r,e,z]
def ap.lstUpd{c i:List η}{f:gm->gm}(I:ap X d j H s)(h:H p=δ (.lst o))
  (k:s.heap.get? p=δ { cls:=.type "list",data:=.seq c.toArray n }) (g:f { cls:=.type "list",data:=.seq c.toArray n }={ cls:=.type "list",data:=.seq i.toArray N }) (r:aw y i) (l:y.length<=τ) (t:Nat):
  ap X d j (upd H p$ .lst y) { s with heap:=s.heap.update p f,toks:=t }:=by
 let e:(s.heap.update p f).get? p=δ { cls:=.type "list",data:=.seq i.toArray N }:=by rw[Heap.get?_update_self f k (by rw[g]<;>rfl),g]
 erw[I.write (x:=p) (e:=p) (by rw[h];trivial) (.inl Z) (λb u m q=>(Heap.get?_update_other _ _$ Ne.symm m).trans q) #[_,e] ?_];exact#[l,i,N,r,e]
inductive oQ(o i v:V)(H:Hp)(Q:Hp->Prop):Prop
 |mk(p a k j:_)(_:o= .ref p)(_:i= .int k)(_:H p=δ (.lst a))(_:nK a.length k=δ j)(_:Q (upd H p (.lst (a.set j v))))
def zU:EY X oQ:=by
 intro P s z H o i v O F u Q I R A B h;let⟨p,C,k,j,rfl,rfl,l,D,q⟩:=h;cases R;let⟨t,rfl⟩:=A;let⟨c,n,r,e,E⟩:=I.lst l;let⟨d,G,m,w⟩:=ZB D;let f:=r.length;let J:=eS;let x:ap X P z (upd H p$ .lst$ C.set j v) { s with heap:=s.heap.update p (ib (·.setIfInBounds j u)) }:=
  I.lstUpd l e (YU c n j u) (r.set B j) (by rw[Rj];exact E) s.toks
 by_cases y:0<=k
 .let g:k.toNat=j:=by rw[Ut y w]at d;exact Nn d
  exact PySem.W.ki_setAt e y LN (by rw[ME,<- f];exact w) (by rw[g];exact#[_,x,q])
 .let g:(k+(c.toArray.size:Int)).toNat=j:=by rw[T4 LN m]at d;rw[ME,<- f];exact Nn d
  exact PySem.W.ki_setBack e LN (by rw[ME,<- f];exact m) LN (by rw[g];exact#[_,x,q])
def XI(lo H:Option Int)(n:Nat):(sliceBounds lo H ζ n).1=((HT.sIx n 0 lo:Nat):Int)/\(sliceBounds lo H ζ n).2.1=((HT.sIx n n H:Nat):Int)/\(sliceBounds lo H ζ n).2.2=1:=by
 erw[#[?_,?_,Z]]
 .cases lo with
  |none=>simp [sliceBounds,HT.sIx]
  |some i=>
   simp only[sliceBounds,HT.sIx,RO,show(1:Int) > 0 by decide,Pj];by_cases h:i < 0
   .simp only[h,Pj]<;>omega
   .simp only[h,NR]<;>omega
 .cases H with
  |none=>simp [sliceBounds,HT.sIx]
  |some i=>
   simp only[sliceBounds,HT.sIx,RO,show(1:Int) > 0 by decide,Pj];by_cases h:i < 0
   .simp only[h,Pj]<;>omega
   .simp only[h,NR]<;>omega
def QA(i:List η)(lo h:Option Int):slicePick i.toArray lo h ζ=((i.drop$ HT.sIx i.length 0 lo).take$ HT.sIx i.length i.length h - HT.sIx i.length 0 lo).toArray:=by let⟨H,c,d⟩:=XI lo h i.toArray.size;unfold slicePick;rw[H,c,d];simp only[sliceRange_one,pick_run,ME]<;>rfl
inductive Ah(K:Ω)(x:V)(c b:Option Int)(H:Hp)(Q:VK):Prop
 |mk(a d:_)(_:x= .ref a)(_:aF K H a d)(_:∀p,H p=ζ->Q (.ref p) (upd H p (.lst (aX d c b))))
def kX:EZ X (Ah X.K):=by intro p s m H x v V n lo e S Q I R g P i h;let⟨a,c,rfl,j,q⟩:=h;cases R;let⟨k,r,f,l⟩:=I.list j;let d:=r.length;erw[#["list",_,slot_list_getitem.lookup,f.isList.typeIs,?_]];erw[wpAny_getItem_list_slice f.isList g P i .none LM ?_ (by rw[ME]<;>omega)];rw[QA,<- d];erw[#[.ref s.heap.objs.size,_,I.laid (t':=s.toks) (o:=.lst (aX c lo e)) (λb O q=>Mt _ q) (Mx _) ?_,Z,q _$ I.hok.fresh$ Mx _]];exact#[MT (zG c lo e) l,_,0,(r.drop$ HT.sIx c.length 0 lo).take$ HT.sIx c.length c.length e - HT.sIx c.length 0 lo,MD _ Z]
def cj:V->Bool
 | .non | .bl _ | .int _ | .str _=>ν
 |_=>μ
def lr:V->V->Bool
 | .non,.non=>ν
 | .bl a,.bl b=>a==b
 | .bl a,.int b=>(if a then 1 else 0)==b
 | .int a,.bl b=>a==(if b then 1 else 0)
 | .int a,.int b | .str a,.str b=>a==b
 |_,_=>μ
def Xq(R:aC y u)(r:aC x v)(F:cj y=ν)(f:cj x=ν):SeqAt.EqAt A s u v (lr y x):=by
 cases y with
 |non=>
  cases R;cases x with
  |non=>cases r;exact SeqAt.EqAt.same _
  |bl b=>cases r;exact SeqAt.EqAt.none_bool b
  |int b=>let⟨t,rfl⟩:=r;exact SeqAt.EqAt.none_int b t
  |str b=>let⟨t,rfl⟩:=r;exact SeqAt.EqAt.none_str b t
  |_=>exact absurd (show μ=ν from f) MJ
 |bl a=>
  cases R;cases x with
  |non=>cases r;exact SeqAt.EqAt.bool_none a
  |bl b=>cases r;exact SeqAt.EqAt.bool_bool a b
  |int b=>let⟨t,rfl⟩:=r;exact SeqAt.EqAt.bool_int a b t
  |str b=>let⟨t,rfl⟩:=r;exact SeqAt.EqAt.bool_str a b t
  |_=>exact absurd (show μ=ν from f) MJ
 |int a=>
  let⟨T,rfl⟩:=R;cases x with
  |non=>cases r;exact SeqAt.EqAt.int_none a T
  |bl b=>cases r;exact SeqAt.EqAt.int_bool a T b
  |int b=>let⟨t,rfl⟩:=r;exact SeqAt.EqAt.int_int a T b t
  |str b=>let⟨t,rfl⟩:=r;exact SU a T b t
  |_=>exact absurd (show μ=ν from f) MJ
 |str a=>
  let⟨T,rfl⟩:=R;cases x with
  |non=>cases r;exact SeqAt.EqAt.str_none a T
  |bl b=>cases r;exact SeqAt.EqAt.str_bool a T b
  |int b=>let⟨t,rfl⟩:=r;exact SR a T b t
  |str b=>let⟨t,rfl⟩:=r;exact SeqAt.EqAt.str_str a T b t
  |_=>exact absurd (show μ=ν from f) MJ
 |_=>exact absurd (show μ=ν from F) MJ
def nU(x:V)(u:η):Bool:=match u with
 | .none=>lr .non x
 | .bool b=>lr (.bl b) x
 | .int i _=>lr (.int i) x
 | .str z _=>lr (.str z) x
 |_=>μ
def tF(r:aC y u)(f:cj y=ν):nU x u=lr y x:=by
 cases y with
 |non |bl b=>cases r;rfl
 |int i |str z=>let⟨t,rfl⟩:=r;rfl
 |_=>exact absurd (show μ=ν from f) MJ
theorem JA:∀{c:List V} {U:List η},aw c U->c.all cj=ν->U.any (nU x)=c.any λy=>lr y x
 |_,_,.nil,_=>rfl
 |y::c,u::U,.cons r t,f=>by rw[Ta,NE]at f;rw[Pz,Pz,tF r f.1,JA t f.2]
theorem qP(R:aC x v)(F:cj x=ν):∀{c:List V} {U:List η},aw c U->c.all cj=ν->∀u∈U,SeqAt.EqAt A s u v (nU x u)
 |_,_,.nil,_=>λu hu=>by cases hu
 |y::c,u::U,.cons r t,f=>λd hu=>by
  rw[Ta,NE]at f;rcases Ψ.mp hu with rfl |hu
  .rw[tF r f.1];exact Xq r R f.1 F
  .exact qP R F t f.2 d hu
def iK(x:V)(c:List V):Bool:=c.any λy=>lr y x
inductive EN(K:Ω)(a:Bool)(x y:V)(H:Hp)(Q:VK):Prop
 |mk(p b:_)(_:y= .ref p)(_:aF K H p b∨aB K H p b)(_:cj x=ν)(_:b.all cj=ν)(_:Q (.bl (if a then !iK x b else iK x b)) H)
def zO:gg X (compareOp .In) (EN X.K μ):=by
 intro d s j H x y v u Q I R e h;let⟨p,k,rfl,hq,F,f,q⟩:=h;cases e;rcases hq with hq |hq
 .let⟨i,r,P,g⟩:=I.list hq;erw[SeqAt.in_listAt (nU x) P.isList (λw c=>qP R F r f w (by simpa using c)) #[.bl _,H,I,Z,?_]];rw[show i.toArray.any (nU x)=i.any (nU x) by simp,JA r f];exact q
 .let⟨i,r,P,g⟩:=I.tuple hq;erw[SeqAt.in_tupleAt (nU x) P (λw c=>qP R F r f w (by simpa using c)) #[.bl _,H,I,Z,?_]];rw[show i.toArray.any (nU x)=i.any (nU x) by simp,JA r f];exact q
def qC:gg X (compareOp .NotIn) (EN X.K ν):=by
 intro d s j H x y v u Q I R e h;let⟨p,k,rfl,hq,F,f,q⟩:=h;cases e;rcases hq with hq |hq
 .let⟨i,r,P,g⟩:=I.list hq;erw[SeqAt.notIn_listAt (nU x) P.isList (λw c=>qP R F r f w (by simpa using c)) #[.bl _,H,I,Z,?_]];rw[show i.toArray.any (nU x)=i.any (nU x) by simp,JA r f];exact q
 .let⟨i,r,P,g⟩:=I.tuple hq;erw[SeqAt.notIn_tupleAt (nU x) P (λw c=>qP R F r f w (by simpa using c)) #[.bl _,H,I,Z,?_]];rw[show i.toArray.any (nU x)=i.any (nU x) by simp,JA r f];exact q
def jL:dI X (.builtin "len") (λx H Q=>∃p y,x=[.ref p]/\(aF X.K H p y∨aB X.K H p y)/\Q (.int y.length) H):=by
 intro d s g H x U Q I r h;let⟨p,y,rfl,hq,q⟩:=h;let⟨u,rfl,e⟩:=eZ r;cases e;let j:=eS;rcases hq with hq |hq
 .let⟨i,R,P,f⟩:=I.list hq;let c:=R.length;exact Calls.call_len_list P.isList (by simp only[ME]<;>omega) #[.int y.length,H,I.tok _,#[s.toks+1,by rw[ME,c]],q]
 .let⟨i,R,P,f⟩:=I.tuple hq;let c:=R.length;exact len_tuple P (by simp only[ME]<;>omega) #[.int y.length,H,I.tok _,#[s.toks+1,by rw[ME,c]],q]
def JN:dI X (.type "list") (λx H Q=>∃p y,x=[.ref p]/\(aF X.K H p y∨aB X.K H p y)/\∀l,H l=ζ->Q (.ref l) (upd H l$ .lst y)):=by
 intro P s z H x U Q I r h;let⟨p,y,rfl,hq,q⟩:=h;let⟨u,rfl,A⟩:=eZ r;cases A;let f:∀(i:List η),aw y i->y.length<=τ->∀(c:ef) (C:Nat),(∀b O,s.heap.get? b=δ O->c.get? b=δ O)->
   c.get? s.heap.objs.size=δ { cls:=.type "list",dict:=ζ,data:=.seq i.toArray C,slots:=(ι []) }->EP X P z Q (.ref s.heap.objs.size) { s with heap:=c }:=λi R d c C k e=>
  #[.ref s.heap.objs.size,_,I.laid (t':=s.toks) k (Mx _) (show aO X.prog X.w _ c _ (.lst y) from #[d,i,C,R,e]),Z,q _$ I.hok.fresh$ Mx _]
 rcases hq with hq |hq
 .let⟨i,R,j,d⟩:=I.list hq;let g:=R.length;let⟨o,m,t,n,v⟩:=j.isList;exact call_list_seq p (.inl Z) m t v (λc C k e=>f i R d c C k e) (by simp only[ME]<;>omega)
 .let⟨i,R,j,d⟩:=I.tuple hq;let g:=R.length;let⟨o,m,t,n,v⟩:=j;exact call_list_seq p (.inr Z) m t v (λc C k e=>f i R d c C k e) (by simp only[ME]<;>omega)
def jG:dI X (.type "tuple") (λx H Q=>∃p y,x=[.ref p]/\((aF X.K H p y/\∀l,H l=ζ->Q (.ref l) (upd H l$ .tup y))∨(aB X.K H p y/\Q (.ref p) H))):=by
 intro P s g H x U Q I r h;let⟨p,y,rfl,h⟩:=h;let⟨u,rfl,n⟩:=eZ r;cases n;rcases h with ⟨d,q⟩ | ⟨d,q⟩
 .let⟨i,R,f,j⟩:=I.list d;let k:=R.length;erw[call_tuple_list f.isList (λc t=>?_) (by simp only[ME]<;>omega)];let m:ap X P g H { s with heap:=c }:=I.kept (t':=s.toks) t;let v:ap X P g (upd H c.objs.size$ .tup y) { s with heap:=c.push { cls:=.type "tuple",data:=.seq i.toArray } }:=
   m.laid (t':=s.toks) (λb o e=>Mt _ e) (Mx _) (show aO X.prog X.w _ _ _ (.tup y) from #[j,i,R,Ub _ _])
  exact#[.ref c.objs.size,_,v,Z,q _$ m.hok.fresh$ Mx _]
 .let⟨i,R,f,j⟩:=I.tuple d;exact call_tuple_same f #[.ref p,H,I,Z,q]
def IW(K:Ω)(T:String)(x:V)(H:Hp):Prop:=match x with
 | .str _=>T="str"
 | .int _=>T="int"
 | .ref p=>(T="list"/\∃c,aF K H p c)∨(T="tuple"/\∃o,K.lookup p=δ o/\o.cls= .type "tuple"/\o.dict=ζ)∨
   (T="dict"/\((∃k,H p=δ (.dK k))∨∃k,H p=δ (.dT k)))∨(T="set"/\∃S n,H p=δ (.set S n))
 |_=>False
def wU(I:ap X j u H s)(r:aC x v)(d:IW X.K T x H):
  s.TypeIs v T/\∀a,v= .ref a->∃O,s.heap.get? a=δ O/\O.dict=ζ:=by
 cases x with
 |str z=>let⟨t,rfl⟩:=r;cases (show T="str" from d);exact#[UO s z t,λ_ e=>nomatch e]
 |int i=>let⟨t,rfl⟩:=r;cases (show T="int" from d);exact#[typeIs_int s i t,λ_ e=>nomatch e]
 |ref p=>
  cases r;rcases d with ⟨rfl,w,l⟩ | ⟨rfl,o,h,m,f⟩ | ⟨rfl,h⟩ | ⟨rfl,S,n,h⟩
  .let⟨q,_,P,_⟩:=I.list l;erw[#[P.isList.typeIs,λa e=>?_]];cases e;let⟨o,n,e,c,f,_⟩:=P;exact#[o,e,f]
  .erw[#[#[o,I.kIn p o h,m],λa e=>?_]];cases e;exact#[o,I.kIn _ o h,f]
  .let z:∃o,s.heap.get? p=δ o/\o.ExactDict:=by
    rcases h with ⟨k,h⟩ | ⟨k,h⟩
    .let⟨_,_,_,_,o,_,_,e,E,_⟩:=I.hok p _ h;exact#[o,e,E]
    .let⟨_,_,_,_,o,_,_,e,E,_⟩:=I.hok p _ h;exact#[o,e,E]
   let⟨o,e,E⟩:=z;erw[#[#[o,e,E.1],λa g=>?_]];cases g;exact#[o,e,E.2.1]
  .let⟨o,_,_,_,e,E,_⟩:=I.hok p _ h;erw[#[#[o,e,E.1],λa g=>?_]];cases g;exact#[o,e,E.2.1]
 |_=>exact False.elim d
def IQ(K:Ω)(T:String)(r:V->List V->Hp->VK->Prop)(t:TE):TE:=λc H Q=>t c H λx h=>IW K T x h/\r x [] h Q
def IP(K:Ω)(T:String)(r:V->List V->Hp->VK->Prop)(d:TE)(t:TA):TE:=λc H Q=>d c H λx h=>IW K T x h/\t c h λe f=>r x e f Q
variable {o e:dr}{es:List dr}{to:TE}{t:TA}{name:π}{apos cpos:Pos}{T id:String}{r:V->List V->Hp->VK->Prop}
def DN(P:PlainAttrs T)(S:Slot T name id)(f:typeOf (.builtin id)=pure (.type "method_descriptor"))(j:HK X id r)(k:PE X o to)
  (c:↥(attributeBase o name X.env (eval o X.env)=eval o X.env)) (d:↥((apos.endLine==cpos.line)=ν)):PE X (.Call (.Attribute o name apos) [] [] cpos) (IQ X.K T r to):=by
 intro p s g H Q I h;erw[wpAny_Call_method0_late c d$ aL (k p s g H _ I h) λv l z=>?_];let⟨x,m,i,R,n,q⟩:=z;let⟨u,w⟩:=wU i R n;exact#[T,id,P,S,f,u,w,P5 Z$ PySem.evalArgs_none$ j p l g m x [] v [] Q i R .nil q]
def zh(P:PlainAttrs T)(S:Slot T name id)(i:typeOf (.builtin id)=pure (.type "method_descriptor"))(m:HK X id r)(n:PE X o to)(q:PA X (e::es) t)
  (d:↥(attributeBase o name X.env (eval o X.env)=eval o X.env))
  (g:↥(((eT cpos$ Θ (e::es) X.env).all (λx=>!x.1)&&(backToKw cpos$ keywordEach [] X.env).all (λx=>x.1.isSome)
   &&decide ((e::es).length+([]:List Keyword).length+(if ([]:List Keyword).isEmpty then 0 else 1) < 30))=ν))
  (f:↥((apos.endLine==cpos.line)=ν)) (u:↥(Θ (e::es) X.env=(μ,eval e X.env)::Θ es X.env)) (c:↥((eT cpos$ Θ es X.env).any (·.1)=μ)):
  PE X (.Call (.Attribute o name apos) (e::es) [] cpos) (IP X.K T r to t):=by
 intro p s j H Q I h;erw[wpAny_Call_method_late d g f Z$ aL (n p s j H _ I h) λv w z=>?_];let⟨x,y,k,R,A,B⟩:=z;let⟨C,D⟩:=wU k R A;erw[#[T,id,P,S,i,C,D,?_]];let l:=q cpos p w j y _ k B;rw[u]at l ⊢;erw[P5 (by show(μ||(eT cpos$ Θ es X.env).any (·.1))=μ;rw[c]<;>rfl)$ Tz ?_];exact aL l λU E #[F,G,J,L,M]=>m p E j G x F v U Q J R L M
end
def HJ(X:Cx)(id:String)(r:V->List V->Hp->VK->Prop):Prop:=
 ∀(p:List (ε×gm)) (s:θ) (a:St) (H:Hp) (x:V) (b:List V) (v:η) (u:List η) (Q:VK),ap X p a H s->aC x v->aw b u->r x b H Q->
  ξ (υ X.prog X.w) X.A (call (.builtin id) (v::u)) (EP X p a Q) X.xe s
def aw.one:∀{x:V} {U:List η},aw [x] U->∃u,U=[u]/\aC x u
 |_,_,.cons r .nil=>#[_,Z,r]
def aw.zero:∀{u:List η},aw [] u->u=[]
 |_,.nil=>rfl
def aw.dropLast(h:aw x u):aw x.dropLast u.dropLast:=by
 induction h with
 |nil=>exact .nil
 |cons r t i=>
  cases t with
  |nil=>exact .nil
  |cons q T=>exact .cons r i
def aw.reverse(h:aw x u):aw x.reverse u.reverse:=by
 induction h with
 |nil=>exact .nil
 |cons r t i=>rw[Pu,Pu];exact aw.append i (.cons r .nil)
def YV{c:Type}(l:List c):l.eraseIdx (l.length - 1)=l.dropLast:=by
 induction l with
 |nil=>rfl
 |cons a r i=>
  cases r with
  |nil=>rfl
  |cons b r=>
   let e:(a::b::r).length - 1=((b::r).length - 1)+1:=by let h:(a::b::r).length=r.length+2:=rfl;let H:(b::r).length=r.length+1:=rfl;omega
   rw[e,List.eraseIdx_cons_succ,i];all_goals rfl
section
variable {X:Cx}{pins:List (ε×gm)}{σ:St}{H:Hp}{s:θ}{l b:ε}{xs ys zs:List V}
def ap.lset{i its':List η}{f:Array η->Array η}{t':Nat}(I:ap X pins σ H s)(h:H l=δ (.lst xs))
  (e:s.heap.get? l=δ { cls:=.type "list",data:=.seq i.toArray n }) (a:f i.toArray=its'.toArray) (c:aw ys its') (d:ys.length<=τ):
  ap X pins σ (upd H l$ .lst ys) { s with heap:=s.heap.update l (ib f),toks:=t' }:=by
 let q:=PySem.IsL.update e f;rw[a]at q;erw[I.write (x:=l) (e:=l) (by rw[h];exact trivial) (.inl Z) (λB u g j=>(MP s.heap (ib f)$ MU g).trans j) #[_,q] ?_];exact#[d,its',_,c,q]
def ap.lnew{t':Nat}(I:ap X pins σ H s)(h:aw ys i)(a:ys.length<=τ):
  ap X pins σ (upd H s.heap.objs.size$ .lst ys) { s with heap:=s.heap.push { cls:=.type "list",data:=.seq i.toArray },toks:=t' }:=
 I.laid (λ_ _ q=>Mt _ q) (Mx _) #[a,i,0,h,MD _ Z]
def ap.fresh(I:ap X pins σ H s):H s.heap.objs.size=ζ:=I.hok.fresh (Mx _)
def ap.lstM(I:ap X pins σ H s)(h:H l=δ (.lst xs)):xs.length<=τ/\∃(i:List η) (n:Nat),aw xs i/\xs.length=i.length/\s.heap.get? l=δ { cls:=.type "list",data:=.seq i.toArray n }:=by let⟨z,i,n,r,e⟩:=I.hok l _ h;exact#[z,i,n,r,r.length,e]
def gI(h:n<=τ):ge n=μ:=by unfold ge;exact MY LN
end
section
variable {X:Cx}
inductive lP(x:V)(a:List V)(H:Hp)(Q:VK):Prop
 |mk(l b y:_)(_:x= .ref l)(_:a=[y])(_:H l=δ (.lst b))(_:b.length < τ)(_:Q .non (upd H l (.lst (b++[y]))))
def jQ:HJ X "list.append" lP:=by intro p s d H x V v U Q I R b h;let⟨l,f,y,rfl,rfl,a,g,q⟩:=h;cases R;let⟨u,rfl,c⟩:=b.one;let⟨z,i,n,r,j,e⟩:=I.lstM a;erw[RX F.slot_list_append #[_,e,Z] F.entry_list_append (F.args_list_append_2 _ _) (PySem.list_append l i.toArray n u (by rw[ME];omega)) #[e,?_]];erw[#[.non,_,I.lset (its':=i++[u]) a e LM (r.append$ .cons c .nil) ?_,Z,q]];rw[Mz,On];omega
inductive oO(x:V)(a:List V)(H:Hp)(Q:VK):Prop
 |mk(l b c d:_)(_:x= .ref l)(_:a=[.ref b])(_:H l=δ (.lst c))(_:H b=δ (.lst d))(_:c.length+d.length<=τ)(_:Q .non (upd H l (.lst (c++d))))
def re:HJ X "list.extend" oO:=by
 intro p s t H x V v U Q I R g h;let⟨l,b,w,y,rfl,rfl,f,j,A,q⟩:=h;cases R;let⟨u,rfl,k⟩:=g.one;cases k;let⟨z,a,n,r,B,e⟩:=I.lstM f;let⟨C,i,N,m,o,E⟩:=I.lstM j;let d:a.toArray.size+i.toArray.size<=τ:=by rw[ME,ME];omega
 let c:¬(!a.toArray.isEmpty&&ge (a.toArray.size+i.toArray.size))=ν:=by rw[gI d,Sz];exact MJ
 refine RX Uz #[_,e,Z] Uo (Uc _ _)
  (AutoSeq1.list_extend_list_list_0 l a.toArray n b i.toArray N c (by rw[ME];omega) LN) #[e,E,?_]
 erw[#[.non,_,I.lset (its':=a++i) f e LM (r.append m) ?_,Z,q]];rw[Mz];omega
inductive Gz(x:V)(a:List V)(H:Hp)(Q:VK):Prop
 |mk(l b y:_)(_:x= .ref l)(_:a=[])(_:H l=δ (.lst b))(_:b[b.length - 1]?=δ y)(_:Q y (upd H l (.lst b.dropLast)))
def Dh:HJ X "list.pop" Gz:=by
 intro p s m H x V v U Q I R d h;let⟨l,o,y,rfl,rfl,c,f,q⟩:=h;cases R;let a:=d.zero;subst a;let⟨z,i,n,r,g,e⟩:=I.lstM c;let⟨u,j,k⟩:=r.get f;let b:i.toArray[i.toArray.size - 1]?=δ u:=by show i.toArray[i.length - 1]?=δ u;rw[<- Oj,<- g];exact j
 erw[RX F.slot_list_pop #[_,e,Z] F.entry_list_pop (F.args_list_pop_1 _) (MeetsSeq.list_pop_last l i.toArray n u b (by rw[ME];omega)) #[e,?_]];erw[#[y,_,I.lset (its':=i.dropLast) c e ?_ r.dropLast ?_,k,q]]
 .show i.toArray.eraseIdxIfInBounds (i.toArray.size - 1)=i.dropLast.toArray;rw[ME,List.eraseIdxIfInBounds_toArray,YV]
 .rw[List.length_dropLast];omega
inductive Af(x y:V)(H:Hp)(Q:VK):Prop
 |mk(l b a c:_)(_:x= .ref l)(_:y= .ref b)(_:H l=δ (.lst a))(_:H b=δ (.lst c))(_:a.length+c.length<=τ)(_:∀p,H p=ζ->Q (.ref p) (upd H p (.lst (a++c))))
def qw:gg X (binaryOp .Add) Af:=by
 intro p s m H x y v u Q I R c h;let⟨l,b,o,t,rfl,rfl,d,f,w,q⟩:=h;cases R;cases c;let⟨z,a,n,r,A,e⟩:=I.lstM d;let⟨B,i,N,g,j,E⟩:=I.lstM f;erw[PySem.P.add_list e E ?_ (by rw[ME,ME];omega)];let k:a.toArray++i.toArray=(a++i).toArray:=by simp
 rw[k];exact#[.ref _,_,I.lnew (t':=s.toks) (r.append g) (by rw[Mz];omega),Z,q _ I.fresh]
end
section
variable {prog:ψ}{w:bU}{A:cJ}{E:η->θ->Prop}{s:θ}
def si(i I : List η)(a c : Nat) : i.toArray.extract 0 a ++ I.toArray ++ i.toArray.extract c i.toArray.size = (i.take a ++ I ++ i.drop c).toArray := by
  apply Array.toList_inj.mp;first
    | (simp
       exact Nq LM)
    | simp [Nq]
    | simp
def YW{a c n:Nat}(hac:a<=c)(hc:c<=n):sliceBounds (δ (a:Int)) (δ (c:Int)) ζ n=((a:Int),(c:Int),1):=by
 simp only[sliceBounds,RO];let h1:¬((a:Int) < 0):=by omega
 let h2:¬((c:Int) < 0):=by omega
 simp only[h1,h2,NR,show(1:Int) > 0 by decide,Pj];congr 1
 .omega
 .congr 1;omega
set_option maxRecDepth 100000 in
def QB{a c : Nat}{Q : Unit -> θ -> Prop}
    (e : s.heap.get? l = δ { cls := .type "list", data := .seq i n }) (y : s.heap.get? b = δ { cls := .type "list", data := .seq N I }) (q : l ≠ b)
    (C : s.heap.IsSliceOf p z B .none) (P : IsPart z (δ (a : Int))) (D : IsPart B (δ (c : Int))) (r : a <= c) (F : c <= i.size)
    (f : i.size + N.size <= τ) (h : Q () { s with heap := s.heap.update l (ib λX => X.extract 0 a ++ N ++ X.extract c X.size) }) :
    ξ (υ prog w) A (setItem (.ref l) (.ref p)$ .ref b) Q E s := by
  let t : s.heap.IsList l i := Tv e;let G : s.heap.IsList b N := Tv y;obtain ⟨os, d, u, g⟩ := id C;let k : s.TypeIs (.ref p) "slice" := #[os, d, u];let j : ¬ ((rawPart ζ == rawInt 0) = ν) := MJ;let H : eE (.ref l) (.ref b) = μ := by unfold eE;exact beq_eq_false_iff_ne.mpr q
  let o : (max (a : Int) (c : Int)).toNat = c := by omega
  let v : ((λX : Array η => X.extract 0 a ++ N ++ X.extract c X.size) i).size <= τ + 1 := by simp only [Pr, Array.size_extract];omega
  unfold setItem;try with_reducible erw[MW ?_]
  first | refine Ms (Mu ?_) | skip
  erw[Ms$ Se t.typeIs LO ?_];refine Ms (M' (name := Str.ofString "__setitem__") t.typeIs UY
    (Nf UY t.typeIs entry_list_setitem ?_$ args_list_setitem _ _ _))
  show ξ _ _ (rm (.ref p) >>= _) _ _ s;erw[Ms ?_];unfold rm;erw[Ms$ N0 k slice_no_index ?_];simp only [TH, Pj];erw[Mu ?_];show ξ _ _ (typeOf (.ref p) >>= _) _ _ s;erw[Ms$ Ol k ?_];first
    | rw [MS LO]
    | erw[Rc LO ?_]
  rw [listSliceParts_eq];erw[Ms$ Ms$ M3 d g (x := .none) Z$ Ms$ Ts .none ?_];rw [MS j];erw[Ms$ M3 d g (x := z) Z$ Ms$ Ts P ?_];erw[Ms$ M3 d g (x := B) Z$ Ms$ Ts D$ Mu ?_];first
    | simp only [H, MV, NR]
    | erw[Rc H ?_]
    | (dsimp only
       rw [MS (by rw [H]; exact MJ)])
  erw[Ms (m := ro (.ref b) "must assign iterable to extended slice") ?_];unfold ro;erw[Ms$ Ol G.typeIs ?_];first
    | erw[VH LO ?_]
    | rw [MQ LO]
    | simp only [beq_self_eq_true, U2, Pj]
  unfold Builtin.List.listItems;erw[Ms$ Nt y Z$ Mu ?_];erw[Ms$ Ms$ Nt e Z$ Mu ?_];erw[Ms$ P' ((sliceIndices_raw (δ (a : Int)) (δ (c : Int)) ζ i.size LM).trans$ NK (pure : Int × Int × Int -> Sem (Int × Int × Int))$ YW r F) ?_];show ξ _ _ (if ((1 : Int) == 1) = ν then _ else _) _ _ s;rw [MQ LO];erw[Ms$ Oe ?_];first
    | simp only [gI f, MV, NR]
    | erw[Rc (gI f) ?_]
  first | refine Ms (Mu ?_) | skip
  show ξ _ _ (updateSeq l (λX => X.extract 0 ((a : Int)).toNat ++ N ++ X.extract (max (a : Int) (c : Int)).toNat X.size) >>= _) _ _ s;rw [o, Nr];erw[Ms$ Rv (hz := MT (Oh _ _) f) (_hz' := v) e Z ?_];erw[Ms$ Us ?_];first
    | exact Ms (Mu (Mu #[.none, Z, Mu h]))
    | exact Mu #[.none, Z, Mu h]
end
section
variable {X:Cx}
def sh{Q:Unit->θ->Prop}(I:ap X p o H s)
  (k:H l=δ (.lst x)) (q:H b=δ (.lst y)) (f:l≠b) (t:s.heap.IsSliceOf u v B .none) (R:aC (.int a) v) (D:aC (.int c) B) (m:0<=a) (g:a<=c) (J:c<=x.length)
  (K:x.length+y.length<=τ) (h:∀S,ap X p o (upd H l$ .lst$ x.take a.toNat++y++x.drop c.toNat) S->Q () S):
  ξ (υ X.prog X.w) X.A (setItem (.ref l) (.ref u)$ .ref b) Q X.xe s:=by
 let⟨T,rfl⟩:=R;let⟨L,rfl⟩:=D;let⟨z,d,n,r,M,e⟩:=I.lstM k;let⟨N,i,O,E,F,G⟩:=I.lstM q;let⟨j,rfl⟩:=Tk m;let⟨C,rfl⟩:=Tk (Int.le_trans m g);simp only[Nr]at h;erw[QB (a:=j) (c:=C) e G f t (.int _ _) (.int _ _) LN (by rw[ME];omega) (by rw[ME,ME];omega)$ h _ ?_];erw[I.lset (its':=d.take j++i++d.drop C) (t':=s.toks) k e ?_ (aw.append (aw.append (r.take _) E)$ r.drop _) ?_]
 .exact si d i j C
 .rw[Mz,Mz,M1,Og];omega
end
end _L
namespace Att
open PySem PySem.W PySem.Calls PyProof.Rows
def Kl{P:Params}:∀(N:List Int) (v:List η),WellAll P h v (N.map WData.int)->IntsAre v N:=by
 intro N;induction N with
 |nil=>intro v w;rw[Th]at w;cases w;exact .nil
 |cons n N i=>
  intro v w;rw[Nw]at w;cases w with
  |cons a b=>cases a;exact .cons _ _$ i _ b
def sg{l:OpenLaw}(k:l.most=δ n){P:Params}
  (H:l.row.toRowW.claim.pre args=ν) (g:WellAll P h v args):
  ∃a V N,v=[ω a]/\args=[WData.list$ N.map WData.int]/\h.get? a=δ { cls:=.type "list",data:=.seq V.toArray }/\IntsAre V N/\N.length<=n:=by
 let i:WShape.hasAll [] args [.list .int]=ν:=(pre_splitW H).1;let j:l.pre.holds [] { args:=args }=ν:=(pre_splitW H).2;let⟨d,r,rfl,m,o⟩:=hasAllW_cons i;obtain rfl:=hasAllW_nil o;let⟨x,rfl,p⟩:=hasW_list m;let⟨N,rfl⟩:=items_int p;let b:N.length<=n:=by
  unfold OpenLaw.pre at j;let e:(WTm.not$ .lt (.lit$ .int (n:Int))$ .len$ .arg 0).holds [] { args:=[.list$ N.map .int] }=ν:=by let e:=(holds_andW j).1;rw[k]at e;exact e
  let f:=condW_of e (w_not$ w_lt w_lit$ w_len_list$ w_arg Z);rw[Mv]at f;erw[PZ λq=>?_];let Q:(n:Int) < ((N.length:Nat):Int):=by omega
  first
   | (rw[Ng Q]at f;exact absurd f LO)
   | (simp at f;omega)
 cases g with
 |cons w W=>
  cases W;cases w with
  |list s c=>exact#[_,_,N,Z,Z,s,Kl N _ c,b]
def rQ(l:OpenLaw)(args:List WData):l.row.toRowW.claim.post args (.bool ν) args=ν:=
 postW_of (r:=l.row.toRowW) (X:=(ν==ν))
  (show WShape.has [] (.bool ν) .bool=ν by first |rfl |decide |simp [WShape.has,WShape.arms,WShape.armsAll])
  (show(WTm.eq .res$ .lit$ .bool ν).value [] { args:=args,res:=δ (.bool ν),after:=args }=δ (.bool$ ν==ν) from w_eq_bool (w_res Z) w_lit) Z
def attach_call{l:OpenLaw}{y:bU->ef->Prop}{d:DefRec}
  (x:l.most=δ n) (g:d.params.defaults=[])
  (call:∀(w:bU) (S s:θ) (m M:π->Option η) (F:ε) (o:gm) (p C D:η) (a:ε) (v:List η) (N:List Int),
   Ground q L [] z w S m M s.heap->y w s.heap->
   s.heap.get? F=δ o->o.data= .func (docDef d.name d.params d.body d.scope p C D)->s.heap.CodeRec C d.name->m d.name=↑F->
   s.heap.get? a=δ { cls:=.type "list",data:=.seq v.toArray }->IntsAre v N->N.length<=n->s.gens=(ι [])->
   fv (υ l.prog w) callerA (.call (.ref F) #[[.ref a],[]]) (λr e=>r= .ok (.ret$ .bool ν)/\OldK s.heap e.heap/\e.os=s.os/\AllBare e.gens) s):
  WalkO q L z y l.row.toRowW d [] (λf v=>PySem.call f v):=by
 intro w S s m M G Y F o p C D B kV E I i t j J A V W H u K k O;obtain rfl:B= .none:=Dflts.none t g;obtain rfl:kV= .none:=Dflts.noKw t;let⟨a,v,N,rfl,rfl,b,h,c⟩:=sg x H k;erw[enter_call$ Oa (call w S s m M F o p C D a v N G Y E (fd_plain I) i j b h c J) λr e P=>?_];let⟨rfl,Q,R,T⟩:=P;exact#[.inl #[.bool ν,.bool ν,[],Z,λ_=>Z,.bool ν,rQ l _,λ_=>#[List.Pairwise.nil,λ_ U=>(nomatch U)]],Q,R,T]
end Att
namespace _L
open PySem PySem.Spec PyProof.Rows
theorem Q5:∀{v:List η} {N:List Int},IntsAre v N->aw (N.map tT) v
 |_,_,.nil=>.nil
 |_,_,.cons n t h=>.cons #[t,Z] (Q5 h)
def Ck(H:Hp):Prop:=∀b,H b=ζ∨∃o x,H b=δ (.frz o$ .lst x)
def uj{P:ψ}{K:Ω}{S:θ}{i:List η}
  (Y:K.In S.heap) (l:S.heap.Ns Ξ M) (c:S.heap.Ns builtinsNs mb) (Q:∀x:π,x≠"__name__"->mb x=bootBuiltins x) (p:S.heap.NoLimit) (hg:S.gens=(ι []))
  (J:S.heap.get? a=δ { cls:=.type "list",data:=.seq i.toArray }) (hi:IntsAre i O) (hl:O.length<=τ) (hr:ba k callerA)
  (F:∀f:ef,K.In f->f.Ns Ξ M->ai P w K M f CX k fa fd [x] sp) (j:∀(s:θ) (u:η),BindsTo s fd #[[u],[]] [(x,u)])
  (R:∀H:Hp,Ck H->aF K H a (O.map tT)->sp [.ref a] H (λv _=>v= .bl ν) λ_ _ _=>False)
  (T:∀H e g,CX [] H S (λ_ _ _=>False) e g->False):
  fv (υ P w) callerA (.call (.ref fa) #[[.ref a],[]]) (λr g=>r= .ok (.ret$ .bool ν)/\OldK S.heap g.heap/\g.os=S.os/\AllBare g.gens) S:=by
 let rv:=Q5 hi;let L:=hi.length;let C:∀H:Hp,Ck H->aF K H a (O.map tT)->fQ P w H S.heap->(∀b,H b≠ζ->b=a)->(H a≠ζ->K.lookup a=ζ)->
   fv (υ P w) callerA (.call (.ref fa) #[[.ref a],[]]) (λr g=>r= .ok (.ret$ .bool ν)/\OldK S.heap g.heap/\g.os=S.os/\AllBare g.gens) S:=by
  intro H hO hS t hA hK;let B:∀{b:ε} {o:gm},S.heap.get? b=δ o->H b=ζ->(lM S.heap H).get? b=δ o:=λe n=>tX e n;let U:∀{b:ε} {o:gm} {E:Array DictEntry} {y:Nat},S.heap.get? b=δ o->o.data= .dict E y->H b=ζ:=λ{b o E y} e d=>by
   cases q:H b with
   |none=>rfl
   |some u=>have W:b=a:=hA b (by rw[q];simp);subst W;rw[J]at e;cases e;let d':Data.seq i.toArray _=Data.dict E y:=d;cases d'
  let N:∀{b:ε} {m:π->Option η},S.heap.Ns b m->(lM S.heap H).Ns b m:=λ{b m} #[o,E,y,e,d,r]=>#[o,E,y,B e$ U e d,d,r];let A:K.In (lM S.heap H):=λb o e=>B (Y b o e) (by
   cases q:H b with
   |none=>rfl
   |some u=>
    let W:b=a:=hA b (by rw[q];simp);subst W;rw[hK (by rw[q];simp)]at e;cases e)
  let hM:Mod K M (lM S.heap H):=#[A,N l,#[mb,N c,Q],let #[mc,h1,h2]:=p;#[mc,N h1,h2]];let e0:lJ P w K M (lM S.heap H) callerA [] S H:=#[Z,hM,λb o e=>yD e,Rh$ Z8 _ _,trivial,λb c=>absurd (show b∈([]:List ε) from c) LM,t,.of_eq hg];erw[Oa ((F _ A$ N l).run callerA [] S H #[[.ref a],[]] [.ref a] [.ref a] _ _ hr e0 (j S$ .ref a) (.cons Z .nil) (R H hO hS)) λr g h=>?_];cases r with
  |error e=>exact(T H e g h).elim
  |ok fl=>
   cases fl with
   |next |brk |cont=>exact False.elim h
   |ret u=>
    let⟨v,H',os,D,un,G,r',q⟩:=h;let q':v= .bl ν:=q;subst q';obtain rfl:u=ra ν:=r';erw[#[Z,OldK.of_keep λb o e=>?_,os,D]];cases q:H b with
    |none=>exact un.keep b o e q (by intro z;exact absurd (show b∈([]:List ε) from z) LM) LM
    |some u=>
     rcases hO b with z | ⟨ob,xs,z⟩
     .rw[q]at z;cases z
     .let z2:=un.frzs b ob _ z;let⟨e1,_⟩:=t b _ z;let⟨e2,_⟩:=G b _ z2;rw[e]at e1;cases e1;exact e2
 cases X:K.lookup a with
 |some o=>have e:=Y a o X;rw[J]at e;cases e;erw[C (λ_=>ζ) (λ_=>.inl Z) (.inr #[_,i.toArray,_,X,Z,Z,Z,by rw[ME,L];exact hl,by simpa using rv]) (λb u z=>by let I:(ζ:Option HO)=δ u:=z;cases I) (λb z=>absurd Z z) λz=>absurd Z z]
 |none=>
  erw[C (λb=>if b=a then δ (.frz { cls:=.type "list",data:=.seq i.toArray }$ .lst$ O.map tT) else ζ) (λb=>?_) (.inl$ .inr #[{ cls:=.type "list",data:=.seq i.toArray },MQ Z]) (λb u z=>?_) (λb z=>?_) λ_=>X]
  .by_cases c:b=a
   .exact .inr #[_,_,MQ c]
   .exact .inl$ MS c
  .by_cases c:b=a
   .let I:=(MQ c).symm.trans z;cases I;subst c;exact#[J,by rw[Mv];exact hl,i,_,rv,J]
   .let I:=(MS c).symm.trans z;cases I
  .by_cases c:b=a
   .exact c
   .exact absurd (MS c) z
def AZ{l:rx}{n k:Nat}{E:bU->ef->Prop}{d:DefRec}{K:Params->Ω}{CX:bU->nF}{sp:bU->Sp}{x:π}
  (O:l.most=δ n) (r:n<=τ) (t:d.params.defaults=[]) (P:ba k callerA)
  (Q:∀(w:bU) (h:ef),E w h->(K w.params).In h)
  (F:∀(w:bU) (m:π->Option η) (p:ε) (h:ef),(K w.params).In h->h.Ns Ξ m->m d.name=↑p->
   ∃y:Φ,(∀(s:θ) (u:η),BindsTo s y #[[u],[]] [(x,u)])/\
    ∀B:ef,(K w.params).In B->B.Ns Ξ m->ai l.prog w (K w.params) m B (CX w) k p y [x] (sp w))
  (z:∀(w:bU) (H:Hp) (a:ε) (N:List Int),N.length<=n->Ck H->aF (K w.params) H a (N.map tT)->sp w [.ref a] H (λv _=>v= .bl ν) λ_ _ _=>False)
  (A:∀(w:bU) (H:Hp) (s:θ) (e:η) (C:θ),CX w [] H s (λ_ _ _=>False) e C->False):
  PySem.W.WalkO q L XP E l.row.toRowW d [] (λf I=>PySem.call f I):=by
 erw[Att.attach_call O t λw J S m mb p o pm cd R a I N G Y ho hd U D j i c X=>?_];let M:=Q w _ Y;let⟨y,hb,hF⟩:=F w m p _ M G.T.g D;exact uj M G.T.g G.T.b G.T.builtins G.T.nolimit X j i (MT c r) P hF hb (λH hO hS=>z w H a N c hO hS) λH e C=>A w H S e C
def bP(s:da)(j:Nat):da:=match s with
 | .ClassDef _ _ _ b _ _ _ _ _ _ _=>b.getD j (.Pass #[0,0,0,0])
 |_=>.Pass #[0,0,0,0]
def bM(s:da):Arguments:=match s with
 | .FunctionDef _ a _ _ _ _ _ _ _ _=>a
 |_=>{ posonlyargs:=[],args:=[],vararg:=ζ,kwonlyargs:=[],kw_defaults:=[],kwarg:=ζ,defaults:=[] }
def a8(s:da):List da:=match s with
 | .FunctionDef _ _ b _ _ _ _ _ _ _=>b
 |_=>[]
def ae(s:da):hJ:=match s with
 | .FunctionDef _ _ _ _ _ _ S _ _ _=>S
 |_=>{ kind:=.function,names:=[],isGenerator:=μ,isCoroutine:=μ }
abbrev aA:nF:=λ_ _ _ _ _ _=>False
abbrev E0:XK:=λ_ _ _=>False
def bu{X:Cx}:c7 aA X E0:=λ_ _ _ _ _ _ _ h=>h.elim
structure aM(K:Ω)(x qual:π)(st:da)(f:ε)(fd:Φ):Prop where
 ex:∃(oc:η) (od:Option ε) (kV doc pm:η) (an:Option ε) (cdv ct:η) (osl:Array (Option η)),
  fd=rz x qual (bM st) (a8 st) (ae st) .none kV doc pm an cdv ct/\K.lookup f=δ #[oc,od,.func fd,osl]/\codeIn K cdv qual=ν
 kp:fx K (.ref f)=ν
section
variable {P:ψ}{w:bU}{K:Ω}{mg:π->Option η}{base:ef}
abbrev xa(K:Ω)(x:π):=aM K x x
def aM.ok{st:da}{d:Sp}(F:aM K x a st f i)(S:ak N p (ae st))
  (b:∀(c:η) (A:cJ) (o:List tf) (s:θ) (H:Hp) (v:List V) (Q:VK) (E:XK),ba k (A.deeper$ envOfC a (ae st) s.heap.objs.size f c)->d v H Q E->
   ∃t,mz (eP aA P w K mg base N a (ae st) f c A o s H E).nox (a8 st) t/\t { nx:=λ_ j=>Q .non j,rt:=Q } (dQ N v) H)(len:∀v H Q E,d v H Q E->v.length=p.length:=by rintro _ _ _ _⟨⟩;subst_vars;rfl):ai P w K mg base aA (k+1) f i p d:=by
 let⟨m,n,kV,D,r,u,c,C,O,rfl,lk,e⟩:=F.ex;erw[Bu lk e S len λA o s H v Q E l g=>?_];let⟨t,h,q⟩:=b c A o s H v Q E l g;exact#[t,h.nox,q]
def aM.binds{st:da}{p:List π}(F:aM K x q st f b)
  (h:∀(kV d a:η) (A:Option ε) (c C:η) (u:List η),u.length=p.length->bindArgs (rz x q (bM st) (a8 st) (ae st) .none kV d a A c C) #[u,[]]=pure (p.zip u)):au K b p []:=by
 let⟨O,e,kV,d,a,A,c,C,o,rfl,lk,H⟩:=F.ex;exact .all$ h kV d a A c C
def tR{st:da}{kV:η}(l:K.lookup f=δ #[O,e,.func$ rz x q (bM st) (a8 st) (ae st) .none kV d p a C b,o])
  (c:codeIn K C q=ν) (k:fx K (.ref f)=ν):aM K x q st f (rz x q (bM st) (a8 st) (ae st) .none kV d p a C b):=#[#[O,e,kV,d,p,a,C,b,o,Z,l,c],k]
end
def jR(h:ba k A):A.units+1 < cLine:=N5 (TW (by decide:1<=64) _) h.units
section
variable {X:Cx}
def pv(i:Nat){x:π}{p:Pos}(H:↥(X.N[i]?=δ x))(a:HN X.env.scope x:=by first |exact Δ Z |exact hL (Δ Z) |exact hL$ hL Z)(b:↥((x==("__debug__":π))=μ))
  (h:↥((x==("__classdict__":π))=μ)):PE X (.Name x p) (a5 i):=DP H a b h
end
def yk{A B:Prop}(h:B):if μ=ν then A else B:=by rw[MS MJ];exact h
def C4{A B:Prop}(h:A):if ν=ν then A else B:=by rw[MQ Z];exact h
def b8{c A B:Prop}[Decidable c](H:c->A)(a:¬c->B):if c then A else B:=by
 by_cases h:c
 .rw[MQ h];exact H h
 .rw[MS h];exact a h
def af(H h:Hp):Prop:=∀b o,H b=δ o->h b=δ o
def af.refl(H:Hp):af H H:=λ_ _ h=>h
def af.trans(a:af H d)(b:af d e):af H e:=λc o h=>b c o (a c o h)
def af.free(e:af H a)(h:a l=Option.none):H l=Option.none:=by
 cases q:H l with
 |none=>rfl
 |some o=>rw[e l o q]at h;cases h
def af.seq{K:Ω}(e:af H b)(h:aF K H a x):aF K b a x:=by
 rcases h with (h | ⟨o,h⟩) |h
 .exact .inl$ .inl$ e _ _ h
 .exact .inl$ .inr #[o,e _ _ h]
 .exact .inr h
section
variable {prog:ψ}{w:bU}{A:cJ}{R:Result->θ->Prop}{s:θ}
abbrev xz:η->θ->Prop:=λ_ _=>False
def Q6{iter:dr}(I:Nat->θ->Prop)
  (T:∀n s,I n s->ξ (υ prog w) A (pyNext B) (λr S=>match r with
   |none=>R (.ok .next) S
   |some v=>ξ (υ prog w) A (letOwnedTupleGo t B v) (λ_ b=>ξ (υ prog w) A (assign t e v) (λ_ d=>
     ξ (υ prog w) A (forIn l ν λc r=>if r=ν then do let o <- isTrue c e (eval c e);pure (ForInStep.yield o) else pure (ForInStep.yield r)) (λo a=>
      if o=ν then ξ (υ prog w) A (eval E e) (λx g=>
       ξ (υ prog w) A (call (.builtin "list.append") [p,x]) (λ_ i=>∃m,m < n/\I m i) xz g) xz a
      else ∃m,m < n/\I m a) xz d) xz b) xz S) xz s)
  (n:Nat) (h:I n s):
  fv (υ prog w) A (.compLoop (.ListComp E [#[t,iter,l,0]] k C) 0 B p e) R s:=by
 erw[codeAny_loop Z I (λn s D=>?_) n h];show ξ _ A ((compTurn (.ListComp E [#[t,iter,l,0]] k C) 0 B p e).onRaise (λx=>do noteFrame x e;theTreesLotGoes x)) _ _ s;erw[wpAny_noted ?_];rw[compTurn_list];erw[Ms$ Oy$ Ms$ Ny (T n s D) (λr S H=>?_) λ_ _ f=>f.elim];cases r with
 |none=>exact Mu H
 |some v=>
  erw[Ms$ Ny H (λ_ b q=>?_) λ_ _ f=>f.elim];erw[Ms$ Ny q (λ_ d u=>Ms (Ny u (λo a j=>?_) λ_ _ f=>f.elim)) λ_ _ f=>f.elim];cases o with
  |false=>exact Mu #[Z,j]
  |true=>exact Ms$ Ms$ Ny j (λx g y=>Ms (Ny y (λ_ i z=>Mu (Mu #[Z,z])) λ_ _ f=>f.elim)) λ_ _ f=>f.elim
end
def aG(X:Cx)(s:hJ)(M:List π)(c:List (π×ε))(C:ε)(f:List ε)(S:θ)(H:Hp):Cx where
 prog:=X.prog
 w:=X.w
 K:=X.K
 mg:=X.mg
 base:=X.base
 A:=X.A
 N:=M
 s₀:=S
 H₀:=H
 env:=compEnvC s c C X.env
 outer:=X.stack
 stack:=X.stack
 ex:=f
 fn:=λ_=>μ
 calm:=X.calm
 pn:=[]
 xe:=λ_ _=>False
def DZ(n:Nat)(I:List Nat)(a:St):St:=ks n ζ++I.map λi=>(a[i]?).getD ζ
structure aV(N:List π)(sc scope:hJ)(M:List π)(nT:Nat)(ix:List Nat):Prop where
 cell:∀y∈scope.names,y.2≠ .cell
 kind:scope.kind= .function
 loc:∀y∈scope.names,y.2= .local->scope.names.lookup y.1=δ .local
 fre:∀y∈scope.names,y.2= .free->sc.names.lookup y.1=δ .cell
 nms:M.drop nT=ix.map λi=>N.getD i Str.empty
 len:M.length=nT+ix.length
 vis:∀i∈ix,scope.names.lookup (N.getD i Str.empty)=δ .free
theorem JO{E:tf}(c:E.scope.kind= .function):∀{N:List (π×NameKind)} {y:π},N.lookup y=δ .free->E.kindOf y=δ .cell->
  (N.map λ(n,k)=>if (k==NameKind.free&&E.scope.kind== .function&&E.kindOf n==δ .cell) then (n,NameKind.cell) else (n,k)).lookup y=δ .cell
 | [],_,h,_=>by simp at h
 | (n,k)::r,y,h,b=>by
  let i:=@JO E c r y;show fz y ((if (k==NameKind.free&&E.scope.kind== .function&&E.kindOf n==δ .cell)=ν then (n,NameKind.cell) else (n,k))::_)=_;cases H:y==n with
  |true=>
   simp only[ND,H]at h;cases h;let e:y=n:=by simpa using H
   subst e;rw[MQ (by rw[c,b];rfl)];simp [ND]
  |false=>
   simp only[ND,H]at h;by_cases a:(k==NameKind.free&&E.scope.kind== .function&&E.kindOf n==δ .cell)=ν
   .rw[MQ a];simp only[ND,H];exact i h b
   .rw[MS a];simp only[ND,H];exact i h b
theorem Ql{E:tf}:∀{N:List (π×NameKind)} {y:π} {K:NameKind},
  (N.map λ(n,k)=>if (k==NameKind.free&&E.scope.kind== .function&&E.kindOf n==δ .cell) then (n,NameKind.cell) else (n,k)).lookup y=δ K->
  ∃k,N.lookup y=δ k/\(K=k∨k= .free)
 | [],_,_,h=>by simp at h
 | (n,k)::r,y,K,h=>by
  let i:=@Ql E r y K;let h:fz y ((if (k==NameKind.free&&E.scope.kind== .function&&E.kindOf n==δ .cell)=ν then (n,NameKind.cell) else (n,k))::_)=δ K:=h;cases a:y==n with
  |true=>
   erw[#[k,by simp only[ND,a],?_]];by_cases H:(k==NameKind.free&&E.scope.kind== .function&&E.kindOf n==δ .cell)=ν
   .right;simp only[NE]at H;simpa using H.1.1
   .rw[MS H]at h;simp only[ND,a]at h;left;exact(Nn h).symm
  |false=>
   let b:fz y (r.map λ(n,k)=>if (k==NameKind.free&&E.scope.kind== .function&&E.kindOf n==δ .cell) then (n,NameKind.cell) else (n,k))=δ K:=by
    by_cases H:(k==NameKind.free&&E.scope.kind== .function&&E.kindOf n==δ .cell)=ν
    .rw[MQ H]at h;simp only[ND,a]at h;exact h
    .rw[MS H]at h;simp only[ND,a]at h;exact h
   let⟨c,e,q⟩:=i b;exact#[c,by simp only[ND,a];exact e,q]
def aH(e:tf):List (π×NameKind)->List (π×ε)->List (π×ε)
 | [],a=>a
 | (n,k)::r,a=>if k== .free then aH e r ((n,(e.cells.lookup n).getD 0)::a) else aH e r a
theorem zY{E:tf}:∀{N:List (π×NameKind)} {acc:List (π×ε)},(∀y∈N,y.2= .free->∃c,E.cells.lookup y.1=δ c)->(∀x c,acc.lookup x=δ c->E.cells.lookup x=δ c)->
  ∀x c,(aH E N acc).lookup x=δ c->E.cells.lookup x=δ c
 | [],_,_,b,x,c,h=>b x c h
 | (n,k)::r,acc,f,b,x,c,h=>by
  unfold aH at h;by_cases g:(k==NameKind.free)=ν
  .rw[MQ g]at h;erw[zY (λy H=>f y (MX _ H)) (λX j a=>?_) x c h];let⟨C,d⟩:=f (n,k) MM (by simpa using g);let d:E.cells.lookup n=δ C:=d;simp only[ND]at a;cases i:X==n with
   |true=>
    rw[i]at a;let e:X=n:=by simpa using i
    subst e;rw[d]at a;rw[d];exact a
   |false=>rw[i]at a;exact b _ _ a
  .rw[MS g]at h;exact zY (λy H=>f y (MX _ H)) b x c h
theorem q8:∀{a:List (π×ε)},(∃c,(x,c)∈a)->∃c,a.lookup x=δ c
 | [],h=>by let⟨_,h⟩:=h;cases h
 | (n,c)::r,h=>by
  simp only[ND];cases H:x==n with
  |true=>exact#[c,Z]
  |false=>
   let⟨C,h⟩:=h;rcases Ψ.mp h with e |h
   .injection e with E _;subst E;simp at H
   .exact q8 #[C,h]
theorem Jt:∀{N:List (π×NameKind)} {a:List (π×ε)},((∃c,(x,c)∈a)∨(x,NameKind.free)∈N)->∃c,(x,c)∈aH E N a
 | [],_,h=>by
  rcases h with h |h
  .exact h
  .cases h
 | (n,k)::r,a,h=>by
  unfold aH;by_cases H:(k==NameKind.free)=ν
  .rw[MQ H];erw[Jt ?_];rcases h with ⟨c,h⟩ |h
   .exact .inl #[c,MX _ h]
   .rcases Ψ.mp h with e |h
    .injection e with b _;subst b;exact .inl #[_,MM]
    .exact .inr h
  .rw[MS H];erw[Jt ?_];rcases h with h |h
   .exact .inl h
   .rcases Ψ.mp h with e |h
    .injection e with _ d;subst d;exact absurd Z H
    .exact .inr h
theorem Jh{e:tf}:∀(N:List (π×NameKind)) (A:List (π×ε)),(∀y∈N,y.2= .free->∃c,e.cells.lookup y.1=δ c)->
  (forIn N A (λx r=>match x with | (name,K)=>if (K==NameKind.free)=ν then (do let a <- cellOf e name;pure (ForInStep.yield ((name,a)::r))) else pure (ForInStep.yield r)):Sem (List$ π×ε))=pure (aH e N A)
 | [],A,_=>rfl
 | (n,k)::r,A,b=>by
  let i:=λA=>Jh r A λy H=>b y (MX _ H);rw[OF];unfold aH;by_cases h:(k==NameKind.free)=ν
  .let⟨C,E⟩:=b (n,k) MM (by simpa using h);let E:e.cells.lookup n=δ C:=E;let d:cellOf e n=pure C:=by unfold cellOf;rw[E]
   rw[MQ h];simp only[h,Pj,d,E];exact i _
  .rw[MS h];simp only[h];exact i _
def qi{e:tf}{S:hJ}(H:∀y∈S.names,y.2= .free->∃c,e.cells.lookup y.1=δ c):closureFor S e=pure (aH e S.names []):=by let h:=Jh S.names [] H;exact NK (λt:Sem (List$ π×ε)=>t >>= λs=>pure s) h
section
variable {X:Cx}{pins:List (ε×gm)}{σ:St}{H:Hp}{s:θ}
def qm(I:ap X pins σ H s)(S:aV X.N X.env.scope a M n i):∀y∈a.names,y.2= .free->∃c,X.env.cells.lookup y.1=δ c:=
 λy h e=>I.ok.has y.1 (.inl$ S.fre y h e)
def X4{g:ef}(I:ap X pins σ H s)(F:∀b∈Y,dS X pins H b)(P:∀b∈Y,b < s.heap.objs.size)
  (S:aV X.N X.env.scope a M n G) (Q:s.heap.objs.size<=C) (O:∀b o,s.heap.get? b=δ o->g.get? b=δ o) (R:g.Ns C m):
  ap (aG X a M (aH X.env a.names []) C Y s H) [] (DZ n G σ) H { s with heap:=g,toks:=tk }:=by
 let sub:∀x c,(aH X.env a.names []).lookup x=δ c->X.env.cells.lookup x=δ c:=zY (qm I S) (λx c h=>by simp at h);let j:∀x,a.names.lookup x=δ .free->∃c,(aH X.env a.names []).lookup x=δ c:=λx e=>q8 (Jt$ .inr$ NW e);let hex:∀x K,(relabel a X.env).names.lookup x=δ K->(K= .cell∨K= .free)->a.names.lookup x=δ .free:=λx K e A=>by
  let⟨k,t,q⟩:=Ql e;rcases q with q |q
  .rcases A with z |z
   .exact absurd (q.symm.trans z)$ S.cell (x,k)$ NW t
   .rw[t,<- q,z]
  .rw[t,q]
 refine#[#[I.ok.mod,S.kind,I.ok.glob,I.ok.blt,Q,λx y c h1 h2=>I.ok.inj x y c (sub x c h1) (sub y c h2),λx hx=>?_,λx c hx=>?_,I.ok.hd,I.ok.frames,.inl Z,λb w=>#[λz=>?_,λx c e=>?_],I.bs,MT I.ok.bsz I.sz,λb o e w=>?_,λb w hz=>?_,I.stack,I.stkFree],
  rfl,I.bare,Un.kept O,#[m,R,λk y v t E _=>?_],λx c e=>?_,I.hok.fresh Q,λx c e=>I.freeC x c (sub x c e),λp hp=>absurd (show p∈([]:List (ε×gm)) from hp) LM,I.hok.kept O,?_]
 .rcases hx with hx |hx
  .exact j x$ hex x _ hx$ .inl Z
  .exact j x$ hex x _ hx$ .inr Z
 .exact absurd (show μ=ν from hx) LO
 .let z':b=C:=z;let:=P b w;rw[z']at this;exact absurd this$ Nat.not_lt.mpr Q
 .exact(F b w).2.2.2.2.1 x c (sub x c e)
 .rcases(F b w).2.2.2.1 with z |z
  .exact I.ok.noex b o e z
  .exact absurd (MN (My e)$ MT I.ok.bsz z)$ Nk _
 .rcases Ψ.mp (I.stkSub b hz) with z |z
  .exact(F b w).2.1 z
  .exact(F b w).2.2.1 z
 .let E:(DZ n G σ)[k]?=δ (δ v):=E;let t:M[k]?=δ y:=t;unfold DZ at E;by_cases A:k < n
  .rw[Oq (by simpa using A),Tc]at E;simp [A]at E
  .let B:n<=k:=PZ A;rw[NZ (by simpa using B),O4,MK]at E;cases J:G[k - n]? with
   |none=>rw[J]at E;cases E
   |some i=>
    rw[J]at E;let L:(σ[i]?).getD ζ=δ v:=Nn E;let V:σ[i]?=δ (δ v):=by
     cases W:σ[i]? with
     |none=>rw[W]at L;cases L
     |some o=>rw[W]at L;exact NK δ L
    let hi:i < X.N.length:=by rw[<- I.len];exact(χ.mp V).1
    let e7:y=X.N.getD i Str.empty:=by
     let q:(M.drop n)[k - n]?=δ y:=by rw[List.getElem?_drop];rw[TU B];exact t
     rw[S.nms,MK,J]at q;exact(Nn q).symm
    let e8:X.N[i]?=δ y:=by rw[e7,Mw hi,OM,Mw hi];rfl
    let d:a.names.lookup y=δ .free:=by rw[e7];exact S.vis i$ ML J
    let f:X.env.scope.names.lookup y=δ .cell:=S.fre (y,.free) (NW d) Z;let⟨m',_,hl⟩:=I.loc;let⟨u,r,l⟩:=hl i y v e8 V (.inr$ .inl f);erw[#[u,r,?_]];rcases l with ⟨l,_⟩ | ⟨_,c,ec,o,T,U⟩
    .let l:X.env.scope.names.lookup y=δ .local:=l;rw[f]at l;cases l
    .let⟨c',D⟩:=j y d;let q:=sub y c' D;rw[ec]at q;cases q;exact .inr #[.inl$ JO I.ok.kind d f,c,D,o,O _ _ T,U]
 .let⟨v,o,T,U⟩:=I.cell x c (sub x c e);exact#[v,o,O _ _ T,U]
 .show(DZ n G σ).length=M.length;rw[S.len];simp [DZ]
def ap.track(I:ap X pins σ H s)(f:dS X pins H D)(G:X.s₀.heap.objs.size<=D)(a:aO X.prog X.w (upd H D o) s.heap D o):ap X pins σ (upd H D o) s:=by
 let n:=f.1;let N:∀b u,H b=δ u->b≠D:=λb u e=>jk e n;erw[#[I.ok,I.os,I.bare,#[I.base.keep,I.base.slot,λb O e q i=>?_,I.base.there,λb d e=>?_,λb O u e=>?_,λb P e=>?_],I.loc,I.cell,?_,λx c e=>?_,λp h=>?_,λb u e=>?_,I.len]]
 .rw[ji$ MG$ MN (My e) G];exact I.base.free b O e q i
 .let q:=I.base.tups b d e;rw[ji$ N _ _ q];exact q
 .let q:=I.base.frzs b O u e;rw[ji$ N _ _ q];exact q
 .let⟨m,q⟩:=I.base.tbls b P e;exact#[m,by rw[ji$ N _ _ q];exact q]
 .rw[ji$ MU f.2.1];exact I.free
 .rw[ji$ f.2.2.2.2.1 x c e];exact I.freeC x c e
 .let⟨e,q,r⟩:=I.pin p h;exact#[e,by rw[ji$ f.2.2.2.2.2 p h];exact q,r]
 .by_cases g:b=D
  .subst g;rw[jc]at e;cases e;exact a
  .rw[ji g]at e;exact(I.hok b u e).stay (λ_ _ _ q=>q) (λc q=>by rw[ji$ N _ _ q];exact q) λc d q=>by rw[ji$ N _ _ q];exact q
abbrev dW(u:List η):gm:={ cls:=.type "list",data:=.seq u.toArray u.length }
def Q7(u:List η)(y:η):({ cls:=.type "list",data:=.seq (u.toArray.push y) (u.length+1) }:gm)=dW (u++[y]):=by show({ cls:=.type "list",data:=.seq (u.toArray.push y) (u.length+1) }:gm)={ cls:=.type "list",data:=.seq (u++[y]).toArray (u++[y]).length };rw[Mz,On,List.push_toArray]
def PF(X:Cx)(i:List dr)(t:TT):Prop:=
 ∀(pins:List (ε×gm)) (s:θ) (σ:St) (H:Hp) (Q:Bool->Hp->Prop),ap X pins σ H s->t σ H Q->
  ξ (υ X.prog X.w) X.A (forIn i ν λc r=>if r=ν then do let o <- isTrue c X.env (eval c X.env);pure (ForInStep.yield o) else pure (ForInStep.yield r)) (TP X pins σ Q) X.xe s
def ny:TT:=λ_ H Q=>Q ν H
def zR:PF X [] ny:=λ_ _ _ H _ I h=>wpAny_tests_nil #[H,I,h]
def Xr{c:dr}{t:TT}(h:PT X c t):PF X [c] t:=λpins s σ H Q I q=>wpAny_tests_one (h pins s σ H Q I q)
def ip(I:List Nat)(σ:St):St:=I.map λi=>(σ[i]?).getD ζ
def fq(J:It)(n:Nat)(t:St)(g:TG)(j:TT)(k:TE)(Q:List V->Hp->Prop)(H:Hp):Prop:=
 ∃W:Nat->Nat->List V->Hp->Prop,(∃m,W 0 m [] H)/\∀i m Y H,W i m Y H->
  (J.stop i H/\Q Y H)∨(J.go i H/\Y.length < τ/\∃N:List V->Hp->Prop,(∀c h,N c h->∃M,M < m/\W (i+1) M c h)/\
   ∀x d (e:St),e.length=n->J.yld i H x d->g x (e++t) d λa h=>(∃T:St,T.length=n/\a=T++t)/\j a h λb f=>if b=ν then k a f λy l=>N (Y++[y]) l else N Y f)
def Qm{iter:dr}
  {RR:η->ε->Result->θ->Prop} 
  (I:ap X pins σ H s) (hc:X.calm=ν) (T:pI X.prog X.w X.K tg J k it tn) (st:tn 0 s.heap) (hf:∀b∈k,dS X pins H b) (S:aV X.N X.env.scope scope M nT ix)
  (hg:∀cl C k s H,PG (aG X scope M cl C k s H) tg g) (hi:∀cl C k s H,PF (aG X scope M cl C k s H) i0 tt) (he:∀cl C k s H,PE (aG X scope M cl C k s H) e0 te)
  (h:fq J nT (ip ix σ) g tt te Qf H)
  (h':∀D C Y m t G,(∀b o u,H b=δ (.frz o u)->t b=δ (.frz o u))->t D=ζ->ap X pins σ (upd t D$ .lst Y) G->dS X pins (upd t D$ .lst Y) C->G.heap.Ns C m->Qf Y t->RR (.ref D) C (.ok .next) G):
  ξ (υ X.prog X.w) X.A (newList []) (λacc B=>ξ (υ X.prog X.w) X.A (newFunctionEnv scope X.env.globals (aH X.env scope.names []) [] X.env.qual ζ .none$ δ X.env) (λc0 s0=>
   fv (υ X.prog X.w) X.A (.compStart (.ListComp e0 [#[tg,iter,i0,0]] scope p1) 0 (.ref it) acc { c0 with scope:=relabel scope X.env }) (RR acc c0.locals) s0) E B) E s:=by
 obtain⟨W,⟨m0,w0⟩,t1⟩:=h;let h3:∀b∈k,b < s.heap.objs.size:=λb a=>by let⟨o,e,_⟩:=T.obj 0 _ st b a;exact My e
 erw[Na$ Uq S.cell (by intro y hy;simp at hy) (λF l f=>?_) S.kind];dsimp only at l f ⊢;generalize h4:s.heap.push { cls:=.type "list",dict:=ζ,data:=.seq ([]:List η).toArray }=H2 at l f ⊢;let hC:H2.objs.size=s.heap.objs.size+1:=by rw[<- h4,Nc]
 let P:s.heap.objs.size≠H2.objs.size:=by rw[hC];exact MG$ NV _
 let h0:s.heap.objs.size<=H2.objs.size:=by rw[hC];exact NM _
 let b0:∀b,b < s.heap.objs.size->b≠H2.objs.size/\b≠s.heap.objs.size:=λb a=>#[by rw[hC];exact MG$ Ov a,MG a];let o1:∀b o,s.heap.get? b=δ o->F.get? b=δ o:=λb o e=>f.extBut b o (b0 b$ My e).1 (Mt _$ h4▸Mt _ e);let h5:F.get? s.heap.objs.size=δ (dW []):=f.extBut _ _ P (Mt _$ h4▸MD _ Z);let a0:H s.heap.objs.size=ζ:=I.hok.fresh (Mx _);let h6:s.heap.objs.size∉iB X.stack:=λa=>(Ψ.mp$ I.stkSub _ a).elim (λe=>absurd I.lt (by rw[<- e];exact Nk _)) (I.nofs$ Mx _);generalize hD:s.heap.objs.size=D at*;generalize b2:H2.objs.size=C at*;let J0:∀tk,ap (aG X scope M (aH X.env scope.names []) C k s H) [] (DZ nT ix σ) H { s with heap:=F,toks:=tk }:=λtk=>X4 I hf (by rw[hD];exact h3) S (by rw[hD];exact h0) o1 l;let c1:∀x c,(aH X.env scope.names []).lookup x=δ c->c≠D:=λx c e z=>by let sub:=zY (qm I S) (acc:=[]) (λx c h=>by simp at h) x c e;let⟨v,o,ho,_⟩:=I.cell x c sub;let:=My ho;rw[z,hD]at this;exact Nk _ this
 let p0:∀{σ0:St} {t:Hp} {G:θ} {U:List η},ap (aG X scope M (aH X.env scope.names []) C k s H) [] σ0 t G->G.heap.get? D=δ (dW U)->t D=ζ->
   ap (aG X scope M (aH X.env scope.names []) C k s H) [(D,dW U)] σ0 t G:=λ{σ0 t G U} I' e n=>I'.pins_of λp hp=>by
  let ep:p=(D,dW U):=by simpa using hp
  subst ep;exact#[e,n,P,h6,λv z=>by cases z]
 let L:∀{t:Hp} {U:List η},(∀b∈k,t b=ζ)->∀b∈k,dS (aG X scope M (aH X.env scope.names []) C k s H) [(D,dW U)] t b:=λ{t U} hn b a=>
  #[hn b a,((J0 0).ok.exf b a).1,(J0 0).ok.exfs b a,.inl a,((J0 0).ok.exf b a).2,λp hp z=>by
   let ep:p=(D,dW U):=by simpa [aG] using hp
   rw[ep]at z;let:=h3 b a;rw[<- z]at this;exact Nk _ this]
 let l0:∀B:θ,(∃tk,B={ s with heap:=F,toks:=tk })->
   fv (υ X.prog X.w) X.A (.compLoop (.ListComp e0 [#[tg,iter,i0,0]] scope p1) 0 (.ref it) (.ref D)$ compEnvC scope (aH X.env scope.names []) C X.env) (RR (.ref D) C) B:=by
  rintro B ⟨tk,rfl⟩;refine Q6 (λn G=>∃i Y U ts t,ts.length=nT/\ap (aG X scope M (aH X.env scope.names []) C k s H) [(D,dW U)] (ts++ip ix σ) t G/\aw Y U/\Y.length<=τ/\tn i G.heap/\(∀b∈k,t b=ζ)/\W i n Y t) ?_ m0
   #[0,[],[],ks nT ζ,H,O4,p0 (J0 tk) h5 a0,.nil,MH _,T.keep _ _ _ st λb a o e=>o1 b o e,λb a=>(hf b a).1,w0]
  rintro n s1 ⟨i,Y,U,ts,Q,a1,I1,rv,hz,s7,f0,w1⟩;rcases t1 i n Y Q w1 with ⟨stop,q⟩ | ⟨go,a2,N,hN,step⟩
  .erw[aL (T.done (aG X scope M (aH X.env scope.names []) C k s H) Z Z Z hc i _ s1 _ Q xz I1 (L f0) s7 stop) λr s2 j=>?_];let⟨hr,I2⟩:=j;subst hr;let IO:ap X pins σ Q s2:=I.call' (ch:=k) I2.os I2.base I2.hok I2.bare λb a=>#[(hf b a).2.2.2.1,(hf b a).2.1,(hf b a).2.2.2.2.1,(hf b a).2.2.2.2.2];let pD:=I2.pin (D,dW U) (by simp [aG]);let h8:Q D=ζ:=pD.2.1;let fD:dS X pins Q D:=by rw[<- hD];exact I.fpOk (Mx _) (by rw[hD];exact h8)
   let IT:ap X pins σ (upd Q D$ .lst Y) s2:=IO.track fD (by rw[<- hD];exact I.sz) #[hz,U,U.length,rv,pD.1];let⟨mC,a3,_⟩:=I2.loc;let a4:Q C=ζ:=I2.free;exact h' D C Y mC Q s2 I2.base.frzs h8 IT (I.fpOk (by rw[hD];exact h0) (by rw[ji$ MU P];exact a4)) a3 q
  .erw[aL (T.item (aG X scope M (aH X.env scope.names []) C k s H) Z Z Z hc i _ s1 _ Q xz I1 (L f0) s7 go) λr s2 j=>?_];let⟨u,hr,h2⟩:=j;subst hr;erw[aL h2 λ_ s3 j=>?_];let⟨x,H3,I3,r3,y3,O,f1⟩:=j;let a':=I3.pinned (L f1) (T.obj _ _ O);erw[aL (hg _ _ _ _ _ _ s3 _ H3 x u _ a' r3$ step x H3 ts a1 y3) λ_ s4 j=>?_];obtain⟨σ1,H4,I4,⟨t0,h1,e4⟩,q4⟩:=j;subst e4;erw[aL (hi _ _ _ _ _ _ s4 _ H4 _ I4 q4) λb s5 j=>?_];let⟨H5,I5,q5⟩:=j;cases b with
   |false=>obtain⟨m',hm,w'⟩:∃m',m' < n/\W (i+1) m' Y H5:=hN _ _ q5;erw[#[m',hm,i+1,Y,U,t0,H5,h1,I5.unpinned,rv,hz,T.keep _ _ _ O λb a o e=>(I5.pin (b,o)$ MF _$ MF _$ j4 a e).1,λb a=>?_,w']];let⟨o,e,d⟩:=T.obj _ _ O b a;exact(I5.pin (b,o)$ MF _$ MF _$ j4 a e).2.1
   |true=>
    erw[aL (he _ _ _ _ _ _ s5 _ H5 _ I5 q5) λv s6 j=>?_];let⟨y,H6,I6,r6,q6⟩:=j;let⟨m',hm,w'⟩:=hN _ _ q6;let pD:=I6.pin (D,dW U) (MF _$ Nb _ MM);let hl:=rv.length;let R:∀b∈k,∀o,s3.heap.get? b=δ o->s6.heap.get? b=δ o:=λb a o e=>(I6.pin (b,o)$ MF _$ MF _$ j4 a e).1;let V:∀b∈k,H6 b=ζ:=λb a=>by let⟨o,e,d⟩:=T.obj _ _ O b a;exact(I6.pin (b,o)$ MF _$ MF _$ j4 a e).2.1
    erw[append_at (hsz:=by rw[ME,<- hl];exact hz) pD.1 λh7 sb b1=>?_];let I7:ap (aG X scope M (aH X.env scope.names []) C k s H) [] (t0++ip ix σ) H6 { s6 with heap:=h7 }:=
     (I6.pins_of (pins':=[]) λp hp=>absurd hp LM).turned (t':=s6.toks) (it:=D) (λb o a e=>(sb.2 b a).trans e) pD.2.1 P (.inr (by show s.heap.objs.size<=D;rw[hD];exact Mx _)) c1 λp hp=>absurd (show p∈([]:List (ε×gm)) from hp) LM
    refine#[m',hm,i+1,Y++[y],U++[v],t0,H6,h1,p0 I7 (b1.trans$ NK δ$ Q7 U v) pD.2.1,rv.append$ .cons r6 .nil,by rw[Mz,On];exact a2,
     T.keep _ _ _ (T.keep _ _ _ O R) λb a o e=>(sb.2 b λz=>?_).trans e,V,w']
    let:=h3 b a;rw[z]at this;exact Nk _ this
 exact T6 (l0 _ #[_,Z])$ T.self _ 0 _ _ _ (T.keep _ _ _ st λb a o e=>o1 b o e)$ l0 _ #[_,Z]
def wG(w:TI)(n:Nat)(i:List Nat)(g:TG)(t:TT)(T:TE):TE:=λσ H Q=>w σ H λJ a=>fq J n (ip i σ) g t T (λy h=>∀p,h p=ζ->Q (.ref p) (upd h p$ .lst y)) a
def kY{t E iter:dr}{i:List dr}{a:hJ}{p:Pos}{M:List π}{k:Nat}{l:List Nat}{W:TI}{g:TG}{r:TT}{u:TE}(v:X.calm=ν)(y:PI X t iter W)(S:aV X.N X.env.scope a M k l)
  (z:∀c C f s H,PG (aG X a M c C f s H) t g) (B:∀c C f s H,PF (aG X a M c C f s H) i r) (G:∀c C f s H,PE (aG X a M c C f s H) E u)
  (K:∀x,foldedSetIterable iter X.env x=pure x:=by intro _;rfl):
  PE X (.ListComp E [#[t,iter,i,0]] a p) (wG W k l g r u):=by
 intro pins s σ H Q I h;rw[eval_ListComp];erw[Rb (use:=ζ) Z K (qi$ qm I S) S.kind S.loc$ aL (y pins s σ H _ I h) λxv s1 L=>aL L λO s2 P=>?_];let⟨it,f,tn,J,H2,e,U,T,d,V,R⟩:=P;subst e;erw[Qm (RR:=λj C=>compPost (υ X.prog X.w) X.A X.xe ζ (EP X pins σ Q) j C) U v T d V S z B G R ?_];intro D C ys m H' Y _ n I' F ns q;exact#[m,ns,λh' sb=>#[.ref D,_,I'.turned (t':=Y.toks) (λb o hb e=>(sb.2 b hb).trans e) F.1 F.2.1 F.2.2.2.1 F.2.2.2.2.1 F.2.2.2.2.2,Z,q D n]]
def ZC{t E iter:dr}{d:List dr}{c:hJ}{p P f:Pos}{y:π}{i:Nat}{M:List π}{U:Nat}{V:List Nat}{W:TI}{g:TG}{Y:TT}{te:TE}(hN:X.N.Nodup)(hy:X.N[i]?=δ y)(hx:xw X.env.scope y)
  (hc:X.calm=ν) (hI:PI X t iter W) (S:aV X.N X.env.scope c M U V)
  (hg:∀l C j s H,PG (aG X c M l C j s H) t g) (hi:∀l C j s H,PF (aG X c M l C j s H) d Y) (he:∀l C j s H,PE (aG X c M l C j s H) E te)
  (r:↥(swapsWith (.ListComp E [#[t,iter,d,0]] c p) (δ$ .Name y P) f.line X.env=pure ν))
  (hf:autoParam (X.fn y=ν∨X.env.scope.names.lookup y=δ .local) Wb._auto_1)
  (hs:∀x,foldedSetIterable iter X.env x=pure x:=by intro _;rfl):
  PS X (.Assign [.Name y P] (.ListComp E [#[t,iter,d,0]] c p) f) (λD σ H=>wG W U V g Y te σ H λv H1=>D.nx (σ.set i$ δ v) H1):=by
 intro pins s σ H D I h;rw[exec_Assign_Name_used _ _ _ _ r];erw[Ms$ Oy$ Ms ?_];show ξ _ X.A (do let _ <- comprehension (.ListComp E [#[t,iter,d,0]] c p) c X.env _ (newList []) μ (eval iter X.env) (δ$ assign (.Name y P) X.env)) _ _ s;refine Ms (aL (Rb (use:=δ (assign (.Name y P) X.env)) (Q:=λ_ k=>SP X pins D .next k) Z hs (qi$ qm I S) S.kind S.loc
  (aL (hI pins s σ H _ I h) λxv s1 h1=>aL h1 λi0 s2 h2=>?_)) λ_ k hq=>Mu (Mu hq))
 let⟨it,j,tn,J,H2,e,I2,T,u,f2,R⟩:=h2;subst e;erw[Qm (RR:=λB C=>compPost (υ X.prog X.w) X.A X.xe (δ$ assign (.Name y P) X.env) (λ_ k=>SP X pins D .next k) B C) I2 hc T u f2 S hg hi he R ?_];intro Dd C ys m H' k _ n I' F ns q;show ξ _ X.A (assign (.Name y P) X.env$ .ref Dd) _ _ k;erw[UX$ QW I' hN hy hx (v:=.ref Dd) Z (λG K hh=>?_) hf];let⟨a,sb,ha⟩:=hh;let L:C≠a:=by
  rcases ha with z |z
  .rw[z];exact F.2.1
  .exact MU$ F.2.2.2.2.1 _ _ z
 exact#[m,ns.sameBut sb L,λh' O=>#[_,_,K.turned (t':=G.toks) (λb o hb e=>(O.2 b hb).trans e) F.1 F.2.1 F.2.2.2.1 F.2.2.2.2.1 F.2.2.2.2.2,q Dd n]]
end
section
variable {X:Cx}
def EO(i j:Int):Prop:=0 < j/\j<=1000000000000000000
def JI:gg X (binaryOp .FloorDiv) (rI EO λi j=>.int (i / j)):=HS λi j _ _ _ _ _ h q=>by
 let b:(0:Int) < j:=h.1;let c:j<=1000000000000000000:=h.2;erw[floordiv_int LN (by rw[Int.fdiv_eq_ediv_of_nonneg i LN];exact q)$ .inl$ PyProof.noPylong_of_log2 ?_];let H:j.natAbs≠0:=by omega
 let a:j.natAbs < 2 ^ 60:=by omega
 let d:j.natAbs.log2 < 60:=(Nat.log2_lt H).mpr a;omega
def Fe:V->Option η
 | .ty n=>δ (.type n)
 | .ref a=>↑a
 |_=>ζ
theorem qz:∀{Y:List π} {U:List η},aw (Y.map ti) U->StrsAre U Y
 | [],_,.nil=>.nil
 |y::r,_,.cons (b:=u) h t=>by obtain⟨T,e⟩:∃T,u=mu y T:=h;subst e;exact .cons y T$ qz t
def XA:HK X "str.join" (λx a H Q=>∃(z:π) (p:ε) (y:List π),x= .str z/\a=[.ref p]/\aF X.K H p (y.map ti)/\z.length<=16/\(y.map (·.length)).sum+y.length<=1048576/\Q (.str$ Txt.join z y) H):=by intro P s l H x a v U Q I r R h;let⟨z,p,y,rfl,rfl,b,c,d,q⟩:=h;let⟨u,rfl,e⟩:=eZ R;cases e;let⟨t,rfl⟩:=r;let⟨i,f,g,j⟩:=I.list b;exact join_listW g.isList (by simpa using qz f) c d λT k=>#[.str _,H,I.tok k,#[_,Z],q]
def sW:dr->Option V
 | .Constant (.str x) _ _=>δ (.str x)
 | .Constant (.int i) _ _=>δ (.int i)
 |_=>ζ
def DO(h:sW e=δ v):PE X e (tC v):=by
 cases e with
 |Constant c j p=>
  cases c with
  |str x=>cases h;exact jj
  |int i=>cases h;exact jf
  |_=>cases h
 |_=>cases h
def wB(h:sW e=δ v):Θ (e::a) E=(μ,eval e E)::Θ a E:=by
 cases e with
 |Constant c j p=>rfl
 |_=>cases h
def oM(e:dr):Bool:=(sW e).isSome
def pS(e:dr):V:=(sW e).getD .non
theorem Kr:∀{E:List dr},E.all oM=ν->PA X E (λ_ H Q=>Q (E.map pS) H)
 | [],_=>jb
 |e::E,h=>by
  rw[Ta,NE]at h;let⟨v,a⟩:=kz.mp (show(sW e).isSome=ν from h.1);let b:pS e=v:=by unfold pS;rw[a];rfl
  rw[Nw,b];exact ja (DO a) (Kr h.2)$ wB a
def ZD{E:List dr}(y:List π)(h:(E.all oM&&decide (E.map pS=y.map ti))=ν):PA X E (λ_ H Q=>Q (y.map ti) H):=by rw[NE]at h;let e:=Nu h.2;rw[<- e];exact Kr h.1
def pV{E:List dr}(h:E.all oM=ν):(E.map pS).all cj=ν:=by
 rw[Um]at h ⊢;intro v H;let⟨e,a,rfl⟩:=bS.mp H;let q:=h e a;unfold oM at q;unfold pS;cases e with
 |Constant c j p=>
  cases c with
  |str x |int i=>rfl
  |_=>exact absurd q MJ
 |_=>exact absurd q MJ
def Ht(t:TS):TS:=λD b H=>∃R:St->Hp->Prop,t { D with nx:=R } b H/\∀a h,R a h->D.nx a h
def j5{st:da}{t:TS}(h:PS X st t):PS X st (Ht t):=by
 intro p s b H D I c;let⟨R,d,e⟩:=c;erw[aL (h p s b H _ I d) λf S q=>?_];cases f with
 |next=>let⟨a,g,i,q⟩:=q;exact#[a,g,i,e _ _ q]
 |brk |cont |ret v=>exact q
def uo{t:St}(h:t.length=1):∃v,t=[v]:=by
 cases t with
 |nil=>cases h
 |cons v r=>
  cases r with
  |nil=>exact#[v,Z]
  |cons _ _=>cases h
def Yo{lo:Int}{t:TE}{Q:List V->Hp->Prop}(Pv:Nat->List V->Hp->Prop)(g:Pv 0 [] H)(j:n<=τ)(b:∀i Y h,Pv i Y h->Y.length<=i)
  (k:∀i Y h,i < n->Pv i Y h->t (δ (.int$ lo+i)::c) h λy d=>Pv (i+1) (Y++[y]) d) (l:∀Y h,Pv n Y h->Q Y h):
  fq (xJ lo n) 1 c (bn 0) ny t Q H:=by
 erw[#[λi m Y h=>m=n - i/\i<=n/\Pv i Y h,#[n,LM,MH _,g],?_]];rintro i m Y h ⟨rfl,q,p⟩;by_cases a:i < n
 .erw[.inr #[a,N5 (b i Y h p)$ MN a j,Pv$ i+1,λo d P=>#[n - (i+1),LN,Z,a,P],λx d T f y=>?_]];let⟨e,y⟩:=y;subst e y;let⟨v,rfl⟩:=uo f;exact#[#[[δ _],Z,Z],k i Y _ a p]
 .let e:i=n:=by omega
  subst e;exact .inl #[Mx _,l Y h p]
end
section
variable {κ:Type}[DecidableEq κ]
def cg(K:List (κ×V))(k:κ):Option V:=(K.find? λa=>decide (a.1=k)).map (·.2)
def aD(K:List (κ×V))(k:κ)(v:V):List (κ×V):=
 if (K.any λa=>decide (a.1=k))=ν then K.map (λa=>if a.1=k then (a.1,v) else a) else K++[(k,v)]
def kn{p:κ×V}(e:p.1=k):cg (p::r) k=δ p.2:=by simp [cg,NN,e]
def kx{p:κ×V}(e:¬p.1=k):cg (p::r) k=cg r k:=by simp [cg,NN,e]
theorem JJ(k:κ):∀K:List (κ×V),(K.any λa=>decide (a.1=k))=(cg K k).isSome
 | []=>rfl
 |p::r=>by
  rw[Pz];by_cases e:p.1=k
  .simp only[kn e,Ng e,U2,Option.isSome_some]
  .rw[kx e,MY e,Bool.false_or];exact JJ k r
theorem X5(k j:κ)(y:V):∀K:List (κ×V),cg (K.map λa=>if a.1=k then (a.1,y) else a) j=(cg K j).map λx=>if j=k then y else x
 | []=>rfl
 |p::r=>by
  let i:=X5 k j y r;rw[Nw];by_cases h:p.1=k
  .rw[MQ h];by_cases e:p.1=j
   .rw[kn (p:=(p.1,y)) e,kn e,PY,MQ$ e.symm.trans h]
   .rw[kx (p:=(p.1,y)) e,kx e,i]
  .rw[MS h];by_cases e:p.1=j
   .rw[kn (p:=p) e,kn e,PY,MS (λz=>h (e.trans z))]
   .rw[kx (p:=p) e,kx e,i]
theorem Q8(k j:κ)(y:V):∀K:List (κ×V),cg K k=ζ->cg (K++[(k,y)]) j=if j=k then δ y else cg K j
 | [],_=>by
  by_cases e:k=j
  .rw[MQ e.symm];exact kn (p:=(k,y)) e
  .rw[MS (λz=>e z.symm)];exact kx (p:=(k,y)) e
 |p::r,h=>by
  rw[List.cons_append];let H:¬p.1=k:=λz=>by rw[kn z]at h;cases h
  rw[kx H]at h;let i:=Q8 k j y r h;by_cases e:p.1=j
  .rw[kn e,kn e,MS (λz=>H (e.trans z))]
  .rw[kx e,kx e,i]
def qQ(K:List (κ×V))(k j:κ)(y:V):cg (aD K k y) j=if j=k then δ y else cg K j:=by
 unfold aD;by_cases a:(K.any λb=>decide (b.1=k))=ν
 .rw[MQ a,X5];rw[JJ]at a;by_cases e:j=k
  .let⟨x,h⟩:=kz.mp a;rw[MQ e,e,h,PY,MQ Z]
  .rw[MS e];cases cg K j with
   |none=>rfl
   |some x=>rw[PY,MS e]
 .rw[MS a];erw[Q8 k j y K ?_];rw[JJ]at a;cases q:cg K k with
  |none=>rfl
  |some x=>rw[q]at a;exact(a Z).elim
def qZ(K:List (κ×V))(k:κ)(v:V):(aD K k v).length<=K.length+1:=by
 unfold aD;split
 .rw[Mv];omega
 .rw[Mz,MZ,OT];omega
def dw.isSome_eq(r:dw o u):o.isSome=u.isSome:=by
 cases o with
 |none=>cases u with
  |none=>rfl
  |some _=>exact(show False from r).elim
 |some _=>cases u with
  |none=>exact(show False from r).elim
  |some _=>rfl
def dw.getD(r:dw o u)(R:aC d D):aC (o.getD d) (u.getD D):=by
 cases o with
 |none=>cases u with
  |none=>exact R
  |some _=>exact(show False from r).elim
 |some _=>cases u with
  |none=>exact(show False from r).elim
  |some _=>exact r
def KV.val(r:KV a v)(k:κ):dw (cg a k) (valueAt v k):=by
 unfold KV at r;induction r with
 |nil=>exact True.intro
 | @cons p q P Q h t i=>
  let⟨H,c⟩:=h;by_cases e:p.1=k
  .let E:q.1=k:=H.symm.trans e;let b:valueAt (q::Q) k=δ q.2:=by simp [valueAt,NN,E]
   rw[kn e,b];exact c
  .let E:¬q.1=k:=λz=>e (H.trans z);let b:valueAt (q::Q) k=valueAt Q k:=by simp [valueAt,NN,E]
   rw[kx e,b];exact i
def KV.any(r:KV a v)(k:κ):(a.any λK=>decide (K.1=k))=v.any λK=>decide (K.1=k):=by
 unfold KV at r;induction r with
 |nil=>rfl
 |cons h t i=>rw[Pz,Pz,i,h.1]
def KV.repl(r:KV a v)(k:κ)(R:aC y u):
  KV (a.map λK=>if K.1=k then (K.1,y) else K) (v.map λK=>if K.1=k then (K.1,u) else K):=by
 unfold KV at r ⊢;induction r with
 |nil=>exact .nil
 | @cons p q P Q h t i=>
  rw[Nw,Nw];erw[.cons ?_ i];let⟨H,b⟩:=h;by_cases e:p.1=k
  .rw[MQ e,MQ$ H.symm.trans e];exact#[H,R]
  .rw[MS e,MS (λz=>e (H.trans z))];exact#[H,b]
def KV.put(r:KV a v)(k:κ)(R:aC y u):KV (aD a k y) (stored v k u):=by
 unfold aD stored;rw[r.any k];by_cases e:(v.any λK=>decide (K.1=k))=ν
 .rw[MQ e,MQ e];exact r.repl k R
 .rw[MS e,MS e];exact Paired.snoc r #[Z,R]
def KV.length(r:KV k v):k.length=v.length:=Paired.length r
end
def KA{P:ψ}(r:aC (kV k) u):(aP P w).is k u=ν:=by
 cases k with
 |inl i=>let⟨t,e⟩:=(show ∃t,u=qL i t from r);subst e;exact Ym P w i t
 |inr x=>let⟨t,e⟩:=(show ∃t,u=mu x t from r);subst e;exact Yn P w x t
theorem Q9{P:ψ}:∀{K:List bG} {u:List η},aw (K.map kV) u->ItemsAre (aP P w) K u
 | [],_,r=>by rw[Th]at r;cases r;exact .nil
 |k::K,_,r=>by
  rw[Nw]at r;cases r with
  |cons h t=>exact .cons (KA h) (Q9 t)
abbrev KT(H:Hp):List (List bG×V)->List (List bG×ε×η)->Prop:=Paired λp q=>p.1=q.1/\H q.2.1=δ (.tup$ p.1.map kV)/\aC p.2 q.2.2
def KT.val(r:KT H a x)(k:List bG):dw (cg a k) ((atKey x k).map (·.2)):=by
 induction r with
 |nil=>exact True.intro
 | @cons p q P Q h t i=>
  let⟨c,_,d⟩:=h;by_cases e:p.1=k
  .let E:q.1=k:=c.symm.trans e;let b:atKey (q::Q) k=δ q.2:=by simp [atKey,NN,E]
   rw[kn e,b];exact d
  .let E:¬q.1=k:=λz=>e (c.trans z);let b:atKey (q::Q) k=atKey Q k:=by simp [atKey,NN,E]
   rw[kx e,b];exact i
def KT.repl(r:KT H b x)(k:List bG)(R:aC y u):
  KT H (b.map λK=>if K.1=k then (K.1,y) else K) (x.map$ putAt k u):=by
 induction r with
 |nil=>exact .nil
 | @cons p q P Q h t i=>
  rw[Nw,Nw];erw[.cons ?_ i];let⟨a,c,d⟩:=h;unfold putAt;by_cases e:p.1=k
  .rw[MQ e,MQ$ a.symm.trans e];exact#[a,c,R]
  .rw[MS e,MS (λz=>e (a.trans z))];exact#[a,c,d]
def KT.put(r:KT H a x)(k:List bG)(h:H b=δ (.tup$ k.map kV))(R:aC y u):
  KT H (aD a k y) (storedH x k b u):=by
 let e:(a.any λK=>decide (K.1=k))=(atKey x k).isSome:=by rw[JJ,(r.val k).isSome_eq,TN]
 unfold aD storedH;rw[e];by_cases q:(atKey x k).isSome=ν
 .rw[MQ q,MQ q];exact r.repl k R
 .rw[MS q,MS q];exact Paired.snoc r #[Z,h,R]
def KT.keeps{h:Hp}(r:KT H k x)(a:∀b y,H b=δ (.tup y)->h b=δ (.tup y)):KT h k x:=
 Paired.mapP r λ_ _ z=>#[z.1,a _ _ z.2.1,z.2.2]
section
variable {P:ψ}{w:bU}{H:Hp}{h:ef}{a:ε}
def BN(o:fQ P w H h)(e:Rd H a u):aO P w H h a u:=e.ok o
def KB(o:fQ P w H h)(e:Rd H a (.dK k)):k.length<=τ/\(a==sysModules)=μ/\∃v,KV k v/\h.DictOf (aP P w) a v:=
 show aO P w H h a (.dK k) from BN o e
def Bl(o:fQ P w H h)(e:H a=δ (.dK k)):k.length<=τ/\(a==sysModules)=μ/\∃v,KV k v/\h.DictOf (aP P w) a v:=KB o (.inl e)
def KO{k:List bG}(O:fQ P w H h)(e:H a=δ (.tup$ k.map kV)):(tupleKind$ aP P w).is h k a:=by let⟨_,i,r,o,b,c,n,d⟩:=(show aO P w H h a (.tup$ k.map kV) from O a _ e);exact#[o,i.toArray,n,b,c,d,by simpa using Q9 r]
def QQ(O:fQ P w H h)(e:Rd H a (.dT k)):k.length<=τ/\(a==sysModules)=μ/\
  ∃X,KT H k X/\h.DictOfH (tupleKind$ aP P w) a X:=by
 let⟨z,y,X,r,o,E,c,d,f,g,i,j⟩:=(show aO P w H h a (.dT k) from BN O e);erw[#[z,y,X,r,o,E,c,d,f,g,i,λx hx=>?_,j]];let all:∀{l:List (List bG×V)} {m:List (List bG×ε×η)},KT H l m->∀x∈m,(tupleKind$ aP P w).is h x.1 x.2.1:=by
  intro l m q;induction q with
  |nil=>intro x hx;exact nomatch hx
  | @cons p q n Q b t I=>
   intro x hx;rcases Ψ.mp hx with e |hx
   .subst e;exact KO O (by rw[<- b.1];exact b.2.1)
   .exact I x hx
 exact all r x hx
def Fm(o:fQ P w H h)(e:H a=δ (.dT k)):k.length<=τ/\(a==sysModules)=μ/\
  ∃x,KT H k x/\h.DictOfH (tupleKind$ aP P w) a x:=QQ o (.inl e)
end
def a7(H:Hp)(a:ε)(y:V)(r:Option V):Prop:=
 (∃K k,Rd H a (.dK K)/\y=kV k/\r=cg K k)∨∃K k b,Rd H a (.dT K)/\y= .ref b/\H b=δ (.tup$ k.map kV)/\r=cg K k
def gc(H:Hp)(a:ε)(y v:V)(h:Hp):Prop:=
 (∃K k,H a=δ (.dK K)/\y=kV k/\K.length < τ/\h=upd H a (.dK$ aD K k v))∨
 ∃K k b,H a=δ (.dT K)/\y= .ref b/\H b=δ (.tup$ k.map kV)/\K.length < τ/\h=upd H a (.dT$ aD K k v)
def a7.k{H:Hp}{k:bG}(e:H a=δ (.dK b)):a7 H a (kV k) (cg b k):=.inl #[b,k,.inl e,Z,Z]
def gc.k{H:Hp}{k:bG}(e:H a=δ (.dK b))(h:b.length < τ):gc H a (kV k) v (upd H a$ .dK$ aD b k v):=.inl #[b,k,e,Z,h,Z]
section
variable {X:Cx}{pins:List (ε×gm)}{σ:St}{H:Hp}{s:θ}{a:ε}{y v:V}{u r:η}{o:Option V}{A:cJ}{E:η->θ->Prop}
def ap.big(I:ap X pins σ H s):sysModules < s.heap.objs.size:=by let h:Ξ < s.heap.objs.size:=(I.mod.glob.keeps I.bk).lt;exact Vd LO h
def pT{Q:η->θ->Prop}(m:A.units+1 < cLine)(I:ap X pins σ H s)(g:a7 H a y (δ v))(j:aC y u)(h:∀W S,ap X pins σ H S->aC v W->Q W S):
  ξ (υ X.prog X.w) A (getItem (.ref a) u) Q E s:=by
 rcases g with ⟨K,k,e,d,l⟩ | ⟨K,k,b,e,d,n,l⟩
 .subst d;let⟨z,q,t,R,D⟩:=KB I.hok e;let⟨W,f,c⟩:=dw.some_of (v:=v) (o:=valueAt t k) (by rw[l];exact R.val k);exact wpAny_getItem_of (KA j) D.mapOf f$ h W _ (I.tok _) c
 .subst d;cases (show u=ω b from j);let⟨z,q,x,R,D⟩:=QQ I.hok e;let⟨W,f,c⟩:=dw.some_of (v:=v) (o:=(atKey x k).map (·.2)) (by rw[l];exact R.val k);let⟨p,B,i⟩:=em.mp f;erw[wpAny_getItem_heap (PJ m) (KO I.hok n) D B ?_];rw[i];exact h W _ (I.tok _) c
def Is{Q:η->θ->Prop}(i:A.units+1 < cLine)(I:ap X pins σ H s)(g:a7 H a y o)(f:aC y u)(h:∀S,ap X pins σ H S->Q (.bool o.isSome) S):
  ξ (υ X.prog X.w) A (compareOp .In u$ .ref a) Q E s:=by
 rcases g with ⟨K,k,e,c,l⟩ | ⟨K,k,b,e,c,j,l⟩
 .subst c;let⟨z,d,m,R,D⟩:=KB I.hok e;erw[wpAny_in_of (KA f) d D.mapOf ?_];rw[<- (R.val k).isSome_eq,<- l];exact h _$ I.tok _
 .subst c;cases (show u=ω b from f);let⟨z,d,x,R,D⟩:=QQ I.hok e;erw[wpAny_in_heap (PJ i) (KO I.hok j) d D ?_];let q:=(R.val k).isSome_eq;rw[TN]at q;rw[<- q,<- l];exact h _$ I.tok _
def XB(I:ap X pins σ H s)(m:EV (H a))(c:fy a s.heap h)(d:∃q,h.get? a=δ q)(n:aO X.prog X.w (upd H a O) h a O):
  ap X pins σ (upd H a O) { s with heap:=h,toks:=t }:=
 I.write (x:=a) (e:=a) m (.inl Z) (λb q f z=>(c.2 b f).trans z) d n
def Xs{P:ψ}{h:ef}{k:List (bG×V)}(z:k.length<=τ)(c:(a==sysModules)=μ)(R:KV k b)(d:h.DictOf (aP P w) a b):
  aO P w e h a (.dK k):=#[z,c,b,R,d]
def pU{Q:Unit->θ->Prop}(J:A.units+1 < cLine)(I:ap X pins σ H s)(g:gc H a y v L)(x:aC y u)(B:aC v r)(h:∀S,ap X pins σ L S->Q () S):
  ξ (υ X.prog X.w) A (setItem (.ref a) u r) Q E s:=by
 rcases g with ⟨K,k,e,i,l,j⟩ | ⟨K,k,b,e,i,C,l,j⟩
 .subst i j;let⟨z,m,M,R,D⟩:=Bl I.hok e;let n:M.length<=τ:=by rw[<- R.length];exact z
  let p:(aD K k v).length<=τ:=by let:=qZ K k v;omega
  erw[wpAny_setItem_pairs (hsz:=n) (KA x) D λF d t=>h _ ?_];let N:∃q,F.get? a=δ q:=let #[q,_,_,f,_]:=d;#[q,f]
  exact XB I (by rw[e];exact True.intro) t N$ Xs p m (R.put k B) d
 .subst i j;cases (show u=ω b from x);let⟨z,m,O,R,D⟩:=Fm I.hok e;let n:O.length<=τ:=by rw[<- Paired.length R];exact z
  let p:(aD K k v).length<=τ:=by let:=qZ K k v;omega
  erw[wpAny_setItem_heap (hsz:=n) (PJ J) (KO I.hok C) D λF d t=>h _ ?_];let⟨q,P,T,f,U,W,Y,_,h5⟩:=d;erw[XB I (by rw[e];exact True.intro) t #[q,f] #[p,m,_,(R.put k C B).keeps λc ys G=>?_,q,P,T,f,U,W,Y,h5]];rw[ji$ jE G e (λz=>nomatch z)];exact G
end
def EW(i:dr):Prop:=∀o I,subscripted i μ o I=operate [o,I] (getItem o I)
def AT{id:String}
  (k:typeLookup (.type T) "__getitem__"=pure (δ$ .builtin id)) (l:EW a)
  (h:ξ (υ p w) A (eval v e) (λo b=>ξ (υ p w) A (eval a e) (λi S=>S.TypeIs o T/\ξ (υ p w) A (getItem o i) Q E S) E b) E s):
  ξ (υ p w) A (eval (.Subscript v a m) e) Q E s:=by
 erw[UR$ Ny h (λo b d=>Ny d (λi S H=>?_) λ_ _ x=>x) λ_ _ x=>x];let⟨j,H⟩:=H;unfold subscriptTail;erw[Ms ?_];rw[getitemInPython_of_ne j.not_modules];erw[Ms$ N0 j k ?_];let f:ξ (υ p w) A (subscripted a μ o i) (λr c=>ξ (υ p w) A (letTemporaryGo v o r >>= λ_=>pure r) Q E c) E S:=by rw[l o i];exact wpAny_operating$ Ny H (λr c g=>Ms (wpAny_letTemporaryGo$ Mu g)) λ_ _ x=>x
 first
  |exact Mu (Ms f)
  |exact Ms (Mu (Ms f))
  |exact Ms f
def Yp{X:Cx}(I:ap X p c H s)(g:a7 H a y o):s.TypeIs (.ref a) "dict":=by
 rcases g with ⟨K,k,e,_,_⟩ | ⟨K,k,b,e,_,_,_⟩
 .let⟨_,_,v,_,d⟩:=KB I.hok e;exact d.typeIs
 .let⟨_,_,x,_,d⟩:=QQ I.hok e;exact d.typeIs
inductive wH(Q:VK)(x y:V)(b:Hp):Prop
 |mk(a v:_)(_:x= .ref a)(_:a7 b a y (δ v))(_:Q v b)
def Ho(t T:TE):TE:=λa H Q=>t a H λx h=>T a h (wH Q x)
inductive BW(Q:VK)(y x:V)(b:Hp):Prop
 |mk(a o:_)(_:x= .ref a)(_:a7 b a y o)(_:Q (.bl o.isSome) b)
def IR(t T:TE):TE:=λa H Q=>t a H λy h=>T a h (BW Q y)
inductive vB(D:a6)(d:St)(v x y:V)(b:Hp):Prop
 |mk(a c:_)(_:x= .ref a)(_:gc b a y v c)(_:D.nx d c)
def vA(t T b:TE):TS:=λD a H=>b a H λv h=>t a h λx c=>T a c (vB D a v x)
section
variable {X:Cx}{o i e value:dr}{pos pos' tpos:Pos}{td ty tv:TE}
def kj(d:X.A.units+1 < cLine)(f:PE X o td)(j:PE X i ty)(k:EW i):PE X (.Subscript o i pos) (Ho td ty):=by intro p s b H Q I h;erw[AT PySem.F.slot_dict_getitem.lookup k$ aL (f p s b H _ I h) λu S #[x,l,m,R,q]=>aL (j p S b l _ m q) λC D z=>?_];let⟨y,n,c,t,a,v,E,g,w⟩:=z;subst E;obtain rfl:u=ω a:=R;exact#[Yp c g,pT d c g t λW G B r=>#[v,n,B,r,w]]
def DL(c:X.A.units+1 < cLine)(d:PE X i ty)(f:PE X o td):PC X .In i o (IR ty td):=by intro p s b H Q I h;erw[aL (d p s b H _ I h) λv S #[y,j,k,r,q]=>aL (f p S b j _ k q) λu w z=>?_];let⟨x,l,m,R,a,O,E,g,n⟩:=z;subst E;obtain rfl:u=ω a:=R;exact Is c m g r λB t=>#[.bl O.isSome,l,t,Z,n]
def za(c:X.A.units+1 < cLine)(d:PE X o td)(f:PE X i ty)(j:PE X value tv)(k:swapsWith value (δ$ .Subscript o i pos') pos.line X.env=pure μ):
  PS X (.Assign [.Subscript o i pos'] value pos) (vA td ty tv):=by
 intro p s b H D I h;erw[wpAny_Assign_Subscript (aL (j p s b H _ I h) λr S #[v,l,m,R,q]=>aL (d p S b l _ m q) λu n #[x,t,w,B,Q]=>aL (f p n b t _ w Q) λL M z=>?_) k];let⟨y,N,C,E,a,F,G,g,J⟩:=z;subst G;obtain rfl:u=ω a:=B;exact pU c C g E R λO K=>#[b,F,K,J]
end
def X6{P:ψ}(h:ef)(a:sysModules < h.objs.size):aO P w H (h.push { cls:=.type "dict",data:=.dict (ι []) }) h.objs.size (.dK []):=
 #[MH _,beq_eq_false_iff_ne.mpr$ MU$ MG a,[],.nil,Tn h]
def Er:TE:=λ_ H Q=>∀p,H p=ζ->Q (.ref p) (upd H p$ .dK [])
section
variable {X:Cx}{pos:Pos}
def K9:PE X (.Dict [] [] pos) Er:=λp s b H Q I h=>
 wpAny_Dict_empty #[.ref s.heap.objs.size,_,I.laid (a:=s.heap.objs.size) (o:=.dK []) (t':=s.toks) (λ_ _ q=>Mt _ q) (Mx _)$ X6 s.heap I.big,Z,h _$ I.hok.fresh$ Mx _]
end
def oB:List (TE×TE)->St->Hp->(List (V×V)->Hp->Prop)->Prop
 | [],_,H,Q=>Q [] H
 | (t,T)::r,a,H,Q=>t a H λx h=>T a h λy b=>oB r a b λp c=>Q ((x,y)::p) c
abbrev VV:List (V×V)->List (η×η)->Prop:=Paired λp q=>aC p.1 q.1/\aC p.2 q.2
def HL(X:Cx)(P:Pos)(k:List (Option dr))(v:List dr)(t:List (TE×TE)):Prop:=
 ∀(p:List (ε×gm)) (s:θ) (a:St) (H:Hp) (Q:List (V×V)->Hp->Prop),ap X p a H s->oB t a H Q->
  ξ (υ X.prog X.w) X.A (evalPairs$ pairTrees k v X.env P) (λc S=>∃b h,ap X p a h S/\VV b c/\Q b h) X.xe s
def Ac{X:Cx}{p:Pos}:HL X p [] [] []:=λP s a H Q I h=>pairTrees_nil_walk #[[],H,I,.nil,h]
def qo{X:Cx}{P:Pos}{k v:dr}{K:List (Option dr)}{V:List dr}{T b:TE}{t:List (TE×TE)}(c:PE X k T)(d:PE X v b)(e:HL X P K V t):
  HL X P (δ k::K) (v::V) ((T,b)::t):=λp s a H Q I h=>
 pairTrees_cons_walk (aL (c p s a H _ I h) λu S #[x,f,i,R,q]=>aL (d p S a f _ i q) λW g #[y,j,l,m,n]=>
  aL (e p g a j _ l n) λB C #[o,w,z,r,A]=>#[(x,y)::o,w,z,.cons #[R,m] r,A])
def bX(k m:List (bG×V)):List (bG×V):=m.foldl (λa K=>aD a K.1 K.2) k
def KV.merge:∀{m:List (bG×V)} {R:List (bG×η)} {k:List (bG×V)} {v:List (bG×η)},KV m R->KV k v->KV (bX k m) (merged v R):=by
 intro m R k v r;unfold KV at r;induction r generalizing k v with
 |nil=>intro q;exact q
 | @cons p q P Q h t i=>
  intro a;let e:KV (aD k p.1 p.2) (stored v q.1 q.2):=by let:=a.put p.1 h.2;rw[<- h.1];exact this
  exact i e
theorem qj:∀(m k:List (bG×V)),(bX k m).length<=k.length+m.length
 | [],k=>by show k.length<=k.length+0;omega
 |p::r,k=>by let h:=qj r (aD k p.1 p.2);let H:=qZ k p.1 p.2;show(bX (aD k p.1 p.2) r).length<=_;rw[MZ];omega
theorem Qn{P:ψ}{w:bU}:∀{k:List (bG×V)} {W:List (η×η)},VV (k.map λK=>(kV K.1,K.2)) W->∃R,Carries (aP P w) W R/\KV k R
 | [],_,r=>by rw[Th]at r;cases r;exact#[[],True.intro,.nil]
 |p::k,_,r=>by
  rw[Nw]at r;cases r with
  | @cons a b A d h t=>let⟨R,c,q⟩:=Qn (P:=P) (w:=w) t;let⟨e,B⟩:=b;exact#[(p.1,B)::R,#[KA h.1,Z,c],.cons #[Z,h.2] q]
def Hq(t:List (TE×TE)):TE:=λa H Q=>∀p,H p=ζ->oB t a (upd H p$ .dK []) λP h=>h p=δ (.dK [])/\∃k:List (bG×V),P=k.map (λK=>(kV K.1,K.2))/\k.length<=15/\Q (.ref p) (upd h p$ .dK$ bX [] k)
def y7{X:Cx}{p:Pos}{k:List (Option dr)}{v:List dr}{t:List (TE×TE)}(h:HL X p k v t)(b:k.all (·.isSome)=ν)(j:k.length=v.length)(l:k≠[])
  (f:k.length<=15):PE X (.Dict k v p) (Hq t):=by
 intro d s m H Q I q;let n:=I.hok.fresh (Mx s.heap.objs.size);let u:=I.laid (a:=s.heap.objs.size) (o:=.dK []) (h':=s.heap.push { cls:=.type "dict",data:=.dict (ι []) }) (t':=s.toks) (λ_ _ q=>Mt _ q) (Mx _) (X6 s.heap I.big);erw[wpAny_Dict_walk (knd:=aP X.prog X.w) b j l f$ aL (h d _ m _ _ u$ q _ n) λW S g=>?_];let⟨N,O,i,r,e,K,E,lk,x⟩:=g;subst E;let⟨R,c,y⟩:=Qn (P:=X.prog) (w:=X.w) r;let⟨z,A,V,B,C⟩:=Bl i.hok e;cases B;erw[#[R,c,C,λh' D F=>#[.ref s.heap.objs.size,_,?_,Z,x]]];let G:(bX [] K).length<=τ:=by let J:=qj K [];rw[OT]at J;rw[O3];omega
 let L:∃q,h'.get? s.heap.objs.size=δ q:=let #[q,_,_,M,_]:=D;#[q,M]
 exact XB i (by rw[e];exact True.intro) F L$ Xs G A (y.merge .nil) D
structure M2(X:Cx)(o:dr)(m:π)(apos:Pos)(e f:dr)(cpos:Pos):Prop where
 base:attributeBase o m X.env (eval o X.env)=eval o X.env
 few:((eT cpos$ Θ [e,f] X.env).all (λx=>!x.1)&&(backToKw cpos$ keywordEach [] X.env).all (λx=>x.1.isSome)
  &&decide (([e,f]:List dr).length+([]:List Keyword).length+(if ([]:List Keyword).isEmpty then 0 else 1) < 30))=ν
 line:(apos.endLine==cpos.line)=ν
 trees:eT cpos (Θ [e,f] X.env)=[(μ,eval e X.env),(μ,eval f X.env)]
def I0(H:Hp)(a:ε):Prop:=(∃k,Rd H a$ .dK k)∨∃k,Rd H a (.dT k)
def C3{X:Cx}(I:ap X p g H s)(d:I0 H a):
  s.TypeIs (.ref a) "dict"/\(∀b,ω a= .ref b->∃o,s.heap.get? b=δ o/\o.dict=ζ)/\(a==sysModules)=μ:=by
 rcases d with ⟨k,e⟩ | ⟨k,e⟩
 .let⟨_,h,v,_,D⟩:=KB I.hok e;erw[#[D.typeIs,λb q=>?_,h]];cases q;let⟨o,_,_,c,f,_⟩:=D;exact#[o,c,f.2.1]
 .let⟨_,h,x,_,D⟩:=QQ I.hok e;erw[#[D.typeIs,λb q=>?_,h]];cases q;let⟨o,_,_,c,f,_⟩:=D;exact#[o,c,f.2.1]
section
variable {X:Cx}{pins:List (ε×gm)}{σ:St}{H:Hp}{s:θ}{a:ε}{y d:V}{u r:η}{o:Option V}{A:cJ}{E:η->θ->Prop}
def CD{Q:η->θ->Prop}(m:A.units+1 < cLine)(I:ap X pins σ H s)(g:a7 H a y o)(i:aC y u)(j:aC d r)(h:∀W S,ap X pins σ H S->aC (o.getD d) W->Q W S):
  ξ (υ X.prog X.w) A (call (.builtin "dict.get") [.ref a,u,r]) Q E s:=by
 rcases g with ⟨K,k,e,c,l⟩ | ⟨K,k,b,e,c,n,l⟩
 .subst c;let⟨z,f,v,R,D⟩:=KB I.hok e;erw[call_meetsIn PX D.typeIs SI (Ss _ _ _) (meets_dict_get_default (aP X.prog X.w) a (KA i) f r) #[_,D.mapOf,h _ _ (I.tok _) ?_]];rw[l];exact(R.val k).getD j
 .subst c;cases (show u=ω b from i);let⟨z,f,x,R,D⟩:=QQ I.hok e;erw[call_meetsIn PX D.typeIs SI (Ss _ _ _) (meetsH_dict_get_default (tupleKind$ aP X.prog X.w) a b f r) #[PJ m,k,x,KO I.hok n,D,h _ _ (I.tok _) ?_]];rw[l];exact(R.val k).getD j
end
inductive pE(d c:TE)(e:St)(Q:VK)(x:V)(b:Hp):Prop
 |mk(a:_)(_:x= .ref a)(_:I0 b a)(_:d e b λy H2=>c e H2 λz H3=>∃o,a7 H3 a y o/\Q (o.getD z) H3)
def Ep(t T b:TE):TE:=λa H Q=>t a H (pE T b a Q)
section
variable {X:Cx}{o e f:dr}{apos cpos:Pos}{td ty tx:TE}
def qR(j:X.A.units+1 < cLine)(k:PE X o td)(l:PE X e ty)(n:PE X f tx)(m:M2 X o "get" apos e f cpos):PE X (.Call (.Attribute o "get" apos) [e,f] [] cpos) (Ep td ty tx):=by
 intro p s b H Q I h;erw[wpAny_Call_method m.base m.few m.line PySem.F.plainAttrs_dict PX PySem.F.type_dict_get$ aL (k p s b H _ I h) λu S c=>?_];let⟨x,q,i,R,a,E,d,t⟩:=c;subst E;obtain rfl:u=ω a:=R;let⟨T,v,_⟩:=C3 i d;erw[#[T,v,?_]];rw[m.trees];refine P5 Z (Tz (Oi (aL (l p S b q _ i t) λO w #[y,B,C,D,G]=>
  Oi (aL (n p w b B _ C G) λP U #[z,J,K,L,V,g,M]=>OJ ?_))))
 exact CD j K g D L λW Y N r=>#[_,J,N,r,M]
end
section
variable {X:Cx}{pins:List (ε×gm)}{σ:St}{H:Hp}{s:θ}{a:ε}{kvs:List (bG×V)}{A:cJ}{E:η->θ->Prop}
def sZ{Q:η->θ->Prop}(I:ap X pins σ H s)(e:Rd H a (.dK kvs))(h:∀p S,H p=ζ->ap X pins σ (upd H p$ .dK kvs) S->Q (.ref p) S):ξ (υ X.prog X.w) A (call (.type "dict") [.ref a]) Q E s:=by let⟨z,f,v,r,D⟩:=KB I.hok e;erw[kt_call_dict f D (by rw[<- r.length];exact z) λi d g=>?_];erw[h _ _ (I.hok.fresh$ Mx _)$ I.laid (a:=s.heap.objs.size) (o:=.dK kvs) (t':=s.toks) (λb q c=>?_) (Mx _)$ Xs z (beq_eq_false_iff_ne.mpr$ MU$ MG I.big) r d];exact(g.2 b$ MG$ My c).trans (Mt _ c)
end
section
variable {X:Cx}{pins:List (ε×gm)}{σ:St}{H:Hp}{s:θ}
def pM:dI X (.type "dict") (λx H Q=>∃a k,x=[.ref a]/\H a=δ (.dK k)/\∀p,H p=ζ->Q (.ref p) (upd H p$ .dK k)):=by intro pins s σ H x U Q I r h;let⟨a,k,rfl,b,q⟩:=h;let⟨u,rfl,R⟩:=eZ r;cases R;exact sZ I (.inl b) λp S n i=>#[.ref p,_,i,Z,q p n]
def uy:HK X "str.index" (λx a H Q=>∃(z y:π) (i:Nat) (r:List Nat),x= .str z/\a=[.str y]/\Builtin.Str.occurrences z y 0 z.length 1=i::r/\Q (.int i) H):=by intro pins s σ H x a v U Q I R b h;let⟨z,y,i,r,rfl,rfl,c,q⟩:=h;let⟨u,rfl,T,rfl⟩:=eZ b;let⟨t,rfl⟩:=R;exact SC.index c #[.int i,H,I.tok _,#[_,Z],q]
end
section
open PySem.W PySem.Calls Builtin Builtin.ObjectAttr
variable {prog:ψ}{w:bU}{A:cJ}{E:η->θ->Prop}{s:θ}{K:Ω}{x C:ε}{ox:gm}{od:Option gm}{name:π}
def sR:builtinKind "BaseException.__getattribute__"=δ .slot:=by decide+kernel
def pK:splitId "BaseException.__getattribute__"=δ ("BaseException","__getattribute__"):=by decide+kernel
def CY{R:Result->θ->Prop}(X:K.In s.heap)(I:InstAt s.heap x ox C od)(H:mroIn K C (.type "BaseException")=δ ν)
  (h:ξ (υ prog w) A.in1 (eK.«object.__getattribute__» #[[.ref x,.str name t],[]]) (λa S=>match a with | .done f=>R (.ok f) S | .again c=>c.quiet=ν/\fv (υ prog w) A c R S) (λe S=>R (.error e) S) s):
  fv (υ prog w) A (.call (.builtin "BaseException.__getattribute__") #[[.ref x,.str name t],[]]) R s:=
 RM PySem.F.excAttr_ValueError.ga.plain PySem.F.entry_bexc_ga
  (@UQ (υ prog w) _ _ s "BaseException.__getattribute__" "BaseException" "__getattribute__" (.ref x) [.str name t] [] _ sR pK (I.type.andThen$ RJ X H) (PySem.F.args_bexc_ga (.ref x)$ .str name t) h)
def sS{fill:Bool}(X:K.In s.heap)(I:InstAt s.heap x ox C od)(H:findIn K (.ref C) "__getattribute__"=δ (δ$ .builtin "BaseException.__getattribute__"))(a:findIn K (.ref C) "__getattr__"=δ ζ)
  (b:mroIn K C (.type "BaseException")=δ ν)
  (h:ξ (υ prog w) A.in1 (eK.«object.__getattribute__» #[[.ref x,.str name T],[]]) (λf S=>match f with | .done (.ret v)=>ξ (υ prog w) A (handedOut v) Q E S |_=>False) (λ_ _=>False) s):
  ξ (υ prog w) A (getAttrBy (.ref x) (.str name T) fill e) Q E s:=by
 let⟨i,g,d,t,os⟩:=s;let L:=I.type (M:=υ prog w);let l:=Si (M:=υ prog w) X H;let _L:=Si (M:=υ prog w) X a;unfold getAttrBy;erw[MW$ Ms$ L.at$ Ms$ l.at ?_];show ξ _ _ (getAttrByItsOwn _ _ _ _ _ _) _ _ _;unfold getAttrByItsOwn;erw[Ms (show ξ _ _ (typeLookup (.ref C) "__getattr__") _ _ _ from _L.at ?_)];erw[Ms$ N9$ MW ?_];let c:callGetattribute (.ref x) (.str name T) (.builtin "BaseException.__getattribute__") e=boundAndCalled (.builtin "BaseException.__getattribute__") (.ref x) (.str name T):=by cases e<;>rfl
 rw[c];unfold boundAndCalled;rw[PySem.F.excAttr_ValueError.ga.bind];erw[Ms$ Mu$ O1$ CY X I b$ Ny h (λf S z=>?_) λ_ _ z=>z.elim];rcases f with (_ |_ |_ |_) |_<;>first |exact z |exact z.elim
def yg{Q:η->θ->Prop}(X:K.In s.heap)(I:InstAt s.heap x ox C od)(H:findIn K (.ref C) "__getattribute__"=δ (δ$ .builtin "BaseException.__getattribute__"))(a:findIn K (.ref C) "__getattr__"=δ ζ)
  (b:mroIn K C (.type "BaseException")=δ ν) (c:findObj K C od name=δ (.value v)) (f:handedIn v=ν) (h:Q v { s with toks:=s.toks+1 }):ξ (υ prog w) A (getAttr (.ref x) name e) Q E s:=by
 unfold getAttr;erw[Ms$ wpAny_mkText$ sS (s:={ s with toks:=s.toks+1 }) X I H a b ?_];let⟨i,g,d,t,os⟩:=s;let L:=I.type (M:=υ prog w);let l:=looks_find (M:=υ prog w) X I c;erw[Ms$ Mu$ Ms$ Mu$ Ms$ L.at$ Ms$ l.at ?_];erw[Mu ?_];show ξ _ _ (handedOut v) _ _ _;rw[handedOut_of f];exact Mu h
def pO{Q:Option η->θ->Prop}(X:K.In s.heap)(I:InstAt s.heap x ox C od)(H:findIn K (.ref C) "__getattribute__"=δ (δ$ .builtin "BaseException.__getattribute__"))(a:findIn K (.ref C) "__getattr__"=δ ζ)
  (b:mroIn K C (.type "BaseException")=δ ν) (c:findObj K C od "__class__"=δ (.bind (.builtin "getset_descriptor.__get__")$ .builtin "object.__class__")) (e:mroIn K C (.type "object")=δ ν) (h:Q (↑C) { s with toks:=s.toks+1 }):
  ξ (υ prog w) A (getAttr? (.ref x) "__class__") Q E s:=by
 unfold getAttr? getAttrBy?;erw[Ms$ wpAny_mkText$ Ms$ N9$ sS (s:={ s with toks:=s.toks+1 }) X I H a b ?_];let⟨f,g,d,t,os⟩:=s;let L:=I.type (M:=υ prog w);let l:=looks_find (M:=υ prog w) X I c;erw[Ms$ Mu$ Ms$ Mu$ Ms$ L.at$ Ms$ l.at ?_];show ξ _ _ (bindTo _ _ _ _) _ _ _;unfold bindTo;erw[Ms$ MW$ O1$ class_get (ox:=ox) (od:=od) X I e ?_];erw[Mu ?_];exact handed_on Z$ Mu h
def Yq(h:(clsIn K C).isSome=ν)(H:findIn K (.ref C) name=δ (δ a))(b:specialIn K a "__get__"=δ (δ g))(c:takesIn K a=δ ν):findObj K C od name=δ (.bind g a):=by let⟨d,h⟩:=kz.mp h;unfold findObj;rw[h,TR,H,TR];simp [b,c]
structure ie(K:Ω)(C:ε):Prop where
 ga:findIn K (.ref C) "__getattribute__"=δ (δ$ .builtin "BaseException.__getattribute__")
 gh:findIn K (.ref C) "__getattr__"=δ ζ
 sa:findIn K (.ref C) "__setattr__"=δ (δ$ .builtin "object.__setattr__")
 cl:findIn K (.ref C) "__class__"=δ (δ$ .builtin "object.__class__")
 gt:specialIn K (.builtin "object.__class__") "__get__"=δ (δ$ .builtin "getset_descriptor.__get__")
 tk:takesIn K (.builtin "object.__class__")=δ ν
 mb:mroIn K C (.type "BaseException")=δ ν
 mo:mroIn K C (.type "object")=δ ν
 hd:hasDictIn K C=ν
def ug(c:ie K C):KitX K (.ref x) (.ref C) (λh=>∃ox od,InstAt h x ox C od) where
 ty:=λ_ _ _ #[_,_,I]=>I.type
 it:=λ_ _ X _=>by
  let⟨a,H,_⟩:=VG c.hd;unfold clsIn at H;split at H
  .rename_i g D b S d
   intro l Q m o k q;unfold isType loadHead;exact Ms$ PH (k _ _$ X _ _ d)$ Mu q
  .cases H
 ne:=λh t p i n r X f=>by
  let⟨a,H,_⟩:=VG c.hd;erw[kc.mpr λq=>?_];let e:C=t:=ω.inj (beq_iff_eq.mp q);subst e;unfold clsIn at H;split at H
  .rename_i g D b S d
   let z:=(X _ _ d).symm.trans f;cases z
  .cases H
 ca:=λX #[_,_,I] k=>pO X I c.ga c.gh c.mb (Yq (by let⟨u,j,_⟩:=VG c.hd;rw[j];rfl) c.cl c.gt c.tk) c.mo k
abbrev dG:List η:=[.type "ValueError",.type "Exception",.type "BaseException",.type "object"]
def gE:List η->Bool
 | .ref _::r=>gE r
 |l=>l==dG
theorem J5(S:η):∀{l:List η},gE l=ν->refuseLoop S "__setattr__" l=pure ()
 | .ref c::r,e=>by rw[VC];exact J5 S (l:=r) e
 | [],e=>by cases (show dG=[] from (beq_iff_eq.mp e).symm)
 | .none::r,e=>by rw[show β::r=dG from beq_iff_eq.mp e];exact (kw).passes S
 | .bool b::r,e=>by rw[show ra b::r=dG from beq_iff_eq.mp e];exact (kw).passes S
 | .type b::r,e=>by rw[show gb b::r=dG from beq_iff_eq.mp e];exact (kw).passes S
 |v::r,e=>by
  cases v with
  |ref c=>rw[VC];exact J5 S (l:=r) e
  |_=>rw[show _=dG from beq_iff_eq.mp e];exact (kw).passes S
def rN{R:Result->θ->Prop}(X:K.In s.heap)(I:InstAt s.heap x ox C od)(H:clsIn K C=δ c)(g:gE c.mro=ν)(m:mroIn K C (.type "object")=δ ν)(i:findIn K (.ref C) name=δ ζ)
  (h:ξ (υ prog w) A.in1 (storeInOwnDict (.ref x) (.ref C) (.str name t) name v μ)
   (λb a=>match b with | .done f=>R (.ok f) a | .again d=>d.quiet=ν/\fv (υ prog w) A d R a) (λe a=>R (.error e) a) s):
  fv (υ prog w) A (.call (.builtin "object.__setattr__") #[[.ref x,.str name t,v],[]]) R s:=by
 let S:=PySem.F.store_object;let sub:Looks (υ prog w) s.heap (isInstance (.ref x)$ .type "object") ν:=I.type.andThen (RJ X m);erw[RM S.slot.plain S.entry$ @UQ (υ prog w) _ _ s "object.__setattr__" "object" "__setattr__" (.ref x) [.str name t,v] [] _ S.kind S.split sub (S.args (.ref x) (.str name t) v) ?_];let j:Looks (υ prog w) s.heap (mroOf$ .ref C) c.mro:=(looks_clsIn X H).andThen .now;let L:Looks (υ prog w) s.heap (storeTaker? ζ) ζ:=.now;rw[osa_eq,refuse_eq];erw[Ms$ Ms$ I.type.here$ Ms$ j.here ?_];rw[J5 _ g];erw[Mu$ Ms$ I.type.here$ Ms ((Si X i).here$ Ms$ L.here ?_)];exact h
def AE{Q : Unit -> θ -> Prop}(X : K.In s.heap)(l : s.heap.get? x = δ ox)(j : ox.cls = .ref C)(P : notCls ox = ν)(k : ox.dict = ζ)(R : clsIn K C = δ T)(n : T.hasDict = ν)(V : gE T.mro = ν)
    (W : mroIn K C (.type "object") = δ ν) (u : findIn K (.ref C) "__setattr__" = δ (δ$ .builtin "object.__setattr__")) (Y : findIn K (.ref C) name = δ ζ)
    (h : ∀ m tk, m.get? x = δ { ox with dict := δ s.heap.objs.size } -> m.Ns1 s.heap.objs.size (λy => if y = name then δ v else ζ) -> (∀ b o, b ≠ x -> s.heap.get? b = δ o -> m.get? b = δ o) -> Q () { s with heap := m, toks := tk }) :
    ξ (υ prog w) A (setAttr (.ref x) name v) Q E s := by
  let I : InstAt s.heap x ox C ζ := #[l, j, P, by rw [k]; trivial];erw[set_plain X I u$ rN (s := { s with toks := s.toks + 1 }) X I R V W Y ?_];obtain ⟨H, g, d, t, os⟩ := s;obtain ⟨oc, o1, O, z⟩ := ox;dsimp only at j k h l;subst j k;unfold storeInOwnDict ownDictForStores;erw[Ms$ Mu$ Ms$ Ms$ PH l$ Ms$ Sj (s := #[H, g, d, t + 1, os]) (looks_clsIn X R) ?_];rw [n];let i : (H.push { cls := .type "dict", data := .dict (ι []) }).get? x = δ #[.ref C, ζ, O, z] := Mt _ l;let p : x ≠ H.objs.size := MG (My l);let B := (Heap.get?_some_iff.mp l).2;let D : ((H.push { cls := .type "dict", data := .dict (ι []) }).update x λo => { cls := o.cls, dict := δ H.objs.size, data := o.data, slots := o.slots }).get? H.objs.size
      = δ { cls := .type "dict", data := .dict (ι []) } :=
    (TQ _ _ _ _ p.symm).trans (Heap.get?_push_at Z Z)
  let G : ((H.push { cls := .type "dict", data := .dict (ι []) }).update x λo => { cls := o.cls, dict := δ H.objs.size, data := o.data, slots := o.slots }).Ns H.objs.size (λ_ => ζ) :=
    #[_, (ι []), _, D, Z,λe he => absurd he LM,λ_ => Z]
  let F : ξ (υ prog w) A.in1 (do
        let d <- alloc { cls := .type "dict", data := .dict (ι []) }
        update x λo => { o with dict := δ d }
        dictMade (.ref C) x d)
      (λa S => ξ (υ prog w) A.in1 (match a with
            | some J => storeInDict J (mu name t) name v
            | none => noDictFor (ω x) (ω C) name μ)
          (λF S => match F with
              | .done f => (match (Except.ok f : Result) with | .ok (.ret _) => Q () S | .ok _ => False | .error e => E e S)
              | .again U => U.quiet = ν /\ fv (υ prog w) A U (λr S => match r with | .ok (.ret _) => Q () S | .ok _ => False | .error e => E e S) S)
          (λe S => E e S) S) (λe S => E e S) #[H, g, d, t + 1, os] := by
    erw[Ms$ wpAny_alloc' ?_];erw[Ms$ wpAny_update' i ?_];erw[Mu ?_];show ξ _ _ (storeInDict H.objs.size (.str name t) name v) _ _ _;unfold storeInDict newKeyGuard;erw[Ms$ Mu$ Ms$ wpAny_nsSet1 (Tx G) λm q u => ?_];obtain ⟨oD, e0, e1, L, M, N⟩ := q.count (Within.cons name v Within.nil);erw[Ms$ U3 L (by rw [M]; exact U4$ MT N (by rw [MZ, OT, O3]; omega)) ?_];erw[Mu ?_];erw[h m _ ((u.2 x p).trans$ M8 _ i ?_) q λb o hb e => ?_]
    · cases O <;> first | rfl | exact B
    · exact (u.2 b$ MG$ My e).trans ((TQ _ _ _ _ hb).trans$ Mt _ e)
  cases O with
  | cls c => exact absurd P (by simp [notCls])
  | _ => exact F
end
section
open PySem.W PySem.Calls
variable {prog:ψ}{w:bU}{A:cJ}{E:η->θ->Prop}{R:Result->θ->Prop}{K:Ω}{h:ef}{g:Array GenState}{d:Drawn}{t:Nat}{os:OsState}{C B:ε}
structure HP(K:Ω)(C:ε):Prop where
 obj:∃nm q N bs bm hdct sn sub ab col dd k0 k1 k2 k3 k5,K.lookup C=δ (excClassObj nm q C N bs bm hdct sn sub ab col dd k0 k1 k2 k3 k5 "ValueError.__new__")/\tailIn K dG bm=ν
 call:specialIn K (.ref C) "__call__"=δ (δ$ .builtin "type.__call__")
 typ:instIn K (.ref C) (.type "type")=δ ν
 kp:fx K (.ref C)=ν
def Xa(q:excIn K C dG "ValueError.__new__"=ν):(∃p q N r f a s sub u c D k i j m o,K.lookup C=δ (excClassObj p q C N r f a s sub u c D k i j m o "ValueError.__new__")/\tailIn K dG f=ν/\nsOkIn K N=ν/\nsIn K N "__init__"=δ ζ):=by
 unfold excIn at q;split at q
 .rename_i D z S F
  split at q
  .rename_i O f k i j m n o x y
   simp only[NE,beq_iff_eq,Ud]at q;obtain⟨⟨⟨⟨⟨rfl,rfl⟩,H⟩,G⟩,b⟩,e⟩:=q;let⟨p,r,M,I,Q,J,s,sub,u,c,L⟩:=z;dsimp only at x H b e;subst x H;let v:S=(ι [k,i,j,m,δ$ .builtin "ValueError.__new__",o]):=by let⟨l⟩:=S;simp only at y;rw[y]
   subst v;exact#[p,Q,I,r,f,J,s,sub,u,c,D,k,i,j,m,o,F,G,b,e]
  .cases q
 .cases q
abbrev gj(r:List η):gm:={ cls:=.type "tuple",data:=.seq r.toArray }
abbrev eQ(C t:ε):gm:={ cls:=.ref C,data:=.fields (ι [.ref t,.none,.none,.none,.bool μ,.none]) }
def ur{c:List η}{f:ε}(X:K.In h)(M:HP K C)(s:findIn K (.ref C) "__init__"=δ (↑f))(u:typeIn K (.ref f)=δ (.type "function"))(H:c.length<=τ)
  (x:fv (υ prog w) (A.under$ .builtin "type.__call__" #[.ref C::c,[]]) (.call (.ref f) #[.ref (h.objs.size+1)::c,[]]) (InitBack (h.objs.size+1) R) #[(h.push$ gj c).push$ eQ C h.objs.size,g,d,t,os]):
  fv (υ prog w) A (.call (.ref C) #[c,[]]) R #[h,g,d,t,os]:=by
 let⟨O,q,N,P,y,p,S,sub,Q,D,U,V,W,Y,k3,k5,G,I⟩:=M.obj;let j:=X _ _ G;let T:=tail_of_in X I;let F:=RY;let call:=looks_specialIn (M:=υ prog w) X M.call;let m:=looks_instIn (M:=υ prog w) X M.typ;erw[Rx ?_];show ξ _ _ (callAny (.ref C) _) _ _ _;erw[nd_load j ?_];show ξ _ _ (callAny.viaDunder (.ref C) _) _ _ _;unfold callAny.viaDunder;erw[Ms$ call.at ?_];dsimp only;rw[tc_bind];erw[Ms$ Mu$ Ms$ Mu ?_];erw[Mu (a:=Fin.again (.call (.builtin "type.__call__") #[.ref C::c,[]]))$ And.intro Z ?_];erw[codeAny_call_builtin_at (RF _ LL) entry_typeCall$ UQ tc_kind tc_split m (tc_args _ _ _) ?_];unfold eK.«type.__call__»;repeat (first |with_reducible refine UW j ?_ |with_reducible refine wpAny_madeBy_exc j ?_ |wp_step)
 erw[codeAny_call_builtin_code (RF _ F.quiet)$ wpAny_check_new_subT F T j ?_];erw[codeAny_exc_new_subT F T j ?_ H];show ξ _ _ _ _ _ _;let k:∀b o,h.get? b=δ o->((h.push$ gj c).push$ eQ C h.objs.size).get? b=δ o:=λb o e=>Mt _ (Mt _ e);let i:=k _ _ j;let l:((h.push$ gj c).push$ eQ C h.objs.size).get? (h.objs.size+1)=δ (eQ C h.objs.size):=by heap_get
 let n:(ω C::y).contains (.ref C)=ν:=by simp
 let J:=(Si (M:=υ prog w) X s).keeps k;let L:=(bind_fn (M:=υ prog w) X (.ref$ h.objs.size+1) u).keeps k;unfold isInstance;repeat (first |with_reducible refine UW l ?_ | (with_reducible erw[wpAny_isSubtype_exc i ?_];rw[n]) |wp_step)
 show ξ _ _ (typeLookup (.ref C) _) _ _ _;erw[J.at ?_];erw[MW$ Ms$ L.at ?_];erw[Ms$ O1$ Oa x λr s' z=>?_];rcases r with e | (v |_ |_ |_)<;>first |exact z |exact z.elim |skip
 let⟨rfl,z⟩:=z;wp_walk;exact z
end
def aO.obj{P:ψ}{a:ε}(x:aO P w H h a o):∃u,h.get? a=δ u:=by
 cases o with
 |lst X=>let⟨_,_,_,_,e⟩:=x;exact#[_,e]
 |tup X=>let⟨_,_,_,o,e,_⟩:=x;exact#[_,e]
 |dK k |dT k=>let⟨_,_,_,_,o,_,_,e,_⟩:=x;exact#[_,e]
 |set S n=>let⟨o,_,_,_,e,_⟩:=x;exact#[_,e]
 |ins C d F=>let⟨_,_,_,e,_⟩:=x;exact#[_,e]
 |own y=>let⟨_,e⟩:=x;exact#[_,e]
 |xd F=>obtain⟨_,⟨_,_,_,e,_⟩,_⟩:=x;exact#[_,e]
 |rng lo b=>let⟨_,_,_,e⟩:=x;exact#[_,e]
 |frz O u=>let⟨e,_⟩:=x;exact#[_,e]
 |tbl p |met f y=>exact#[_,(show h.get? a=δ _ from x)]
 |ext c=>obtain⟨_,⟨_,e⟩,_⟩:=x;exact#[_,e]
def ap.laidN{X:Cx}{h':ef}{a:ε}{o:HO}{t':Nat}(I:ap X p g H s)(k:∀b u,s.heap.get? b=δ u->h'.get? b=δ u)(d:s.heap.get? a=ζ)(N:aO X.prog X.w (upd H a o) h' a o):
  H a=ζ/\ap X p g (upd H a o) { s with heap:=h',toks:=t' }:=by
 let i:∀b u,s.heap.get? b=δ u->b≠a:=λb u q z=>by rw[z,d]at q;cases q
 let h:H a=ζ:=by
  cases q:H a with
  |none=>rfl
  |some u=>let⟨U,e⟩:=(I.hok a u q).obj;rw[d]at e;cases e
 erw[#[h,I.un ?_ ?_]]
 .exact { keep:=λb u q _ _ _=>k b u q,slot:=λb u q _ _ _=>#[u.slots,k b u q],free:=λb u q n _=>by rw[ji$ i b u q];exact n,there:=λb u q _=>#[u,k b u q],tups:=λb x q=>by rw[ji$ jk q h];exact q,frzs:=λb u x q=>by rw[ji$ jk q h];exact q,tbls:=λb P q=>#[(ι []),by rw[ji$ jk q h,q];simp] }
 .intro b u e;by_cases f:b=a
  .subst f;rw[jc]at e;cases e;exact N
  .rw[ji f]at e;exact(I.hok b u e).stay (λc v _ q=>k c v q) (λc q=>by rw[ji$ jk q h];exact q) λc x q=>by rw[ji$ jk q h];exact q
def hZ(C:ε)(d:Option ε)(x:ε):HO:=.ext λh=>∃o,h.get? x=δ o/\o.cls= .ref C/\notCls o=ν/\o.dict=d/\∃v,o.data= .fields v/\v[1]?=δ .none/\v[2]?=δ .none
def YF{P:ψ}{h:ef}(e:h.get? x=δ o)(a:o.cls= .ref C)(b:notCls o=ν)(c:o.dict=d)(f:∃v,o.data= .fields v/\v[1]?=δ .none/\v[2]?=δ .none):aO P w H h x (hZ C d x):=
 #[#[o,e,a,b,c,f],#[o,e],λg i #[O,E,q] k=>#[O,k O E,q]]
section
variable {X:Cx}{pins:List (ε×gm)}{σ:St}{H:Hp}{s:θ}{a C:ε}{fs:List (π×V)}{f:π}{v:V}{A:cJ}{E:η->θ->Prop}
def AD{Q:Unit->θ->Prop}(I:ap X pins σ H s)(e:H a=δ (hZ C ζ a))(c:ie X.K C)(n:aW X.K C f)(m:clsIn X.K C=δ i)(b:i.hasDict=ν)(p:gE i.mro=ν)(r:aC y u)
  (h:∀d S,H d=ζ->ap X pins σ (upd (upd H a$ hZ C (δ d) a) d$ .xd [(f,y)]) S->Q () S):ξ (υ X.prog X.w) A (setAttr (.ref a) f u) Q E s:=by
 obtain⟨⟨o,j,k,l,t,z⟩,_⟩:=I.hok a _ e;erw[AE I.kIn j k l t m b p c.mo c.sa n λB T G D g3=>h s.heap.objs.size _ (I.hok.fresh$ Mx _) ?_];let N:s.heap.objs.size≠a:=MU (MG$ My j);let F:ap X pins σ (upd H a$ hZ C (δ s.heap.objs.size) a) { s with heap:=B,toks:=T }:=
  I.write (x:=a) (e:=a) (by rw[e];exact True.intro) (.inl Z) g3 #[_,G] (YF G k l Z z)
 let J:upd H a (hZ C (δ s.heap.objs.size) a) s.heap.objs.size=ζ:=by rw[ji N];exact I.hok.fresh$ Mx _
 erw[F.track (I.fpOk (Mx _) J) I.sz #[_,D,λg=>?_]];show dw (fz g [(f,y)]) (if g=f then δ u else ζ);by_cases q:g=f
 .subst q;simp [dw,r]
 .rw[MS q];let:(g==f)=μ:=by simpa using q
  simp [fz,this,dw]
end
inductive vE(K:Ω)(f:π)(D:a6)(d:St)(y x:V)(b:Hp):Prop
 |mk(a C c:_)(_:x= .ref a)(_:b a=δ (hZ C ζ a))(_:ie K C)(_:aW K C f)(_:clsIn K C=δ c)(_:c.hasDict=ν)(_:gE c.mro=ν)(_:∀dx,b dx=ζ->D.nx d (upd (upd b a (hZ C (δ dx) a)) dx (.xd [(f,y)])))
def GU(K:Ω)(t T:TE)(f:π):TS:=λD a H=>T a H λy h=>t a h (vE K f D a y)
def Et(C:ε)(s:Sp)(E:XK)(t:TA):TE:=λa H Q=>t a H λV h=>V.length<=1000/\∀x,h x=ζ->s (.ref x::V) (upd h x$ hZ C ζ x) (λv b=>v= .non/\Q (.ref x) b) E
def AW(C:ε):TE:=λa H Q=>∀x,H x=ζ->Q (.ref x) (upd H x$ hZ C ζ x)
section
variable {X:Cx}{CX:nF}{k:Nat}{f C:ε}{fd:Φ}{ps:List π}{sp:Sp}{E:XK}{x m g:π}{p pos pos':Pos}{e o value:dr}{es:List dr}{ta tv:TE}{t:TA}
def ZE(j:PE X o ta)(b:PE X value tv)(l:swapsWith value (δ$ .Attribute o g pos') pos.line X.env=pure μ):PS X (.Assign [.Attribute o g pos'] value pos) (GU X.K ta tv g):=by intro P s d H D I h;erw[So (aL (b P s d H _ I h) λu S #[y,r,v,R,q]=>aL (j P S d r _ v q) λO N i=>?_) l];let⟨x,T,w,z,a,C,U,A,B,c,n,F,G,b,Q⟩:=i;subst A;obtain rfl:O=ω a:=z;exact AD w B c n F G b R λJ V L M=>#[d,_,M,Q J L]
def ap.madeX{us:List η}(I:ap X c d H s):ap X c d (upd H (s.heap.objs.size+1)$ hZ C ζ$ s.heap.objs.size+1)
  { s with heap:=(s.heap.push$ gj us).push (eQ C s.heap.objs.size) }:=by
 let i:=I.kept (h':=s.heap.push (gj us)) (t':=s.toks) (λb u q=>Mt _ q);let h:((s.heap.push$ gj us).push$ eQ C s.heap.objs.size).get? (s.heap.objs.size+1)=δ (eQ C s.heap.objs.size):=by let:=MD (s.heap.push$ gj us) (o:=eQ C s.heap.objs.size) Z;rwa [Nc]at this
 exact i.laid (a:=s.heap.objs.size+1) (t':=s.toks) (λb u q=>Mt _ q) (Rh$ Nc _ _)$ YF h Z Z Z #[_,Z,Z,Z]
def rW(M:HP X.K C)(B:findIn X.K (.ref C) "__init__"=δ (↑f))(D:isFn X.K (.ref f)=ν)
  (F:ai X.prog X.w X.K X.mg X.base CX k f fd ps sp) (G:ba (k+1) X.A) (J:au X.K fd ps []) (L:c7 CX X E) (I:ap X b y H s) (r:aw l us) (hl:l.length<=1000)
  (h:∀x,H x=ζ->sp (.ref x::l) (upd H x$ hZ C ζ x) (λv N=>v= .non/\Q (.ref x) N) E):
  ξ (υ X.prog X.w) X.A (call (.ref C) us) (EP X b y Q) X.xe s:=by
 let z:=h (s.heap.objs.size+1) (I.hok.fresh$ NM _);let j:=ap.madeX (C:=C) (us:=us) I;let R:aw (vr (s.heap.objs.size+1)::l) (ω (s.heap.objs.size+1)::us):=.cons Z r;let n:(ω (s.heap.objs.size+1)::us).length=ps.length:=by let e:=R.length;rw[F.len _ _ _ _ z]at e;exact e.symm
 let c:((ω (s.heap.objs.size+1)::us)++[]).length=ps.length:=by rw[Rk];exact n
 let i:=J _ (ω (s.heap.objs.size+1)::us) j.kIn c;rw[Rk]at i;let⟨q,g,d,tk,os⟩:=s;refine O1 (ur (f:=f) I.kIn M B (beq_iff_eq.mp D) (by rw[<- r.length,O3];omega) (Oa (F.run _ X.stack _ _ #[ω (q.objs.size+1)::us,[]] (ω (q.objs.size+1)::us) _ _ E (G.make C us [])
  (j.env0.make C us []) i R z) λr S a=>?_))
 cases r with
 |error e=>exact L b y _ _ e S j a
 |ok O=>
  cases O with
  |ret u=>let⟨v,P,T,U,W,Y⟩:=j.after a;subst W;exact#[U,#[vr$ q.objs.size+1,P,T,Z,Y]]
  |next |brk |cont=>exact False.elim a
def X7(M:HP X.K C)(c:findIn X.K (.ref C) "__init__"=δ (↑f))(d:isFn X.K (.ref f)=ν)(F:ai X.prog X.w X.K X.mg X.base CX k f fd ps sp)(j:ba (k+1) X.A)(l:Gl X x)(n:X.mg x=↑C)(u:au X.K fd ps [])(v:c7 CX X E)
  (y:PA X (e::es) t) (a:↥((x==("__debug__":π))=μ)) (z:↥(Θ (e::es) X.env=(μ,eval e X.env)::Θ es X.env)) (b:↥((eT pos$ Θ es X.env).any (·.1)=μ)):
  PE X (.Call (.Name x p) (e::es) [] pos) (Et C sp E t):=by
 intro P s B H Q I h;erw[No$ zK I l n ?_ a];erw[PL (h₀:=X.base) I.ok.mod.kin M.kp (aL (y pos P s B H _ I h) λU S #[V,G,i,r,D,q]=>#[i.kIn,?_]) z b];exact rW M c d F j u v i r D q
def Xb(M:excIn X.K C dG "ValueError.__new__"=ν)(l:fx X.K (.ref C)=ν)(n:Gl X x)(r:X.mg x=↑C)(c:↥((x==("__debug__":π))=μ)):
  PE X (.Call (.Name x p) [] [] pos) (AW C):=by
 intro P s D H Q I h;erw[No$ zK I n r ?_ c];erw[Tf I.kIn l ?_];let⟨F,q,N,G,J,j,S,sub,L,u,O,R,U,V,Y,k5,v,w,b,i⟩:=Xa M;let y:=I.kIn _ _ v;let⟨hp,g,d,T,os⟩:=s;erw[wpAny_call_exc_subT RY (PySem.W.tail_of_in I.kIn w) y (.of_isNs$ PySem.W.isNs_of_in I.kIn b) (PySem.W.nsMap_none_of_in I.kIn b i) (λh' e m=>?_)$ MH _];let⟨t,z,_,_⟩:=m.there;let⟨A,B⟩:=I.laidN (a:=e) (h':=h') (o:=hZ C ζ e) (t':=T) m.keeps m.new (YF z Z Z Z #[_,Z,Z,Z]);exact#[.ref e,_,B,Z,h e A]
end
end _L
namespace _L
open PySem PySem.Spec PyProof.Rows PySem.SeqAt
section
variable {X:Cx}
def X8(h:cj x=ν):lr x x=ν:=by
 cases x with
 |non=>rfl
 |bl b |int b |str b=>simp [lr]
 |_=>exact absurd h (by simp [cj])
def DF(k:X.A.units < cLine):gg X (compareOp .Eq) (λx y H Q=>∃a b c,x= .ref a/\y= .ref b/\aF X.K H a c/\aF X.K H b c/\c.all cj=ν/\Q (.bl ν) H):=by
 intro p s M H x y v u Q I l m h;let⟨a,b,c,rfl,rfl,n,o,t,q⟩:=h;cases l;cases m;let⟨i,r,P,_⟩:=I.list n;let⟨w,R,z,_⟩:=I.list o;let N:=r.length;let O:=R.length;erw[eq_listAt (e:=λ_=>ν) P.isList z.isList (by simp;omega) k (λj B S=>?_) ?_]
 .let d:j < c.length:=by simp at B;omega
  let g:c[j]?=δ c[j]:=Mw d;let⟨U,C,D⟩:=r.get g;let⟨E,F,G⟩:=R.get g;let f:=ov.mp t _ (N4 d);let J:i.toArray[j]=U:=by let:=χ.mp C;let⟨_,e⟩:=this;simpa using e
  let L:w.toArray[j]=E:=by let:=χ.mp F;let⟨_,e⟩:=this;simpa using e
  rw[J,L,<- X8 f];exact Xq D G f f
 .let e:((kr i.toArray.size).all λ_=>ν)=ν:=by simp
  rw[e];exact#[.bl ν,H,I,Z,q]
def DH(k:X.A.units < cLine):gg X (compareOp .NotEq) (λx y H Q=>∃a b c,x= .ref a/\y= .ref b/\aF X.K H a c/\aF X.K H b c/\c.all cj=ν/\Q (.bl μ) H):=by
 intro p s N H x y v u Q I l m h;let⟨a,b,c,rfl,rfl,n,o,t,q⟩:=h;cases l;cases m;let⟨i,r,P,_⟩:=I.list n;let⟨z,R,B,_⟩:=I.list o;let O:=r.length;let S:=R.length;erw[RcNeAt.lists (e:=λ_=>ν) P.isList B.isList (by simp;omega) k (λj C T=>?_) X.prog X.w _ _ ?_]
 .let d:j < c.length:=by simp at C;omega
  let g:c[j]?=δ c[j]:=Mw d;let⟨U,D,E⟩:=r.get g;let⟨F,G,J⟩:=R.get g;let f:=ov.mp t _ (N4 d);let L:i.toArray[j]=U:=by let:=χ.mp D;let⟨_,e⟩:=this;simpa using e
  let M:z.toArray[j]=F:=by let:=χ.mp G;let⟨_,e⟩:=this;simpa using e
  rw[L,M,<- X8 f];exact Xq E J f f
 .let e:((kr i.toArray.size).all λ_=>ν)=ν:=by simp
  rw[e];exact#[.bl μ,H,I,Z,q]
end
end _L
namespace _L
open PySem PySem.Spec PyProof.Rows
section
variable {M:Model}{A:cJ}{E:η->θ->Prop}{s:θ}
structure di(fl:η)(iB:List ε)(x:ε)(ox:gm)(h h':ef):Prop where
 ex:∃T oT ts,h.objs.size<=T/\h'.get? x=δ (fJ (·.setIfInBounds 1 (.ref T)) ox)/\h'.get? T=δ oT/\oT.data= .fields ts/\ts[3]?=δ fl
 keep:∀b o,b∉iB->b≠x->h.get? b=δ o->h'.get? b=δ o
 slot:∀b o,b≠x->h.get? b=δ o->∃sl,h'.get? b=δ { o with slots:=sl }
def Xc{Q:Unit->θ->Prop}
  (t:A.frames=δ (d::O)) (F:s.heap.FunFrames G (d::O)) (N:d.frame=δ L)
  (I:s.heap.get? x=δ u) (v:u.data= .fields J) (w:1 < J.size)
  (h:∀K,di (rawInt L) ((d::O).filterMap (·.frame)) x u s.heap K->Q () { s with heap:=K }):
  ξ M A (do let a <- frameOf d;let p <- entryPlaceOf L q;let b <- EntryCells.newEntry f a .none (rawInt L) .none p;setField (.ref x) 1 b) Q E s:=by
 let y:x∉(d::O).filterMap (·.frame):=λP=>by let⟨_,o,r,z⟩:=F.mem P;rw[I]at r;injection r with r;subst r;exact z J v
 erw[Ms$ wpAny_frameOf_fun t F N λH c=>?_];erw[Ms$ wpAny_entryPlaceOf λp B=>?_];unfold EntryCells.newEntry newFields;erw[Ms$ Na ?_$ B.sizeOk5 _ _ _ _ _];let g:H.get? x=δ u:=(c.2.1 x y).trans I;let i:=Mt (h:=H) { cls:=.type "traceback",dict:=ζ,data:=.fields ([f,.ref L,.none,rawInt L,.none]++(if p.isEmpty then ks 6 β else p)).toArray } g;erw[Nj i v w$ h _ ?_];let C:H.objs.size≠x:=Nz (My g);let j:=M9 v (·.setIfInBounds 1 (ω H.objs.size));let l:=M8 (fJ (·.setIfInBounds 1 (ω H.objs.size))) i (NH j);let k:∀b o,b≠x->H.get? b=δ o->((H.push { cls:=.type "traceback",dict:=ζ,data:=.fields ([f,.ref L,.none,rawInt L,.none]++(if p.isEmpty then ks 6 β else p)).toArray }).update x$ fJ (·.setIfInBounds 1 (ω H.objs.size))).get? b=δ o:=λb o D e=>by rw[MP _ _$ MU D];exact Mt _ e
 let m:=(MP (H.push { cls:=.type "traceback",dict:=ζ,data:=.fields ([f,.ref L,.none,rawInt L,.none]++(if p.isEmpty then ks 6 β else p)).toArray })
  (fJ (·.setIfInBounds 1 (ω H.objs.size))) (MU C)).trans (MD H Z)
 erw[#[#[H.objs.size,_,_,Rh c.1.symm,l,m,Z,LM],λb o D n e=>k b o n ((c.2.1 b D).trans e),λb o n e=>?_]];let⟨S,R⟩:=c.2.2 b o e;exact#[S,k b _ n R]
def YX{Q:Unit->θ->Prop}
  (H:A.frames=δ (e::o)) (i:s.heap.FunFrames b (e::o)) (a:e.frame=δ L)
  (c:s.heap.get? x=δ O) (d:O.data= .fields v) (f:v[1]?=δ .none)
  (h:∀g,di (rawInt L) ((e::o).filterMap (·.frame)) x O s.heap g->Q () { s with heap:=g }):
  ξ M A (noteFrame (.ref x) e) Q E s:=by
 unfold noteFrame;simp only[a];erw[Ms$ M3 c d f ?_];rw[MS LO];exact Xc H i a c d (bF.mp f).1 h
def Db{iB:List ε}{Q:Unit->θ->Prop}(N:di C iB x O H s.heap)(j:H.get? x=δ O)(v:O.data= .fields w)(k:1 < w.size)
  (h:∀p,di .none iB x O H p->Q () { s with heap:=p }):ξ M A (setFlight (.ref x) ζ) Q E s:=by
 let⟨T,D,F,c,r,t,g,y⟩:=N.ex;let l:=M9 v (·.setIfInBounds 1 (ω T));let m:T≠x:=λz=>absurd (MN (My j) (by rw[<- z];exact c)) (Nk _);unfold setFlight;erw[Ms$ M3 r l (x:=.ref T) (by simp [k]) ?_];rw[MQ (show(ω T != β)=ν from by simp)];let i:=(bF.mp y).1;erw[Nj t g i$ h _ ?_];let a:=M9 g (·.setIfInBounds 3 ((ζ:Option ε).elim β λf=>rawInt f));let n:=M8 (fJ (·.setIfInBounds 3 ((ζ:Option ε).elim β λf=>rawInt f))) t (NH a);let u:∀b o,H.get? b=δ o->T≠b:=λb o e z=>absurd (MN (My e) (by rw[<- z];exact c)) (Nk _);erw[#[#[T,_,_,c,by rw[MP _ _ m];exact r,n,a,by simp [i]],λb o B d e=>?_,λb o d e=>?_]]
 .rw[MP _ _$ u b o e];exact N.keep b o B d e
 .let⟨S,q⟩:=N.slot b o d e;exact#[S,by rw[MP _ _$ u b o e];exact q]
def Yr{base:ef}{Q:Unit->θ->Prop}
  (a:A.frames=δ (e::o)) (f:s.heap.FunFrames base (e::o)) (g:e.frame=δ L)
  (b:s.heap.get? x=δ O) (c:O.data= .fields v) (d:v[1]?=δ .none)
  (h:∀H,di .none ((e::o).filterMap (·.frame)) x O s.heap H->Q () { s with heap:=H }):
  ξ M A (leaving e$ .ref x) Q E s:=by
 unfold leaving;exact Ms$ YX a f g b c d λH N=>Db (s:={ s with heap:=H }) N b c (bF.mp d).1 h
end
section
variable {M:Model}{A:cJ}{E:η->θ->Prop}{s:θ}
abbrev eO(T:ε)(h:ef):ef:=h.update T (fJ (·.setIfInBounds 3 β))
def Xd{base:ef}{Q:Unit->θ->Prop}
  (f:A.frames=δ (e::O)) (w:s.heap.FunFrames base (e::O)) (j:e.frame=δ L)
  (k:s.heap.get? x=δ l) (m:l.data= .fields v) (p:v[1]?=↑T) (g:T≠x) (i:s.heap.get? T=δ y) (c:y.data= .fields t) (r:t[3]?=δ .none)
  (h:∀u,di (rawInt L) ((e::O).filterMap (·.frame)) x l (eO T s.heap) u->Q () { s with heap:=u }):
  ξ M A (noteFrame (.ref x) e) Q E s:=by
 unfold noteFrame;simp only[j];erw[Ms$ M3 k m p ?_];rw[MQ (show(ω T != β)=ν from by simp)];erw[Ms$ M3 i c r ?_];rw[MS (show ¬((β==rawInt L)=ν) from by simp [rawInt])];erw[Ms$ Nj i c (bF.mp r).1 ?_];let a:∀b,b≠T->(eO T s.heap).get? b=s.heap.get? b:=λb H=>MP _ _ (MU H);let n:∀b o,s.heap.get? b=δ o->(∀v,o.data≠ .fields v)->b≠T:=λb o H d q=>by rw[q,i]at H;injection H with H;subst H;exact d t c
 exact Xc (s:={ s with heap:=eO T s.heap }) f (w.of_keeps λb o H d=>#[o,(a b$ n b o H d).trans H,Z]) j ((a x$ MU g).trans k) m (bF.mp p).1 h
def YY{base:ef}{Q:Unit->θ->Prop}
  (b:A.frames=δ (e::o)) (i:s.heap.FunFrames base (e::o)) (j:e.frame=δ L)
  (d:s.heap.get? x=δ O) (f:O.data= .fields v) (g:v[1]?=↑T) (H:T≠x) (k:s.heap.get? T=δ l) (c:l.data= .fields t) (m:t[3]?=δ .none)
  (h:∀a,di .none ((e::o).filterMap (·.frame)) x O (eO T s.heap) a->Q () { s with heap:=a }):
  ξ M A (leaving e$ .ref x) Q E s:=by
 unfold leaving;exact Ms$ Xd b i j d f g H k c m λa N=>Db (s:={ s with heap:=a }) N ((MP _ _ H).trans d) f (bF.mp g).1 h
end
def fc(C:ε)(d:Option ε)(T x:ε):HO:=.ext λh=>∃o v,h.get? x=δ o/\o.cls= .ref C/\notCls o=ν/\o.dict=d/\o.data= .fields v/\v[1]?=↑T/\v[2]?=δ .none
def fb(T:ε):HO:=.ext λh=>∃o t,h.get? T=δ o/\o.data= .fields t/\t[3]?=δ .none
def Ez{P:ψ}{h:ef}(e:h.get? x=δ o)(c:o.cls= .ref C)(f:notCls o=ν)(g:o.dict=d)(i:o.data= .fields v)(b:v[1]?=↑T)(a:v[2]?=δ .none):aO P w H h x (fc C d T x):=
 #[#[o,v,e,c,f,g,i,b,a],#[o,e],λb j #[O,V,E,q] k=>#[O,V,k O E,q]]
def wQ{P:ψ}{h:ef}(e:h.get? T=δ o)(b:o.data= .fields a)(c:a[3]?=δ .none):aO P w H h T (fb T):=
 #[#[o,a,e,b,c],#[o,e],λd f #[O,t,E,q] k=>#[O,t,k O E,q]]
def eI(P:ψ)(w:bU):nF:=λo H s E e S=>∃x C d T h,e= .ref x/\S.os=s.os/\AllBare S.gens/\Un (iB o) [] H h s.heap S.heap/\fQ P w h S.heap/\
 h x=δ (fc C d T x)/\h T=δ (fb T)/\T≠x/\E (.ref C) d h
section
variable {X:Cx}{pins:List (ε×gm)}{σ:St}{H:Hp}{s:θ}{x C:ε}{d:Option ε}
def di.hok{fl:η}(I:ap X pins σ H s)(g:H x=δ (.ext Q))(P:s.heap.get? x=δ o)(E:o.cls= .ref C)(F:o.dict=d)(j:o.data= .fields B)(k:1 < B.size)(l:B[2]?=δ .none)(m:∀b∈G,H b=ζ)
  (N:di .none G x o s.heap J):∃T,H T=ζ/\T≠x/\s.heap.objs.size<=T/\fQ X.prog X.w (upd (upd H T$ fb T) x$ fc C d T x) J:=by
 let⟨T,R,S,h,n,K,p,r⟩:=N.ex;let i:H T=ζ:=I.hok.fresh h;let t:T≠x:=MU (jk g i);let a:=M9 j (·.setIfInBounds 1 (ω T));erw[#[T,i,t,h,λb u e=>?_]];by_cases y:b=x
 .subst y;rw[jc]at e;cases e;refine Ez n ((O2 _ _).trans E) ?_ ?_ a (by simp [k]) (by simp [l])
  .unfold notCls;rw[a]
  .let⟨U,V,O,L⟩:=o;simp only at j;subst j;exact F
 .rw[ji y]at e;by_cases f:b=T
  .subst f;rw[jc]at e;cases e;exact wQ K p r
  .rw[ji f]at e;refine(I.hok b u e).stay (λc v D q=>?_) (λc q=>?_) λc W q=>?_
   .let A:c≠x:=by
     rcases D with z |z
     .rw[z];exact y
     .exact jE z g (by intro q;cases q)
    erw[N.keep c v (λM=>?_) A q];let:=m c M;rcases D with z |z
    .rw[z,e]at this;cases this
    .rw[z]at this;cases this
   .rw[ji$ jE q g (by intro z;cases z),ji$ jk q i];exact q
   .rw[ji$ jE q g (by intro z;cases z),ji$ jk q i];exact q
def di.un{h':ef}(I:ap X pins σ H s)(hex:X.ex=[])(j:H x=δ (.ext k))(l:H T=ζ)(c:s.heap.objs.size<=T)(f:∀b∈p,b∈X.fs∨X.s₀.heap.objs.size<=b)
  (N:di .none p x y s.heap h'):Un X.fs [] X.H₀ (upd (upd H T$ fb T) x$ fc C d T x) X.s₀.heap h':=by
 let g:∀b,H b=ζ->b≠x:=λb e z=>by rw[z,j]at e;cases e
 let r:∀b o,X.s₀.heap.get? b=δ o->b≠T:=λb o e=>MG (MN (My e)$ MT I.sz c);let a:∀b:ε,b∉X.ex:=λb z=>by rw[hex]at z;cases z
 let t:∀b,H b=ζ->b≠T->upd (upd H T$ fb T) x (fc C d T x) b=ζ:=λb e z=>by rw[ji$ g b e,ji z];exact e
 let U:∀b u,H b=δ u->(∀k,u≠ .ext k)->upd (upd H T$ fb T) x (fc C d T x) b=δ u:=λb u e z=>by rw[ji (λq=>by rw[q,j]at e;cases e;exact z _ Z),ji$ jk e l];exact e
 erw[#[λb o e n h _=>?_,λb o e n h _=>?_,λb o e n _=>?_,λb o e _=>?_,λb v e=>U b _ (I.base.tups b v e) (by intro _ q;cases q),λb o u e=>U b _ (I.base.frzs b o u e) (by intro _ q;cases q),λb P e=>?_]]
 .erw[N.keep b o (λz=>?_) (g b$ I.base.free b o e n$ a b)$ I.base.keep b o e n h$ a b];rcases f b z with q |q
  .exact h q
  .exact absurd (MN (My e) q)$ Nk _
 .let⟨w,q⟩:=I.base.slot b o e n h (a b);let⟨S,Q⟩:=N.slot b _ (g b$ I.base.free b o e n$ a b) q;exact#[S,Q]
 .exact t b (I.base.free b o e n$ a b)$ r b o e
 .let⟨O,q⟩:=I.base.there b o e (a b);by_cases h:b=x
  .let⟨A,_,_,_,i,_⟩:=N.ex;exact#[_,by rw[h];exact i]
  .let⟨w,Q⟩:=N.slot b O h q;exact#[_,Q]
 .let⟨m,q⟩:=I.base.tbls b P e;exact#[m,U b _ q (by intro _ q;cases q)]
end
section
variable {P:ψ}{w:bU}{K:Ω}{mg:π->Option η}{base:ef}{N:List π}{qual:π}{scope:hJ}{f:ε}{cd:η}{A:cJ}{outer:List tf}{s₀:θ}{H₀:Hp}{E:XK}
variable {pins:List (ε×gm)}{σ:St}{H:Hp}{s:θ}{x C:ε}{d:Option ε}
def xj(I:ap (eP (eI P w) P w K mg base N qual scope f cd A outer s₀ H₀ E) pins σ H s)(c:H x=δ (hZ C d x))
  (h:∀T,H T=ζ->E (.ref C) d (upd (upd H T$ fb T) x$ fc C d T x)):(eP (eI P w) P w K mg base N qual scope f cd A outer s₀ H₀ E).xe (.ref x) s:=by
 obtain⟨⟨O,m,r,v,t,V,n,o,g⟩,_⟩:=I.hok x _ c;let i:=(bF.mp o).1;erw[Yr (base:=base) I.ok.frames I.stack Z m n o λy p=>?_];let⟨T,q,a,j,k⟩:=p.hok (C:=C) (d:=d) (fl:=.none) I c m r t n i g λb l=>I.stkFree b l;let u:=p.un (C:=C) (d:=d) I Z c q j λb l=>by
  rcases Ψ.mp (I.stkSub b l) with e |e
  .exact .inr (by rw[e];exact I.ok.above)
  .exact .inl e
 exact#[x,C,d,T,_,Z,I.os,I.bare,u,k,jc,by rw[ji a,jc],a,h T q]
def ap.cleared{X:Cx}(I:ap X pins σ H s)(c:H T=δ (fb T))(i:s.heap.get? T=δ O)(j:O.data= .fields t)(k:t[3]?=δ .none):ap X pins σ H { s with heap:=eO T s.heap }:=by
 let h:=M9 j (·.setIfInBounds 3 β);let g:=M8 (fJ (·.setIfInBounds 3 β)) i (NH h);let:=I.write (x:=T) (e:=T) (o:=fb T) (h':=eO T s.heap) (t':=s.toks) (by rw[c];exact True.intro) (.inl Z) (λb u a q=>(MP _ _$ MU a).trans q) #[_,g] (wQ g h (by simp [(bF.mp k).1]));let l:upd H T (fb T)=H:=by
  funext b;by_cases a:b=T
  .rw[a,jc,c]
  .rw[ji a]
 rw[l]at this;exact this
def A1(I:ap (eP (eI P w) P w K mg base N qual scope f cd A outer s₀ H₀ E) pins σ H s)(g:H x=δ (fc C d T x))(o:H T=δ (fb T))(c:T≠x)
  (h:∀t,H t=ζ->E (.ref C) d (upd (upd H t$ fb t) x$ fc C d t x)):(eP (eI P w) P w K mg base N qual scope f cd A outer s₀ H₀ E).xe (.ref x) s:=by
 obtain⟨⟨O,V,p,F,J,G,q,r,i⟩,_⟩:=I.hok x _ g;obtain⟨⟨L,M,u,v,y⟩,_⟩:=I.hok T _ o;let j:=(bF.mp r).1;let z:=I.cleared o u v y;erw[YY (base:=base) I.ok.frames I.stack Z p q r c u v y λQ B=>?_];let k:(eO T s.heap).get? x=δ O:=(MP _ _ c).trans p;let⟨t,D,a,l,m⟩:=di.hok (C:=C) (d:=d) (fl:=.none) z g k F G q j i (λb n=>I.stkFree b n) B;let U:=di.un (C:=C) (d:=d) z Z g D l (λb n=>by
  rcases Ψ.mp (I.stkSub b n) with e |e
  .exact .inr (by rw[e];exact I.ok.above)
  .exact .inl e) B
 exact#[x,C,d,t,_,Z,I.os,I.bare,U,m,jc,by rw[ji a,jc],a,h t D]
def yZ{j:XK}(m:∀x C d T t a,a x=δ (fc C d T x)->a T=δ (fb T)->a t=ζ->j (.ref C) d a->E (.ref C) d (upd (upd a t$ fb t) x$ fc C d t x)):
  c7 (eI P w) (eP (eI P w) P w K mg base N qual scope f cd A outer s₀ H₀ E) j:=by
 intro pins σ H s e S I h;let⟨x,C,d,T,a,rfl,os,B,u,c,k,l,i,n⟩:=h;let⟨p,g,D,q,o⟩:=S;obtain rfl:o=s.os:=os;let r:=I.call (h':=p) (g':=g) (d':=D) (t':=q) (ch:=[]) u c B (λb z=>absurd z LM);exact A1 r k l i λt v=>m x C d T t a k l v n
end
section
open PySem.W
variable {prog:ψ}{w:bU}{A:cJ}{E:η->θ->Prop}{K:Ω}{x C:ε}{ox:gm}{vs:Array η}{env:tf}
def YZ{ev:Sem η}(e:A.handled=ζ)
  (h:ξ (υ prog w) A ev (λv S=>∃x C ox vs,v= .ref x/\K.In S.heap/\ie K C/\typeIn K (.ref C)=δ (.type "type")/\S.heap.get? x=δ ox/\ox.cls= .ref C/\ox.data= .fields vs/\vs[1]?=δ .none/\E (.ref x) S) E s):
  ξ (υ prog w) A (raiseStmt env (δ ev) ζ) Q E s:=by
 unfold raiseStmt;erw[Ms$ Ny h (λv S a=>?_) λ_ _ z=>z];let⟨x,C,ox,vs,rfl,X,f,i,b,j,c,m,n⟩:=a;let⟨H,g,d,T,os⟩:=S;let L:Looks (υ prog w) H (typeOf$ .ref x) (.ref C):=j▸(VJ b).andThen .now;let l:Looks (υ prog w) H (isType$ .ref x) μ:=by intro y B D F k q;unfold isType loadHead;erw[Ms$ PH (k _ _ b) ?_];rw[c];exact Mu q
 let _L:=RJ (M:=υ prog w) X f.mb;let o:=looks_typeIn (M:=υ prog w) X i;let p:Looks (υ prog w) H (isInstance (.ref x)$ .type "BaseException") ν:=L.andThen _L;let r:Looks (υ prog w) H (isExcClass$ .ref x) μ:=by unfold isExcClass;exact l.andThen .now
 let t:Looks (υ prog w) H (raisedInstance$ .ref x) (.ref x):=by unfold raisedInstance;exact L.andThen$ o.andThen (by rw[MQ LO];exact .now)
 let u:Looks (υ prog w) H (excFromValue (.ref x) "exceptions must derive from BaseException") (.ref x):=by unfold excFromValue;exact r.andThen (by rw[MS LO];exact p.andThen (by rw[MQ Z];exact .now))
 erw[Ms$ Mu ?_];erw[Ms$ MW$ u.at ?_];dsimp only;erw[Ms$ l.at ?_];rw[MS LO];erw[Ms$ t.at ?_];unfold setFlight;erw[Ms$ Ms$ M3 b c m ?_];rw[MS LO];exact Mu$ wpAny_raiseNew_none e n
end
def A8(X:Cx)(W:ε->ε->Option ε->Hp->Prop):Prop:=∀(p:List (ε×gm)) (a:St) (H:Hp) (s:θ) (x C:ε) (d:Option ε),ap X p a H s->H x=δ (hZ C d x)->W x C d H->X.xe (.ref x) s
def Jc{P:ψ}{K:Ω}:
  A8 (eP (eI P w) P w K m b N q s f g A o a c E) (λx C d H=>∀T,H T=ζ->E (.ref C) d (upd (upd H T$ fb T) x$ fc C d T x)):=
 λ_ _ _ _ _ _ _ I e h=>xj I e h
inductive oW(K:Ω)(b:ε->ε->Option ε->Hp->Prop)(v:V)(a:Hp):Prop
 |mk(x C d:_)(_:v= .ref x)(_:a x=δ (hZ C d x))(_:ie K C)(_:typeIn K (.ref C)=δ (.type "type"))(_:b x C d a)
def D2(K:Ω)(t:TE)(W:ε->ε->Option ε->Hp->Prop):TS:=λ_u0 a H=>t a H (oW K W)
def JK{X:Cx}{e:dr}{t:TE}{P:Pos}{W:ε->ε->Option ε->Hp->Prop}(f:X.calm=ν)(F:A8 X W)(g:PE X e t):PS X (.Raise (δ e) ζ P) (D2 X.K t W):=by intro p s b H D I h;rw[arm_exec_Raise];erw[Ms$ Oy ?_];erw[YZ (K:=X.K) (ev:=do let v <- eval e X.env;standAt P;pure v) (I.ok.hd f)$ Ms$ aL (g p s b H _ I h) λu S a=>Ms (Oy$ Mu ?_)];let⟨v,j,i,r,x,C,d,ev,c,k,l,q⟩:=a;subst ev;obtain rfl:u=ω x:=r;obtain⟨⟨o,m,n,A,B,V,w,y,z⟩,_⟩:=i.hok x _ c;exact#[x,C,o,V,Z,i.kIn,k,l,m,n,w,y,F p b j S x C d i c q]
section
variable {X:Cx}{pins:List (ε×gm)}{σ:St}{H:Hp}{s:θ}{x C:ε}{d:Option ε}
def ap.noted{t':Nat}(I:ap X pins σ H s)(a:H x=δ (.ext m))(r:s.heap.get? x=δ O)(t:O.cls= .ref C)(w:O.dict=d)(y:O.data= .fields v)(c:1 < v.size)(f:v[2]?=δ .none)
  (N:di .none (iB X.stack) x O s.heap A):∃T,H T=ζ/\T≠x/\ap X pins σ (upd (upd H T$ fb T) x$ fc C d T x) { s with heap:=A,toks:=t' }:=by
 let⟨T,p,g,i,j⟩:=di.hok (C:=C) (d:=d) (fl:=.none) I a r t w y c f (λb h=>I.stkFree b h) N;let k:∀b,H b=ζ->b≠x:=λb e z=>by rw[z,a]at e;cases e
 let U:∀b u,H b=δ u->(∀m,u≠ .ext m)->upd (upd H T$ fb T) x (fc C d T x) b=δ u:=λb u e z=>by rw[ji (λq=>by rw[q,a]at e;cases e;exact z _ Z),ji$ jk e p];exact e
 erw[#[T,p,g,I.call (g':=s.gens) (d':=s.drawn) (ch:=[]) ?_ j I.bare (λb z=>absurd z LM)]];erw[#[λb o e n h _=>N.keep b o h (k b n) e,λb o e n _ _=>N.slot b o (k b n) e,λb o e n _=>?_,λb o e _=>?_,λb B e=>U b _ e (by intro _ q;cases q),λb o u e=>U b _ e (by intro _ q;cases q),λb P e=>#[(ι []),by rw[U b _ e (by intro _ q;cases q)];simp]]]
 .rw[ji$ k b n,ji$ MG$ MN (My e) i];exact n
 .by_cases h:b=x
  .let⟨D,_,_,_,l,_⟩:=N.ex;exact#[_,by rw[h];exact l]
  .let⟨S,q⟩:=N.slot b o h e;exact#[_,q]
def sq{v:V}{Q:Unit->θ->Prop}(I:ap X pins σ H s)(R:X.N.Nodup)(B:X.N[i]?=δ n)(D:X.env.scope.names.lookup n=δ .local)(T:σ[i]?=δ (δ v))
  (h:∀S,ap X pins (σ.set i ζ) H S->Q () S):ξ M A (unbindBehindTheSuite X.env n U) Q E s:=by
 let⟨m,K,L⟩:=id I.loc;let g:(X.env.scope.kind== .class||(X.env.scope.kind== .module&&X.env.locals != X.env.globals))=μ:=by rw[I.ok.kind];rfl
 let⟨u,ru,lk⟩:=L i n v B T (.inl D);let W:m n=δ u:=by
  rcases lk with ⟨_,e⟩ | ⟨k,_⟩
  .exact e
  .let O:X.env.scope.names.lookup n=δ .cell∨X.env.scope.names.lookup n=δ .free:=k;rw[D]at O;rcases O with z |z<;>cases z
 let l:=I.cne;let⟨oL,_,_,Y,_⟩:=id K;unfold unbindBehindTheSuite;erw[RT$ wpAny_unbindName_local D K W g λh' w' F a=>h _ ?_];erw[#[I.ok,I.os,I.bare,#[λb o e n G r=>?_,λb o e n G r=>?_,I.base.free,λb o e r=>?_,I.base.tups,I.base.frzs,I.base.tbls],#[_,F,λj y v' f w e3=>?_],λy c e=>?_,I.free,I.freeC,λp hp=>?_,λb ob e=>?_,by simpa using I.len]]
 .exact(a.2 b$ MG$ MN (My e) I.ok.above).trans (I.base.keep b o e n G r)
 .let⟨sl,f⟩:=I.base.slot b o e n G r;exact#[sl,(a.2 b$ MG$ MN (My e) I.ok.above).trans f]
 .let⟨o',f⟩:=I.base.there b o e r;exact#[o',(a.2 b$ MG$ MN (My e) I.ok.above).trans f]
 .let t:i < σ.length:=by rw[I.len];exact(χ.mp B).1
  by_cases J:j=i
  .subst J;rw[Od t]at w;cases w
  .rw[N7$ MU J]at w;let⟨u',r',q⟩:=L j y v' f w e3;erw[#[u',r',?_]];rcases q with ⟨k,e⟩ | ⟨k,c,e,z⟩
   .erw[.inl #[k,?_]];let:y≠n:=λe=>J (K7 R f$ e▸B);simp [this,e]
   .exact .inr #[k,c,e,z.sameBut a$ l y c e]
 .let⟨w2,z⟩:=I.cell y c e;exact#[w2,z.sameBut a$ l y c e]
 .let⟨e,n,P,nf,d⟩:=I.pin p hp;exact#[(a.2 p.1 P).trans e,n,P,nf,d]
 .erw[(I.hok b ob e).stay (λc w' hc q=>(a.2 c ?_).trans q) (λ_ q=>q) λ_ _ q=>q];rintro rfl;rcases hc with z |z
  .rw[<- z,I.free]at e;cases e
  .rw[I.free]at z;cases z
end
abbrev Cx.mark(X:Cx)(e:η)(xe:η->θ->Prop):Cx:={ X with A:=X.A.mark (δ e),calm:=μ,xe:=xe }
def ap.mark{X:Cx}(I:ap X p a H s)(e:η)(x:η->θ->Prop):ap (X.mark e x) p a H s:=
 #[#[I.ok.mod,I.ok.kind,I.ok.glob,I.ok.blt,I.ok.above,I.ok.inj,I.ok.has,I.ok.cab,(λz=>nomatch (show μ=ν from z)),I.ok.frames,I.ok.stk,I.ok.exf,I.ok.bs,I.ok.bsz,I.ok.noex,I.ok.exfs,I.ok.funs,I.ok.frf],I.os,I.bare,I.base,I.loc,I.cell,I.free,I.freeC,I.pin,I.hok,I.len]
def ap.unmark{X:Cx}(o:X.Ok)(I:ap (X.mark e x) p a H s):ap X p a H s:=
 #[o,I.os,I.bare,I.base,I.loc,I.cell,I.free,I.freeC,I.pin,I.hok,I.len]
section
open PySem.W
def QC{K:Ω}(X:K.In h)(a:h.get? x=δ o)(b:o.cls= .ref C)(H:clsIn K B≠ζ)(tB:typeIn K (.ref B)=δ (.type "type"))(m:mroIn K B (.type "BaseException")=δ ν)(c:mroIn K C (.ref B)=δ ν):
  Looks M h (excMatches (.ref x)$ .ref B) ν:=by
 let L:Looks M h (typeOf$ .ref x) (.ref C):=b▸(VJ a).andThen .now;let l:=looks_typeIn (M:=M) X tB;let _L:Looks M h (isInstance (.ref B)$ .type "tuple") μ:=l.andThen (Looks.of_pure tc_notTuple);let d:Looks M h (isType$ .ref B) ν:=by
  unfold clsIn at H;split at H
  .rename_i e
   intro A Q E s k q;unfold isType loadHead;exact Ms$ PH (k _ _$ X _ _ e)$ Mu q
  .exact absurd Z H
 let f:Looks M h (isExcClass$ .ref B) ν:=by unfold isExcClass;exact d.andThen (by rw[MQ Z];exact RJ X m)
 let g:=RJ (M:=M) X c;intro A Q E s k q;unfold excMatches;erw[Ms$ _L A _ E s k ?_];rw[MS LO];erw[Ms$ Mu ?_];dsimp only;erw[Ms ?_];rw[OF];erw[Ms$ Ms$ f A _ E s k ?_];simp only[Pa,MV,NR];erw[Mu ?_];dsimp only;rw[Pp];erw[Mu ?_];erw[Ms$ L A _ E s k ?_];erw[Ms ?_];rw[OF];erw[Ms$ Ms$ g A _ E s k ?_];simp only[Pj];erw[Mu$ Mu ?_];exact Mu q
end
abbrev XR:=ε->ε->Option ε->ε->Hp->Prop
def XW(X:Cx)(p:List (ε×gm))(a:St)(R:XR)(e:η)(s:θ):Prop:=
 ∃x C d T H,e= .ref x/\ap X p a H s/\H x=δ (fc C d T x)/\H T=δ (fb T)/\T≠x/\R x C d T H
abbrev Ih:=St->Hp->VK->XR->Prop
abbrev Ij:=a6->XR->St->Hp->Prop
def I8(X:Cx)(e:dr)(t:Ih):Prop:=
 ∀(p:List (ε×gm)) (s:θ) (a:St) (H:Hp) (Q:VK) (R:XR),ap X p a H s->t a H Q R->ξ (υ X.prog X.w) X.A (eval e X.env) (EP X p a Q) (XW X p a R) s
def La(X:Cx)(st:da)(t:Ij):Prop:=
 ∀(p:List (ε×gm)) (s:θ) (a:St) (H:Hp) (D:a6) (R:XR),ap X p a H s->t D R a H->ξ (υ X.prog X.w) X.A (exec st X.env) (SP X p D) (XW X p a R) s
def Ll(R:XR):XK:=λc d H=>∀x C T,c= .ref C->H x=δ (fc C d T x)->H T=δ (fb T)->T≠x->R x C d T H
def En(s:Sp)(d:List V)(t:TA):Ih:=λa H Q R=>t a H λv h=>s (v++d) h Q (Ll R)
section
variable {X:Cx}{k:Nat}{f:ε}{fd:Φ}{ps:List π}{sp:Sp}{dvs:List V}{ds:List η}{x:π}{p pos:Pos}{e:dr}{es:List dr}{t:TA}{te:Ih}
def va(F:ai X.prog X.w X.K X.mg X.base (eI X.prog X.w) k f fd ps sp)(y:ba k X.A)(D:Gl X x)(E:X.mg x=↑f)(G:fx X.K (.ref f)=ν)(J:au X.K fd ps ds)(L:aw dvs ds)
  (M:PA X.nox (e::es) t) (g:↥((x==("__debug__":π))=μ)) (N:↥(Θ (e::es) X.env=(μ,eval e X.env)::Θ es X.env)) (j:↥((eT pos$ Θ es X.env).any (·.1)=μ)):
  I8 X (.Call (.Name x p) (e::es) [] pos) (En sp dvs t):=by
 intro P s O H Q R I h;erw[No$ zK I D E ?_ g];erw[PL (h₀:=X.base) I.ok.mod.kin G (Ny (M pos P s O H _ (I.wish _) h) (λU S #[v,W,i,r,q]=>#[i.kIn,?_]) λ_ _ z=>z.elim) N j];let i:=i.unwish;let m:aw (v++dvs) (U++ds):=r.append L;let Y:(U++ds).length=ps.length:=by rw[<- m.length];exact F.len _ _ _ _ q
 erw[O1$ Oa (F.run X.A X.stack S W #[U,[]] (U++ds) (v++dvs) Q (Ll R) y i.env0 (J S U i.kIn Y) m q) λr s' a=>?_];cases r with
 |error e=>let⟨x,C,d,T,H',rfl,os,B,un,l,n,o,c,hw⟩:=a;exact#[x,C,d,T,H',Z,i.call' os un l B (λb z=>absurd z LM),n,o,c,hw x C T Z n o c]
 |ok fl=>
  cases fl with
  |ret u=>exact i.after a
  |next |brk |cont=>exact False.elim a
def vk(c:I8 X e te)(d:↥(swapsWith e ζ pos.line X.env=pure μ)):La X (.Expr e pos) (λD R a H=>te a H (λ_ b=>D.nx a b) R):=by intro P s a H D R I h;exact VA (aL (c P s a H _ R I h) λv S #[x,b,i,r,q]=>#[a,b,i,q]) I.quiet d
end
def Jd{X:Cx}{Q:Unit->θ->Prop}(I:ap X p d H s)(e:X.N.Nodup)(b:X.N[i]?=δ n)(c:X.env.scope.names.lookup n=δ .local)
  (h:∀S,ap X p (d.set i ζ) H S->Q () S):ξ M A (do bindName X.env n .none;unbindBehindTheSuite X.env n g) Q E s:=by
 let a:i < d.length:=by rw[I.len];exact(χ.mp b).1
 erw[Ms ?_];unfold bindName;erw[Ms$ MW$ wpAny_point$ Ms$ zD (v:=.non) I e b (.inl c) Z (λl j=>wpAny_point ?_)$ .inr c];erw[sq j e b c (v:=.non) (Od a) λk f=>h k ?_];rw[List.set_set]at f;exact f
def sQ(i:Nat)(D:a6):a6:={ nx:=λa H=>D.nx (a.set i ζ) H,rt:=D.rt,bk:=λa H=>D.bk (a.set i ζ) H,ct:=λa H=>D.ct (a.set i ζ) H }
def iH(H:Hp)(a C:ε)(f:List (π×V)):Prop:=(f=[]/\∃T,H a=δ (fc C ζ T a))∨∃d T,H a=δ (fc C (δ d) T a)/\H d=δ (.xd f)
section
variable {X:Cx}{pins:List (ε×gm)}{σ:St}{H:Hp}{s:θ}{a C:ε}{fs:List (π×V)}{f:π}{v:V}{A:cJ}{E:η->θ->Prop}
def Xe(I:ap X pins σ H s)(e:iH H a C fs):∃g O,PySem.W.InstAt s.heap a g C O/\∀f v,fs.lookup f=δ v->∃o u,O=δ o/\aC v u/\lookIn f o=δ (δ u):=by
 rcases e with ⟨rfl,T,e⟩ | ⟨D,T,e,i⟩
 .obtain⟨⟨o,j,h,b,c,d,_⟩,_⟩:=I.hok a _ e;exact#[o,ζ,#[h,b,c,by rw[d];trivial],λf v q=>nomatch q]
 .obtain⟨⟨o,j,h,b,c,d,_⟩,_⟩:=I.hok a _ e;let⟨m,n,r⟩:=(show aO X.prog X.w H s.heap D (.xd fs) from I.hok D _ i);let⟨O,k,l⟩:=QY n;erw[#[o,δ O,#[h,b,c,by rw[d];exact k],λf v q=>?_]];let⟨u,p,R⟩:=dw.some_of (v:=v) (o:=m f) (by rw[<- q];exact r f);exact#[O,u,Z,R,by rw[l,p]]
def yf{Q:η->θ->Prop}(I:ap X pins σ H s)(e:iH H a C fs)(c:ie X.K C)(n:aW X.K C f)(l:fs.lookup f=δ v)
  (h:∀u S,ap X pins σ H S->aC v u->Q u S):ξ (υ X.prog X.w) A (getAttr (.ref a) f b) Q E s:=by
 let⟨O,i,J,d⟩:=Xe I e;let⟨o,u,rfl,r,g⟩:=d f v l;exact yg I.kIn J c.ga c.gh c.mb (Te c.hd n Z g) (QZ r)$ h u _ (I.tok _) r
def XJ:dI X (.builtin "isinstance") (λx H Q=>∃a C fs y c b,x=[.ref a,y]/\Fe y=δ c/\iH H a C fs/\ie X.K C/\kitOne X.K (.ref C) c=δ b/\Q (.bl b) H):=by
 intro pins s σ H x U Q I r h;let⟨a,C,fs,y,c,b,rfl,d,g,i,e,q⟩:=h;let⟨u,w,rfl,j,R⟩:=Cd r;let k:w=c:=by
  cases y with
  |ty n |ref a=>exact Eq.trans R (Nn d)
  |_=>cases d
 subst k;cases (show u=ω a from j);let⟨o,O,J,_⟩:=Xe I g;exact kia_one (ug i) I.kIn #[o,O,J] e (λz=>nomatch z) λt=>#[.bl b,H,I.tok t,Z,q]
end
inductive wI(K:Ω)(f:π)(Q:VK)(x:V)(b:Hp):Prop
 |mk(a C c v:_)(_:x= .ref a)(_:iH b a C c)(_:ie K C)(_:aW K C f)(_:c.lookup f=δ v)(_:Q v b)
def BX(K:Ω)(t:TE)(f:π):TE:=λa H Q=>t a H (wI K f Q)
def y8{X:Cx}(d:PE X e t)(f:attributeBase e g X.env (eval e X.env)=eval e X.env):PE X (.Attribute e g i) (BX X.K t g):=by intro p s j H Q I h;erw[Zy f$ aL (d p s j H _ I h) λu S b=>?_];let⟨x,k,m,r,a,C,F,v,E,o,c,n,l,q⟩:=b;subst E;obtain rfl:u=ω a:=r;exact yf m o c n l λU y w R=>#[v,k,w,R,q]
def aM.ok1{P:ψ}{K:Ω}{st:da}{a:Sp}(F:aM K x q st f g)(S:ak N p (ae st))
  (h:∀(c:η) (A:cJ) (o:List tf) (s:θ) (H:Hp) (v:List V) (Q:VK) (E:XK),ba k (A.deeper$ envOfC q (ae st) s.heap.objs.size f c)->a v H Q E->
   ∃t,mz (eP (eI P w) P w K m b N q (ae st) f c A o s H E) (a8 st) t/\t { nx:=λ_ i=>Q .non i,rt:=Q } (dQ N v) H)(len:∀v H Q E,a v H Q E->v.length=p.length:=by rintro _ _ _ _⟨⟩;subst_vars;rfl):ai P w K m b (eI P w) (k+1) f g p a:=by
 let⟨l,n,kV,D,r,u,c,C,O,rfl,lk,d⟩:=F.ex;exact Bu lk d S len λA o s H v Q E j e=>h c A o s H v Q E j e
end _L
namespace _L
open PySem PySem.Spec PyProof.Rows PySem.SeqAt
def tE(x y:List V):Bool:=(kr$ min x.length y.length).all (λj=>lr (x.getD j .non) (y.getD j .non))&&x.length==y.length
section
variable {X:Cx}
def sj(r:aw x i)(R:aw y I)(f:x.all cj=ν)(F:y.all cj=ν)(j:Nat)(c:j < i.toArray.size)(d:j < I.toArray.size):EqAt A s i.toArray[j] I.toArray[j] (lr (x.getD j .non)$ y.getD j .non):=by
 let L:=r.length;let p:=R.length;let H:j < x.length:=by simp at c;omega
 let h:j < y.length:=by simp at d;omega
 let a:x[j]?=δ x[j]:=Mw H;let b:y[j]?=δ y[j]:=Mw h;let⟨u,q,g⟩:=r.get a;let⟨U,Q,k⟩:=R.get b;let l:=ov.mp f _ (N4 H);let m:=ov.mp F _ (N4 h);let E:i.toArray[j]=u:=by let⟨_,e⟩:=χ.mp q;simpa using e
 let n:I.toArray[j]=U:=by let⟨_,e⟩:=χ.mp Q;simpa using e
 let G:x.getD j .non=x[j]:=by rw[OM,a];rfl
 let o:y.getD j .non=y[j]:=by rw[OM,b];rfl
 rw[E,n,G,o];exact Xq g k l m
def DG(f:X.A.units < cLine):gg X (compareOp .Eq) (λx y H Q=>∃a b c Y,x= .ref a/\y= .ref b/\aB X.K H a c/\aB X.K H b Y/\c.all cj=ν/\Y.all cj=ν/\Q (.bl$ tE c Y) H):=by
 intro p s z H x y v u Q I g k h;let⟨a,b,c,Y,rfl,rfl,l,m,F,n,q⟩:=h;cases g;cases k;let⟨i,r,P,_⟩:=I.tuple l;let⟨d,R,o,_⟩:=I.tuple m;erw[eq_tupleAt (e:=λj=>lr (c.getD j .non) (Y.getD j .non)) (show s.heap.IsTuple a i.toArray from P) (show s.heap.IsTuple b d.toArray from o) f (λj t w=>sj r R F n j t w) ?_];let e:((kr$ min i.toArray.size d.toArray.size).all (λj=>lr (c.getD j .non) (Y.getD j .non))&&i.toArray.size==d.toArray.size)=tE c Y:=by unfold tE;rw[ME,ME,<- r.length,<- R.length]
 rw[e];exact#[.bl _,H,I,Z,q]
end
end _L
namespace _L
open PySem PySem.Spec PyProof.Rows
section
variable {prog:ψ}{w:bU}{A:cJ}{E:η->θ->Prop}{s:θ}
def Y0{Q:Nat->θ->Prop}(H:n≠0)(h:∀i d,i < n->Q i { s with drawn:=d }):ξ (υ prog w) A (choose a n) Q E s:=by intro Γ p _;show Sem.wp _ Γ (.choose a n .pure) _ _ p s;rw[Sem.wp_choose];exact#[H,h _ _$ VI _$ Nat.pos_of_ne_zero H]
def Ys{α:Type}:∀(n:Nat) (xs:List α) (s:θ) {Q:List α->θ->Prop},xs.length=n->(∀ys d,ys.Perm xs->Q ys { s with drawn:=d })->
  ξ (υ prog w) A (drawOrder n xs) Q E s:=by
 intro n;induction n with
 |zero=>
  intro xs s Q hl h;cases xs with
  |nil=>unfold drawOrder;exact Mu$ h [] s.drawn .rfl
  |cons _ _=>cases hl
 |succ n ih=>
  intro xs s Q hl h;cases xs with
  |nil=>cases hl
  |cons x r=>unfold drawOrder;erw[Ms$ Y0 LM λi d hi=>?_];let hg:(x::r)[i]?=δ ((x::r)[i]'hi):=Mw hi;rw[hg];dsimp only;erw[Ms$ ih _ _ (by rw[Su hi,hl];rfl) λys d' hp=>Mu (h _ d' ?_)];erw[(List.Perm.cons _ hp).trans ?_];rw[RS];erw[List.perm_middle.symm.trans ?_];rw[Tj,Tw]
end
def my:η->π
 | .str x _=>x
 |_=>#[(ι [])]
def QD(t:SetTable)(n:Nat):(t.orStandIn n).led=t.led:=by
 unfold SetTable.orStandIn;split
 .rfl
 .rfl
def Y1(t:SetTable)(e:Array (Int×η))(h:Int)(x:η):(layNew t e h x).2.1.led=t.led:=by
 unfold layNew;split
 .exact QD _ _
 .rfl
def XL(t:SetTable)(E:Array (Int×η))(n:Nat):(relayAll t E n).2.1.led=t.led:=by
 unfold relayAll;split
 .rename_i T o e
  unfold SetTable.relaid SetTable.laid at e;cases h:SetTable.layClean (SetTable.sizeAbove n - 1) (E.map (·.1)) with
  |none=>rw[h]at e;cases e
  |some O=>rw[h]at e;cases e;dsimp only;split<;>rfl
 .rfl
def Qq(t:SetTable)(E:Array (Int×η))(n:Nat)(H:t.plain=μ):(relayAll t E n).2.1.plain=μ:=by
 unfold relayAll;split
 .rename_i T o e
  unfold SetTable.relaid SetTable.laid at e;cases h:SetTable.layClean (SetTable.sizeAbove n - 1) (E.map (·.1)) with
  |none=>rw[h]at e;cases e
  |some O=>
   rw[h]at e;cases e;dsimp only;split
   .exact H
   .rfl
 .rfl
def cV(p:ψ)(w:bU)(h:ef)(a:ε)(L:List π):Prop:=
 ∃o E b t,h.get? a=δ o/\o.ExactSet/\o.data= .set E b t/\ElemsOf (el p w) E.toList/\(E.toList.map λe=>my e.2).Perm L/\L.Nodup
  /\E.size < scanBound/\t.fits E.size=ν/\t.led=!(w.params.followText "set-order")/\(t.plain=μ∨E.size=0)
def cV.at{H:ef}{a:ε}(x:cV p w h a L)(e:∀o,h.get? a=δ o->H.get? a=δ o):cV p w H a L:=
 let #[o,E,b,t,c,r]:=x;#[o,E,b,t,e o c,r]
section
variable {prog:ψ}{w:bU}{A:cJ}{E:η->θ->Prop}{s:θ}
def Kg{a:Array (Int×η)}(b:ElemsOf (el prog w) a.toList)(x:π):
  (a.toList.findIdx? (λe=>(el prog w).is x e.2)=ζ↔¬x∈a.toList.map λe=>my e.2):=by
 rw[List.findIdx?_eq_none_iff];constructor
 .intro h m;let⟨e,H,f⟩:=bS.mp m;obtain⟨⟨k,g,_⟩,_⟩:=b e H;let⟨t,c⟩:=Pb g;let q:=h e H;rw[c]at f q;let d:k=x:=f;subst d;let Q:(el prog w).is k (.str k t)=ν:=strKind_is prog w k t;rw[Q]at q;cases q
 .intro h e H;cases q:(el prog w).is x e.2 with
  |false=>rfl
  |true=>let⟨t,c⟩:=Pb q;exact absurd (bS.mpr #[e,H,by rw[c];rfl]) h
def Kh{b:Array (Int×η)}{T:SetTable}(d:s.heap.get? a=δ o)(f:o.ExactSet)(h:o.data= .set p c t)
  (g:ElemsOf (el prog w) b.toList) (i:(b.toList.map λe=>my e.2).Perm L) (j:L.Nodup) (k:b.size < scanBound) (l:T.fits b.size=ν)
  (m:T.led=!(w.params.followText "set-order")) (n:T.plain=μ):
  (s.heap.update a$ nI b T).get? a=δ { o with data:=.set b (c+1) T }/\cV prog w (s.heap.update a$ nI b T) a L:=by
 let H:(s.heap.update a$ nI b T).get? a=δ { o with data:=.set b (c+1) T }:=by let q:=M8 (nI b T) d (by rw[putSet_of b T h];rfl);rwa [putSet_of b T h]at q
 exact#[H,_,b,c+1,T,H,f,Z,g,i,j,k,l,m,.inl n]
def Yt{Q : Bool -> θ -> Prop}(hS : cV prog w s.heap a L)(room : L.length + 1 < scanBound)
    (h : ∀ b R l, fy a s.heap R -> cV prog w R a (if x ∈ L then L else L ++ [x]) -> s.toks <= l -> Q b { s with heap := R, toks := l }) :
    ξ (υ prog w) A (setAdd a$ .str x f) Q E s := by
  obtain ⟨o, g, ep, t, n, U, u, H, v, B, hb, V, X, Y⟩ := hS;let d : (el prog w).is x (.str x f) = ν := strKind_is prog w x f;let C : g.size = L.length := by rw [<- v.length_eq, Mv, M5]
  unfold setAdd;erw[MW$ Ms ((el prog w).pyHash (k := x) d ?_)];unfold setAddHashed setAddHashedIn;erw[MW$ Ms$ Oc (s := { s with toks := s.toks + 1 }) n u V ?_];dsimp only;rw [byScan_of Z hb H];simp only [↓reduceIte];unfold setAddByScan;erw[Ms$ Ms$ Oe$ Ms$ wpAny_setScan_of (knd := el prog w) d n u V H ?_];cases hr : List.findIdx? (λe => (el prog w).is x e.2) g.toList with
  | some j =>
    dsimp only;let D : x ∈ L := by erw[Decidable.byContradiction λhn => ?_];let q := (Kg (prog := prog) (w := w) H x).mpr λm => hn (v.mem_iff.mp m);rw [q] at hr; cases hr
    let q := h μ s.heap (s.toks + 1) (SO a s.heap) (by rw [MQ D]; exact #[o, g, ep, t, n, U, u, H, v, B, hb, V, X, Y]) (NM _);exact Mu$ Mu q
  | none =>
    dsimp only;let D : ¬ x ∈ L :=λm => (Kg (prog := prog) (w := w) H x).mp hr (v.mem_iff.mpr m);let W : ∀ (b : Bool) {S : θ} {Q' : Unit -> θ -> Prop}, Q' () S -> ξ (υ prog w) A (match b with | true => rule "set.scan.the-table-gave-way" | false => pure ()) Q' E S := by
      intro b S Q' hq;cases b
      · exact Mu hq
      · exact Oe hq
    let p := layNew_perm t g ((el prog w).hash x) (.str x f);let M := layNew_fits t g ((el prog w).hash x) (.str x f);let O := Y1 t g ((el prog w).hash x) (.str x f);generalize layNew t g ((el prog w).hash x) (.str x f) = N at p M O ⊢;obtain ⟨c, t1, w0, g4⟩ := N;dsimp only at p M O ⊢;rw [TZ] at p;let F : ElemsOf (el prog w) c.toList := (H.push d Z).perm p;let P : (c.toList.map λe => my e.2).Perm (L ++ [x]) := by erw[(p.map _).trans ?_];rw [M0];exact v.append_right _
    let G : (L ++ [x]).Nodup := List.nodup_append.mpr #[B, by simp,λy hy z hz e => by rw [RD] at hz; subst hz; subst e; exact D hy];let fg : c.size = g.size + 1 := by rw [<- M5, p.length_eq, Mz, M5]; rfl
    let b1 : c.size < scanBound := by rw [fg, C]; exact room
    erw[Ms$ W _ ?_];let i : ∀ T : SetTable, T.fits c.size = ν -> T.led = t.led -> T.plain = μ ->
        ξ (υ prog w) A (do
          storeSet a c T
          if (!w0 && T.tooFull) = ν then do
              (match (relayAll T c$ SetTable.grown c.size).2.2 with | true => rule "set.scan.the-table-gave-way" | false => pure ())
              storeSet a (relayAll T c$ SetTable.grown c.size).1 (relayAll T c$ SetTable.grown c.size).2.1
              pure (δ ν)
            else pure (δ ν)) (λr s' => r = δ ν /\ Q ν s') E { s with toks := s.toks + 1 } := by
      intro T g1 g2 g3;erw[Ms$ UV (s := { s with toks := s.toks + 1 }) n u ?_$ Ra b1];obtain ⟨o1, S1⟩ := Kh (s := s) (prog := prog) (w := w) n U u F P G b1 g1 (g2.trans X) g3;let I := N6 s.heap a (nI c T);split
      · have J := relayAll_perm T c (SetTable.grown c.size)
        let f2 := relayAll_fits T c (SetTable.grown c.size);let l2 := XL T c (SetTable.grown c.size);let q2 := Qq T c (SetTable.grown c.size) g3;generalize relayAll T c (SetTable.grown c.size) = Z at J f2 l2 q2 ⊢;obtain ⟨K, t3, g0⟩ := Z;dsimp only at J f2 l2 q2 ⊢;let bg : K.size = c.size := by rw [<- M5, J.length_eq, M5]
        let b2 : K.size < scanBound := by rw [bg]; exact b1
        erw[Ms$ W _$ Ms$ UV (s := { s with heap := s.heap.update a (nI c T), toks := s.toks + 1 }) o1 Z ?_$ Ra b2];obtain ⟨_, S2⟩ := Kh (s := { s with heap := s.heap.update a (nI c T) }) (prog := prog) (w := w) o1 U Z (F.perm J) ((J.map _).trans P) G b2 f2 (l2.trans$ g2.trans X) q2;exact Mu #[Z, h ν _ _ (I.trans$ N6 _ a _) (by rw [MS D]; exact S2) (NM _)]
      · exact Mu #[Z, h ν _ _ I (by rw [MS D]; exact S1) (NM _)]
    split
    · rename_i tp
      erw[Ms ?_];rw [hashByValue_scannable 8 (x := .str x f) Z];erw[Mu ?_];let e0 : plainKind (.str x f) = μ := rfl;rw [e0];simp only [MV, ↓reduceIte];erw[Ny (i { t1 with plain := μ } (SetTable.fits_plain_off M) O Z) (λr s' q => ?_) λ_ _ z => z];obtain ⟨rfl, q⟩ := q;exact Mu q
    · rename_i tp
      erw[Ms$ Mu ?_];simp only [↓reduceIte];erw[Ny (i t1 M O (by simpa using tp)) (λr s' q => ?_) λ_ _ z => z];obtain ⟨rfl, q⟩ := q;exact Mu q
end
def bj(w:bU):gm:={ cls:=.type "set",dict:=ζ,data:=.set (ι []) 0 (.fresh 0 0 (!(w.params.followText "set-order"))) }
section
variable {prog:ψ}{w:bU}{A:cJ}{E:η->θ->Prop}{s:θ}
def Yu{h:ef}(e:h.get? a=δ (bj w)):cV prog w h a []:=
 #[_,(ι []),0,_,e,#[Z,Z,Z],Z,λ_ z=>by simp at z,LM,Rr,(by decide:(0:Nat) < scanBound),Z,Z,.inr Z]
def QE(a:η){G:η->θ->Prop}(h:G (.ref s.heap.objs.size) { s with heap:=s.heap.push (bj w) }):
  fv (υ prog w) A (.call (.builtin "set.__new__") #[[.type "set",a],[]]) (wants G E) s:=by
 erw[Rx ?_];show ξ _ A.in1 (do checkBuiltinCall "set.__new__" _;again (.builtin "set.__new__" _)) _ _ s;erw[Ms$ P' (PySem.F.newCall_set_1 a)$ Mu #[Oz SW _,NO PySem.F.entry_set_new ?_]];rw[Nx SW];unfold eK.«set.__new__» Builtin.Frozenset.newClass;let o:=sub_set_self;let⟨H,g,d,t,os⟩:=s;dsimp only;wp_walk;erw[OR$ Mu ?_];dsimp only;simp only[newObj];exact Ms$ wpAny_alloc$ Mu$ Mu h
end
theorem StrsAre.at':∀{V:List η} {s:List π},StrsAre V s->∀(i:Nat) (v:η),V[i]?=δ v->∃x t,s[i]?=δ x/\v= .str x t
 |_,_,.nil,i,v,h=>by simp at h
 |_,_,.cons y t r,0,v,h=>by simp at h;exact#[y,t,Z,h.symm]
 |_,_,.cons y t r,i+1,v,h=>by simp only[List.getElem?_cons_succ]at h;let⟨x,T,e,E⟩:=StrsAre.at' r i v h;exact#[x,T,by simpa using e,E]
theorem StrsAre.len:∀{v:List η} {s:List π},StrsAre v s->s.length=v.length
 |_,_,.nil=>rfl
 |_,_,.cons _ _ r=>by simp [StrsAre.len r]
def j7:Slot "set_iterator" "__next__" "set_iterator.__next__":=by
 erw[.of (owner:="set_iterator") (n:="__next__") ?_ LL LL LL ?_ ?_]
 .rw[NT,Np];kernel_rfl
 .first |exact .inl LL |exact .inr LL
 .rw[Ob];kernel_rfl
def qI:Slot "set_iterator" "__iter__" "set_iterator.__iter__":=by
 erw[.of (owner:="set_iterator") (n:="__iter__") ?_ LL LL LL ?_ ?_]
 .rw[NT,Np];kernel_rfl
 .first |exact .inl LL |exact .inr LL
 .rw[Ob];kernel_rfl
def J6:entryFor table "set_iterator.__next__"=δ eK.«set_iterator.__next__»:=Pe (by kernel_rfl)
def J7:entryFor table "set_iterator.__iter__"=δ eK.«dict_keyiterator.__iter__»:=by erw[RL (id':="dict_keyiterator.__iter__") ?_ Z LL ?_]<;>kernel_rfl
def Km:entryFor table "set.__iter__"=δ eK.«frozenset.__iter__»:=by erw[RL (id':="frozenset.__iter__") ?_ Z LL ?_]<;>kernel_rfl
def Kn(a:η):argsOk "set_iterator.__next__" #[[a],[]]:=by unfold argsOk;kernel_rfl
def Ko(a:η):argsOk "set_iterator.__iter__" #[[a],[]]:=by unfold argsOk;kernel_rfl
def ci(h:ef)(I:ε)(f:η)(i:Nat)(S:ε)(n e:Nat):Prop:=
 ∃o,h.get? I=δ o/\o.cls= .type "set_iterator"/\o.data= .fields (ι [f,.int i 0,.ref S,.int n 0,.int e 0])
def ci.at{H:ef}{S:ε}(x:ci h I f i S n E)(e:∀o,h.get? I=δ o->H.get? I=δ o):ci H I f i S n E:=
 let #[o,a,r]:=x;#[o,e o a,r]
def ci.is{s:θ}{S:ε}(x:ci s.heap I f i S n e):s.TypeIs (.ref I) "set_iterator":=let #[o,h,H,_]:=x;#[o,h,H]
section
variable {prog:ψ}{w:bU}{A:cJ}{E:η->θ->Prop}{s:θ}
def Ks{c:Type}{Q:c->θ->Prop}(d:A.handled=ζ)
  (h:∀H e,(∀b o,s.heap.get? b=δ o->H.get? b=δ o)->Shared.TypeIs { s with heap:=H } e "StopIteration"->E e { s with heap:=H }):
  ξ (υ prog w) A (do raiseNew (<- newExc (.type "StopIteration") []):Sem c) Q E s:=by
 erw[Ms ?_];simp only[newExc,newTuple];erw[Ms$ Na ?_ (by size_fits)];erw[Ms (m:=firstArgMember _ _)$ P' (a:=β) ?_ ?_]
 .first |rfl | (simp only[firstArgMember];rfl)
 erw[Na ?_ (by size_fits)];simp only[raiseNew];erw[Ms$ wpAny_handled ?_];rw[d];erw[Ms$ Mu$ wpAny_throw$ h _ _ (λb o e=>Mt _ (Mt _ e)) ?_];exact#[_,MD _ Z,Z]
def Kt{S:ε}(H:ci s.heap I f i S n c)
  (h:ξ (υ prog w) A.in1 (eK.«set_iterator.__next__» #[[.ref I],[]]) (λF a=>∃v,F= .done (.ret v)/\Q (δ v) a) (λe a=>a.TypeIs e "StopIteration"/\Q ζ a) s):
  ξ (υ prog w) A (pyNext$ .ref I) Q E s:=by
 unfold pyNext;erw[Ms$ N9$ M' (name:=Str.ofString "__next__") H.is j7$ Nf j7 H.is J6 ?_$ Kn _];erw[Ny h (λF a q=>?_) λe a q=>?_]
 .let⟨v,e,q⟩:=q;exact#[v,e,Mu q]
 .exact Ms$ N8 (T:="StopIteration") (b:=ν) q.1 O8$ Mu q.2
def Xf{I:ε}{f:η}{i:Nat}{S:ε}{n a:Nat}{o:gm}{v:Array η}(H:s.heap.get? I=δ o)(b:o.cls= .type "set_iterator")(h:o.data= .fields v)(k:Nat)(x:η)
  (e:v.setIfInBounds k x=(ι [f,.int i 0,.ref S,.int n 0,.int a 0])):ci (s.heap.update I$ fJ (·.setIfInBounds k x)) I f i S n a:=
 #[_,M8 _ H$ NH$ M9 h _,(O2 ..).trans b,by rw[M9 h,e]]
def Y2{I S P:ε}{i:Nat}{O j:gm}{e:Array (Int×η)}{a:Nat}{t:SetTable}{k:Array η}{c p:Nat}{hx:Int}{x:η}{Q:Option η->θ->Prop}
  (h:ci s.heap I (.ref P) i S e.size a) (l:s.heap.get? S=δ O) (H:O.data= .set e a t) (m:t.fits e.size=ν) (n:s.heap.get? P=δ j) (b:j.data= .seq k c)
  (q:k[i]?=δ (.int p 0)) (r:e[p]?=δ (hx,x)) (u:∀d,ci d I (.ref P) (i+1) S e.size a->fy I s.heap d->Q (δ x) { s with heap:=d }):
  ξ (υ prog w) A (pyNext$ .ref I) Q E s:=by
 erw[Kt h ?_];let⟨o,f,v,g⟩:=h;show ξ _ _ (fieldsOf (.ref I) >>= _) _ _ s;erw[Ms$ RI f g ?_];dsimp only;erw[Ms$ OV l H m ?_];simp only[OB,MV,↓reduceIte];erw[Ms$ Nt n b ?_];simp only[Nr,q];unfold setNextDrawn;erw[Ms$ Ms$ Oc l H m ?_];simp only[OB,MV,↓reduceIte,r];erw[Mu ?_];erw[Ms$ Nj f g LM$ Mu #[x,Z,u _ ?_$ N6 ..]];exact Xf f v g _ _ (by simp [rawInt])
def Qr(q:A.handled=ζ){I S P:ε}{i:Nat}{O l:gm}{d:Array (Int×η)}{m:Nat}{t:SetTable}{p:Array η}{c:Nat}{Q:Option η->θ->Prop}
  (h:ci s.heap I (.ref P) i S d.size m) (r:s.heap.get? S=δ O) (f:O.data= .set d m t) (u:t.fits d.size=ν) (v:s.heap.get? P=δ l) (g:l.data= .seq p c)
  (x:p[i]?=ζ) (y:∀H,(∀b o,b≠I->s.heap.get? b=δ o->H.get? b=δ o)->Q ζ { s with heap:=H }):
  ξ (υ prog w) A (pyNext$ .ref I) Q E s:=by
 erw[Kt h ?_];let⟨o,j,B,a⟩:=h;show ξ _ _ (fieldsOf (.ref I) >>= _) _ _ s;erw[Ms$ RI j a ?_];dsimp only;erw[Ms$ OV r f u ?_];simp only[OB,MV,↓reduceIte];erw[Ms$ Nt v g ?_];simp only[Nr,x];erw[Ms$ Nj j a LM ?_];erw[Ms$ Nj (M8 _ j$ NH$ M9 a _) (M9 a _) LM ?_];erw[Ks (s:={ s with heap:=_ }) (by simpa using q) λH e k T=>#[T,y H λb o n z=>k b o ?_]];exact(MP _ _$ MU n).trans ((MP _ _$ MU n).trans z)
end
section
variable {prog:ψ}{w:bU}{A:cJ}{E:η->θ->Prop}{s:θ}
def Xg{I S:ε}{i j nx:Nat}{O:gm}{e:Array (Int×η)}{a:Nat}{t:SetTable}{x:η}{Q:Option η->θ->Prop}
  (h:ci s.heap I (.int j 0) i S e.size a) (f:s.heap.get? S=δ O) (b:O.data= .set e a t) (k:t.fits e.size=ν)
  (l:∀(q:Option (η×Nat)->θ->Prop) m,q (δ (x,nx)) s->ξ (υ prog w) A.in1 (setNext S j i a) q m s)
  (n:∀c,ci c I (.int nx 0) (i+1) S e.size a->fy I s.heap c->Q (δ x) { s with heap:=c }):
  ξ (υ prog w) A (pyNext$ .ref I) Q E s:=by
 erw[Kt h ?_];let⟨o,d,p,H⟩:=h;show ξ _ _ (fieldsOf (.ref I) >>= _) _ _ s;erw[Ms$ RI d H ?_];dsimp only;erw[Ms$ OV f b k ?_];simp only[OB,MV,↓reduceIte];simp only[Nr];erw[Ms$ l _ _ ?_];dsimp only;erw[Ms$ Nj d H LM ?_];let g:=M8 (fJ (·.setIfInBounds 0 (rawInt nx))) d (NH$ M9 H _);let D:=M9 H (·.setIfInBounds 0 (rawInt nx));erw[Ms$ Nj g D LM$ Mu #[x,Z,n _ ?_ ((N6 ..).trans$ N6 ..)]];exact Xf (s:={ s with heap:=_ }) g ((O2 ..).trans p) D _ _ (by simp [rawInt])
def Ji(l:A.handled=ζ){I S:ε}{i j:Nat}{O:gm}{a:Array (Int×η)}{c:Nat}{t:SetTable}{Q:Option η->θ->Prop}
  (h:ci s.heap I (.int j 0) i S a.size c) (m:s.heap.get? S=δ O) (d:O.data= .set a c t) (n:t.fits a.size=ν)
  (p:∀(q:Option (η×Nat)->θ->Prop) r,q ζ s->ξ (υ prog w) A.in1 (setNext S j i c) q r s)
  (u:∀H,(∀b o,b≠I->s.heap.get? b=δ o->H.get? b=δ o)->Q ζ { s with heap:=H }):
  ξ (υ prog w) A (pyNext$ .ref I) Q E s:=by
 erw[Kt h ?_];let⟨o,f,y,g⟩:=h;show ξ _ _ (fieldsOf (.ref I) >>= _) _ _ s;erw[Ms$ RI f g ?_];dsimp only;erw[Ms$ OV m d n ?_];simp only[OB,MV,↓reduceIte];simp only[Nr];erw[Ms$ p _ _ ?_];dsimp only;erw[Ms$ Nj f g LM ?_];erw[Ks (s:={ s with heap:=_ }) (by simpa using l) λH e k T=>#[T,u H λb o v x=>k b o ?_]];exact(MP _ _$ MU v).trans x
def JP(a:w.params.followText "set-order"=ν){S:ε}(b:s.heap.get? S=δ o)(H:o.data= .set c d t)
  (f:t.fits c.size=ν) {Q:Option (η×Nat)->θ->Prop} (h:Q (((pickOrder (w.params.setOrder S d) c)[i]?).map λe=>(e.2,j)) s):
  ξ (υ prog w) A (setNext S j i d) Q E s:=by
 unfold setNext;erw[Ms$ Oc b H f ?_];dsimp only;unfold setsByText;erw[Ms$ Ms$ OR$ Mu ?_];dsimp only;rw[show(υ prog w).w.params.followText "set-order"=_ from a];simp only[↓reduceIte,OB,MV];unfold setWalk;erw[Ms$ Ms$ Oc b H f ?_];dsimp only;unfold setsByText;erw[Ms$ Ms$ OR$ Mu ?_];dsimp only;rw[show(υ prog w).w.params.followText "set-order"=_ from a];simp only[↓reduceIte];exact Ms$ OR$ Mu$ Mu h
def Ki(a:w.params.followText "set-order"=μ){S:ε}(b:s.heap.get? S=δ o)(H:o.data= .set e c t)
  (d:t.fits e.size=ν) (f:t.led=ν) (l:e.size<=1) {Q:Option (η×Nat)->θ->Prop}
  (h:Q (match e[SetTable.below t.place j]?,t.place[SetTable.below t.place j]? with |some (_,x),δ k=>δ (x,k+1) |_,_=>ζ) s):
  ξ (υ prog w) A (setNext S j i c) Q E s:=by
 unfold setNext;erw[Ms$ Oc b H d ?_];dsimp only;unfold setsByText;erw[Ms$ Ms$ OR$ Mu ?_];dsimp only;rw[show(υ prog w).w.params.followText "set-order"=_ from a];simp only[MV,↓reduceIte];split
 .rename_i z
  let g:(!t.plain&&decide (e.size > 1))=ν:=z;simp only[NE,decide_eq_true_eq]at g;omega
 .erw[Ms ?_];show ξ _ _ (if (!t.led&&!e.isEmpty)=ν then _ else _) _ _ _;rw[f];simp only[Pa,UK,MV,↓reduceIte];exact Mu$ Mu h
end
def Yv{a:Type}(f:Nat->Nat):∀(n k:Nat) (l:List a) (o:Array a),l.length=n->(pickOrder.go f n k l o).toList.Perm (o.toList++l):=by
 intro n;induction n with
 |zero=>intro k l o h;rw[List.length_eq_zero_iff.mp h];unfold pickOrder.go;simp
 |succ n i=>intro k l o h;unfold pickOrder.go;let H:f k % l.length < l.length:=VI _ LN;rw[Mw H];dsimp only;erw[(i _ _ _ (by rw[Su H,h];rfl)).trans ?_];rw[TZ,Pw,List.singleton_append];erw[List.Perm.append_left _ ?_];rw[RS];erw[List.perm_middle.symm.trans ?_];rw[Tj,Tw]
def kE{a:Type}(f:Nat->Nat)(x:Array a):(pickOrder f x).toList.Perm x.toList:=by let h:=Yv f x.size 0 x.toList (ι []) (M5 ..);simpa [pickOrder] using h
def X9{a:Type}(x:Array a)(d:a):(kr x.size).map (λp=>(x[p]?).getD d)=x.toList:=by
 erw[List.ext_getElem LM λi b h=>?_];let H:i < x.size:=by simpa using h
 simp [H]
def nL(ord:List (Int×η))(i:Nat)(v:η):Prop:=∃e,ord[i]?=δ e/\v=e.2
section
variable {prog:ψ}{w:bU}{A:cJ}{E:η->θ->Prop}{s:θ}
def Ju{S:ε}(H:ci s.heap I f i S n e){Q:η->θ->Prop}(h:Q (.ref I) s):ξ (υ prog w) A (pyIter$ .ref I) Q E s:=by erw[Sf H.is qI$ Nf qI H.is J7 ?_$ Ko _];show ξ _ _ (ret$ .ref I) _ _ s;exact Mu #[_,Z,"set_iterator",_,H.is,j7.lookup,h]
def Y3(D:A.handled=ζ)(I S P:ε)(l:S≠I)(m:P≠I){O oP:gm}{y:List Nat}{c:Nat}(f:O.data= .set d G t)
  (u:t.fits d.size=ν) (g:oP.data= .seq (y.map λ(i:Nat)=>rawInt i).toArray c) (n:y.Perm (kr d.size)):
  WalksS prog w A I [I,S,P] [I] (λa b=>b=a) d.size (nL$ y.map λp=>(d[p]?).getD (0,.none))
   (λi s=>ci s.heap I (.ref P) i S d.size G/\s.heap.get? S=δ O/\s.heap.get? P=δ oP) where
 sub:=λb H=>by simp at H;simp [H]
 grefl:=λ_=>Z
 gtrans:=λ_ _ _ F J=>J.trans F
 frame:=λi s v T st _ k=>#[st.1.at λo e=>k I LM o e,k S LM _ st.2.1,k P LM _ st.2.2]
 item:=λi s Q E K st j=>by
  let B:y.length=d.size:=by rw[n.length_eq,RP]
  let h:i < y.length:=by omega
  let C:y[i] < d.size:=List.mem_range.mp (n.mem_iff.mp$ N4 h);erw[Y2 (p:=y[i]) (hx:=(d[y[i]]).1) (x:=(d[y[i]]).2) st.1 st.2.1 f u st.2.2 g (by simp [h,rawInt]) (by simp [C]) λv q r=>?_];erw[j _ _ #[d[y[i]],by simp [h,C],Z] #[q,?_,?_] #[λb o H e=>?_,Z,Z,Z,Mx _]]
  .rw[r.2 S l];exact st.2.1
  .rw[r.2 P m];exact st.2.2
  .rw[r.2 b (λz=>H (by simp [z]))];exact e
 done:=λs Q E st j=>by
  let B:y.length=d.size:=by rw[n.length_eq,RP]
  erw[Qr D st.1 st.2.1 f u st.2.2 g (by simp [B]) λv k=>j _ #[λb o H e=>k b o (λz=>H (by simp [z])) e,Z,Z,Z,Mx _]]
 self:=λ_ _ _ _ st j=>Ju st.1 j
def sr(r:A.handled=ζ)(m:w.params.followText "set-order"=ν)(I S:ε)(l:S≠I){O:gm}(h:O.data= .set c d t)
  (j:t.fits c.size=ν):
  WalksS prog w A I [I,S] [I] (λa b=>b=a) c.size (nL (pickOrder (w.params.setOrder S d) c).toList)
   (λi s=>ci s.heap I (.int (0:Nat) 0) i S c.size d/\s.heap.get? S=δ O) where
 sub:=λb H=>by simp at H;simp [H]
 grefl:=λ_=>Z
 gtrans:=λ_ _ _ u v=>v.trans u
 frame:=λi s n T st _ k=>#[st.1.at λo e=>k I LM o e,k S LM _ st.2]
 item:=λi s Q E D st f=>by
  let y:(pickOrder (w.params.setOrder S d) c).size=c.size:=by rw[<- M5,(kE _ _).length_eq,M5]
  let g:i < (pickOrder (w.params.setOrder S d) c).size:=by omega
  erw[Xg (x:=(pickOrder (w.params.setOrder S d) c)[i].2) (nx:=0) st.1 st.2 h j (λB C q=>JP m st.2 h j (by rw[Op g];exact q)) λn q p=>?_];erw[f _ _ #[(pickOrder (w.params.setOrder S d) c)[i],by rw[Oj];exact Op g,Z] #[q,?_] #[λb o H e=>?_,Z,Z,Z,Mx _]]
  .rw[p.2 S l];exact st.2
  .rw[p.2 b (λz=>H (by simp [z]))];exact e
 done:=λs Q E st f=>by
  let y:(pickOrder (w.params.setOrder S d) c).size=c.size:=by rw[<- M5,(kE _ _).length_eq,M5]
  erw[Ji r st.1 st.2 h j (λB C q=>JP m st.2 h j (by rw[P6 LN];exact q)) λn k=>f _ #[λb o H e=>k b o (λz=>H (by simp [z])) e,Z,Z,Z,Mx _]]
 self:=λ_ _ _ _ st f=>Ju st.1 f
def Y4(p:Nat):SetTable.below (ι [p]) 0=0:=by simp [SetTable.below,SetTable.below.go]
def Y5(p:Nat):SetTable.below (ι [p]) (p+1)=1:=by simp [SetTable.below,SetTable.below.go]
def wX(G:A.handled=ζ)(u:w.params.followText "set-order"=μ)(I S:ε)(n:S≠I){O:gm}(h:O.data= .set c L t)
  (g:t.fits c.size=ν) (v:t.led=ν) (y:c.size<=1):
  WalksS prog w A I [I,S] [I] (λa b=>b=a) c.size (nL c.toList)
   (λi s=>(∃j:Nat,ci s.heap I (.int j 0) i S c.size L/\(i=0->j=0)/\(i=1->∃p,t.place=(ι [p])/\j=p+1))/\s.heap.get? S=δ O) where
 sub:=λb d=>by simp at d;simp [d]
 grefl:=λ_=>Z
 gtrans:=λ_ _ _ K M=>M.trans K
 frame:=λi s B W st _ k=>#[let #[j,a,r]:=st.1;#[j,a.at λo e=>k I LM o e,r],k S LM _ st.2]
 item:=λi s Q E X st l=>by
  obtain⟨⟨j,H,J,C⟩,f⟩:=st;let N:i=0:=by omega
  subst N;cases J Z;let D:c.size=1:=by omega
  let P:t.place.size=1:=by simp only[SetTable.fits,NE,beq_iff_eq]at g;omega
  let⟨p,m⟩:=Array.size_eq_one_iff.mp P;erw[Xg (x:=(c[0]'LN).2) (nx:=p+1) H f h g (λR T q=>Ki u f h g v y (by rw[m,Y4,Op LN];exact q)) λB q F=>?_];erw[l _ _ #[c[0]'LN,by rw[Oj];exact Op LN,Z] #[#[_,q,λz=>by omega,λ_=>#[p,m,Z]],?_] #[λb o d e=>?_,Z,Z,Z,Mx _]]
  .rw[F.2 S n];exact f
  .rw[F.2 b (λz=>d (by simp [z]))];exact e
 done:=λs Q E st l=>by
  obtain⟨⟨j,H,J,C⟩,f⟩:=st;erw[Ji G H f h g (λR T q=>Ki u f h g v y ?_) λB k=>l _ #[λb o d e=>k b o (λz=>d (by simp [z])) e,Z,Z,Z,Mx _]];by_cases z:c.size=0
  .rw[P6 (show c.size<=_ by omega)];exact q
  .let D:c.size=1:=by omega
   let⟨p,U,V⟩:=C D;subst V;rw[U,Y5,P6 (show c.size<=1 by omega)];exact q
 self:=λ_ _ _ _ st l=>let #[#[_,a,_],_]:=st;Ju a l
end
def qE{prog:ψ}{w:bU}(h:ElemsOf (el prog w) E)(i:Nat)(v:η)(b:nL E i v):∃x t,(E.map λe=>my e.2)[i]?=δ x/\v= .str x t:=by let⟨e,H,rfl⟩:=b;obtain⟨⟨k,c,_⟩,_⟩:=h e (ML H);let⟨t,a⟩:=Pb c;exact#[k,t,by rw[MK,H];show δ (my e.2)=_;rw[a];rfl,a]
def Cn(p:ψ)(w:bU)(s c:θ)(S I:ε)(L:List π):Prop:=
 ∃(f:List ε) (d:List π) (P:Nat->η->Prop) (St:Nat->θ->Prop),(∀b o,s.heap.get? b=δ o->c.heap.get? b=δ o)/\c.gens=s.gens/\c.os=s.os/\s.toks<=c.toks/\
  s.heap.objs.size<=I/\I < c.heap.objs.size/\c.TypeIs (.ref I) "set_iterator"/\(∀b∈f,b=S∨s.heap.objs.size<=b)/\(∀A:cJ,A.handled=ζ->WalksS p w A I f [I] (λa b=>b=a) d.length P St)/\St 0 c/\
  (∀i v,P i v->∃x t,d[i]?=δ x/\v= .str x t)/\d.Perm L
section
variable {prog:ψ}{w:bU}{A:cJ}{E:η->θ->Prop}{s:θ}
def Y6{S:ε}(V:cV prog w s.heap S L){Q:η->θ->Prop}(h:∀f I,Cn prog w s f S I L->Q (.ref I) f):ξ (υ prog w) A (pyIter$ .ref S) Q E s:=by
 let⟨o,a,x,t,H,W,m,n,M,X,r,u,Y,N⟩:=V;let P:s.TypeIs (.ref S) "set":=#[o,H,W.1];let v:S < s.heap.objs.size:=My H;erw[Sf P SV$ Nf SV P Km ?_$ PySem.F.args_set_iter_1 _];unfold eK.«frozenset.__iter__»;show ξ _ _ (Builtin.Frozenset.sizeOf S >>= _) _ _ s;unfold Builtin.Frozenset.sizeOf;erw[Ms$ Ms$ OV H m u$ Mu ?_];unfold setDrawn;erw[Ms$ Ms$ Oc H m u ?_];dsimp only;unfold setsByText;erw[Ms$ Ms$ OR$ Mu$ Mu ?_];split
 .rename_i z
  let B:(!(w.params.followText "set-order")&&(!t.plain&&decide (a.size > 1)))=ν:=z;simp only[NE,decide_eq_true_eq]at B;erw[Ms$ Ys a.size (kr a.size) s LM λy d G=>?_];let C:y.length=a.size:=by rw[G.length_eq,RP]
  let O:((y.map λ(i:Nat)=>rawInt i).length)<=τ:=by rw[Mv,C];exact Ra r
  erw[Ms$ Tp (s:={ s with drawn:=d }) ?_ O];erw[Ms ?_];unfold setEpoch;erw[Ms$ Oc (Mt _ H) m u$ Mu ?_];erw[Ms$ Na$ Mu #[_,Z,"set_iterator",_,#[_,MD _ Z,Z],j7.lookup,h _ _ ?_]];generalize J:s.heap.push { cls:=.type "tuple",data:=.seq (y.map λ(i:Nat)=>rawInt i).toArray }=g;let R:g.objs.size=s.heap.objs.size+1:=by rw[<- J,Nc]
  let gP:g.get? s.heap.objs.size=δ { cls:=.type "tuple",data:=.seq (y.map λ(i:Nat)=>rawInt i).toArray }:=by rw[<- J];exact MD _ Z
  let gS:g.get? S=δ o:=by rw[<- J];exact Mt _ H
  refine#[[g.objs.size,S,s.heap.objs.size],(y.map λp=>(a[p]?).getD (0,.none)).map λe=>my e.2,nL$ y.map λp=>(a[p]?).getD (0,.none),
   (λi f=>ci f.heap g.objs.size (.ref s.heap.objs.size) i S a.size x/\f.heap.get? S=δ o/\f.heap.get? s.heap.objs.size=δ { cls:=.type "tuple",data:=.seq (y.map λ(i:Nat)=>rawInt i).toArray }),λb o e=>?_,Z,Z,Mx _,?_,?_,#[_,MD _ Z,Z],λb r=>?_,
   λT D=>?_,#[#[_,MD _ Z,Z,Z],Mt _ gS,Mt _ gP],?_,?_]
  .exact Mt _ (by rw[<- J];exact Mt _ e)
  .show s.heap.objs.size<=g.objs.size;omega
  .show g.objs.size < (g.push _).objs.size;rw[Nc];exact NV _
  .simp only[Nv,MO,OZ]at r;rcases r with e |e |e
   .subst e;exact .inr LN
   .exact .inl e
   .rw[e];exact .inr (Mx _)
  .let q:=Y3 (prog:=prog) (w:=w) D g.objs.size S s.heap.objs.size (MG (by rw[R];exact Ov v)) (MG (by rw[R];exact NV _)) m u (oP:={ cls:=.type "tuple",data:=.seq (y.map λ(i:Nat)=>rawInt i).toArray }) (c:=0) Z G;simpa [C] using q
  .erw[qE (prog:=prog) (w:=w)$ n.perm ?_];let q:=G.map λp=>(a[p]?).getD ((0:Int),β);rwa [X9]at q
  .let q:=G.map λp=>(a[p]?).getD ((0:Int),β);rw[X9]at q;exact(q.map _).trans M
 .rename_i z
  let B:¬(!(w.params.followText "set-order")&&(!t.plain&&decide (a.size > 1)))=ν:=z;erw[Ms$ Mu ?_];erw[Ms ?_];unfold setEpoch;erw[Ms$ Oc H m u$ Mu ?_];erw[Ms$ Na$ Mu #[_,Z,"set_iterator",_,#[_,MD _ Z,Z],j7.lookup,h _ _ ?_]];let k:∀b∈[s.heap.objs.size,S],b=S∨s.heap.objs.size<=b:=λb r=>by
   simp only[Nv,MO,OZ]at r;rcases r with e |e
   .subst e;exact .inr (Mx _)
   .exact .inl e
  let l:∀U:gm,s.heap.objs.size < (s.heap.push U).objs.size:=λU=>by rw[Nc];exact NV _
  cases K:w.params.followText "set-order" with
  |true=>
   let pl:(pickOrder (w.params.setOrder S x) a).toList.length=a.size:=by rw[(kE _ _).length_eq,M5]
   refine#[[s.heap.objs.size,S],(pickOrder (w.params.setOrder S x) a).toList.map λe=>my e.2,nL (pickOrder (w.params.setOrder S x) a).toList,
    (λi f=>ci f.heap s.heap.objs.size (.int (0:Nat) 0) i S a.size x/\f.heap.get? S=δ o),λb o e=>Mt _ e,Z,Z,Mx _,Mx _,l _,#[_,MD _ Z,Z],k,
    λT D=>?_,#[#[_,MD _ Z,Z,Z],Mt _ H],?_,?_]
   .let q:=sr (prog:=prog) (w:=w) D K s.heap.objs.size S (MG v) m u;rw[Mv,pl];exact q
   .exact qE (prog:=prog) (w:=w)$ n.perm$ kE _ _
   .exact((kE _ _).map _).trans M
  |false=>
   let hs:a.size<=1:=by
    rw[K]at B;rcases N with e |e
    .rw[e]at B;simp at B;exact B
    .omega
   refine#[[s.heap.objs.size,S],a.toList.map λe=>my e.2,nL a.toList,
    (λi f=>(∃j:Nat,ci f.heap s.heap.objs.size (.int j 0) i S a.size x/\(i=0->j=0)/\(i=1->∃p,t.place=(ι [p])/\j=p+1))/\f.heap.get? S=δ o),λb o e=>Mt _ e,Z,Z,Mx _,Mx _,l _,#[_,MD _ Z,Z],k,
    λT D=>?_,#[#[0,#[_,MD _ Z,Z,Z],λ_=>Z,λz=>by cases z],Mt _ H],?_,?_]
   .let q:=wX (prog:=prog) (w:=w) D K s.heap.objs.size S (MG v) m u (by rw[Y,K];rfl) hs;rw[Mv,M5];exact q
   .exact qE (prog:=prog) (w:=w) n
   .exact M
theorem Jj:∀(V:List η) (S:List π),V.length=S.length->(∀(i:Nat) (v:η),V[i]?=δ v->∃x t,S[i]?=δ x/\v=mu x t)->StrsAre V S
 | [],[],_,_=>.nil
 | [],_::_,h,_ |_::_,[],h,_=>by cases h
 |v::V,y::S,h,k=>by let⟨x,t,e,rfl⟩:=k 0 v Z;cases e;exact .cons y t$ Jj V S (by simpa using h) λi u H=>k (i+1) u (by simpa using H)
def QF{S:ε}(hh:A.handled=ζ)(y:cV prog w s.heap S L){Q:List η->θ->Prop}
  (h:∀a V g,s.heap.objs.size<=a.heap.objs.size->(∀b o,s.heap.get? b=δ o->a.heap.get? b=δ o)->a.gens=s.gens->a.os=s.os->s.toks<=a.toks->StrsAre V g->g.Perm L->Q V a):ξ (υ prog w) A (collect$ .ref S) Q E s:=by
 let n:L.length < scanBound:=by let⟨o,es,ep,t,j,M,hd,h0,u,h1,k,hf,hl,h2⟩:=y;rw[<- u.length_eq,Mv,M5];exact k
 unfold collect;erw[Ms$ RG$ NO RV ?_];rw[Nx RU];show ξ _ A.in1 (newList [] >>= λl=>again (.builtin "list.__iadd__" #[[l,.ref S],[]])) _ _ s;erw[Ms$ Na$ Mu #[Oz OP _,NO Sr ?_]];rw[Nx OP];show ξ _ A.in1 (hY (.ref s.heap.objs.size) (.ref S)$ .ref s.heap.objs.size) _ _ _;unfold hY;let p:S < s.heap.objs.size:=by let⟨o,_,_,_,j,_⟩:=y;exact My j
 generalize x:s.heap.push { cls:=.type "list",data:=.seq ([]:List η).toArray }=H;let gl:H.get? s.heap.objs.size=δ { cls:=.type "list",data:=.seq ([]:List η).toArray }:=by rw[<- x];exact MD _ Z
 let R:cV prog w H S L:=y.at λo e=>by rw[<- x];exact Mt _ e
 let gk:∀b o,s.heap.get? b=δ o->H.get? b=δ o:=λb o e=>by rw[<- x];exact Mt _ e
 let T:Shared.TypeIs { s with heap:=H } (.ref S) "set":=by let⟨o,_,_,_,j,M,_⟩:=R;exact#[o,j,M.1]
 erw[Ms$ Ol T ?_];let n1:eE (.ref s.heap.objs.size) (.ref S)=μ:=by simp only[eE,beq_eq_false_iff_ne];exact Nz p
 let n2:(gb "set"==gb "list")=μ:=by decide
 let n3:(gb "set"==gb "tuple")=μ:=by decide
 simp only[n1,n2,n3,Tb,MV,NR];erw[Ms$ Y6 (s:={ s with heap:=H }) R λr I B=>?_];let⟨fp,g,P,St,K,kg,ko,kt,C,h3,h4,D,W,st,hv,u⟩:=B;let G:H.objs.size=s.heap.objs.size+1:=by rw[<- x,Nc]
 let f:r.TypeIs (.ref S) "set":=by let⟨o,j,hc⟩:=T;exact#[o,K _ _ j,hc]
 erw[Ms$ MW ?_];unfold ly;erw[Ms$ N0 f PySem.F.slot_set_len.lookup ?_]
 wp_delta
 erw[Ms$ N8 (b:=ν) f sub_set_self ?_];show ξ _ A.in1 (typeOf (ω S) >>= _) _ _ _;erw[Ms$ Ol f$ Mu ?_];rw[MQ LO];erw[Ms$ Oe ?_];let U:=K _ _ gl;erw[Ms ?_];show ξ _ A.in1 (updateSeq s.heap.objs.size (·.push .none) >>= λ_=>updateSeq s.heap.objs.size (·.pop)) _ _ _;erw[Ms$ Rv U Z ?_];let X:=M8 (ib (·.push β)) U Z;erw[Rv X Z ?_];let g3:=M8 (ib (·.pop)) X Z;let N:¬s.heap.objs.size∈fp:=λm=>by
  rcases D _ m with e |e
  .exact absurd p (by rw[<- e];exact Nk _)
  .let e':H.objs.size<=s.heap.objs.size:=e;omega
 let O:∀b o,b≠s.heap.objs.size->r.heap.get? b=δ o->((r.heap.update s.heap.objs.size$ ib (·.push β)).update s.heap.objs.size$ ib (·.pop)).get? b=δ o:=
  λb o k e=>(MP _ _$ MU k).trans ((MP _ _$ MU k).trans e)
 let Y:=W A.in1 (by simpa using hh);let hn:g.length<=τ:=by rw[u.length_eq];exact Ra n
 erw[Mu #[Oz R9 _,Uu Y hn _ N _ g.length 0 _ _ _ Z (MH _) (Y.frame 0 r _ r.toks st (Mx _) λb k o e=>O b o (λz=>N (z▸k)) e) g3 (UG P) λa J c m gS d=>?_]];show ξ _ A (load s.heap.objs.size >>= _) _ _ a;erw[Ms$ UM gS$ Mu$ h a J.toList g (ON$ My gS) (λb o e=>?_) ?_ ?_ ?_ ?_ u]
 .let ne:b≠s.heap.objs.size:=MG (My e);erw[m.heap b o ?_$ O b o ne$ K b o$ gk b o e];simp only[Nv,MO,OZ,not_or];erw[#[ne,λz=>?_]];let q:s.heap.objs.size+1<=I:=G▸C;let q2:=My e;rw[z]at q2;exact absurd (MN (Ov q2) q)$ Nk _
 .exact m.gens.trans kg
 .exact m.os.trans ko
 .exact MT kt m.toks
 .erw[Jj _ _ (by rw[M5,d.1]) λi v e=>hv i v (d.2 i v (by rwa [Oj]at e))]
end
section
variable {prog:ψ}{w:bU}{A:cJ}{E:η->θ->Prop}{s:θ}
def XQ{S:ε}(z:A.handled=ζ)(B:cV prog w s.heap S L)(j:L.length < 64){Q:η->θ->Prop}
  (h:∀f a c v i,s.heap.objs.size<=a->(∀b o,s.heap.get? b=δ o->f.heap.get? b=δ o)->f.gens=s.gens->f.os=s.os->f.heap.get? a=δ (seqObj "list" v c)->StrsAre v.toList i->i.Perm L->sortedS i=ν->Q (.ref a) f):
  ξ (υ prog w) A (call (.builtin "sorted") [.ref S]) Q E s:=by
 erw[Calls.call_function_entry kind_sorted plain_sorted entry_sorted (args_sorted1 _) ?_];unfold eK.«sorted»;erw[Ms (m:=checkCount "sorted" 1 1 _)$ Mu ?_];erw[Ms$ QF (by simpa using z) B λd v i K k C D P H r=>?_];let F:v.length < 64:=by rw[<- _L.StrsAre.len H,r.length_eq];exact j
 erw[Ms$ wpAny_newList ?_ (by let q:τ=1000000000∨64<=τ:=.inr LO;omega)];let g:=MD d.heap (o:=seqObj "list" v.toArray 0) Z;erw[Ms$ MW$ Nf slot_list_sort #[_,g,Z] entry_list_sort (list_sort_treeK strKind_oneLt g H.keysOf (λV t R e=>keyKind_strs (by rw[<- e];exact H)) F λl G I=>#[_,Z,?_]) (args_list_sort _)];let⟨n,u,J,M⟩:=sorted_out_str H G I;generalize (arrOf l).map (·.2)=out at u ⊢;let⟨c,N⟩:=sortedHeap_at (out:=out) g;let O:∀b o,s.heap.get? b=δ o->(sortedHeap (d.heap.push$ seqObj "list" v.toArray 0) d.heap.objs.size v out).get? b=δ o:=by
  intro b o e;let x:=k b o e;let y:b < d.heap.objs.size:=My x;let p:b < (d.heap.push$ seqObj "list" v.toArray 0).objs.size:=by rw[size_push'];exact Ov y
  rw[sortedHeap_old (MG y) p];exact Mt _ x
 exact Mu #[_,Z,h { d with heap:=sortedHeap (d.heap.push$ seqObj "list" v.toArray 0) d.heap.objs.size v out } d.heap.objs.size c out n K O C D N u (J.trans r) M]
end
def JQ(h:StrsAre v s):aw (s.map ti) v:=by
 induction h with
 |nil=>exact .nil
 |cons y t _ i=>exact .cons #[t,Z] i
def HM(P:ψ)(w:bU)(a:ε)(L:List π):HO:=.ext λh=>cV P w h a L
section
variable {X:Cx}
def qF(i:X.calm=ν):dI X (.builtin "sorted") (λx H Q=>∃(p:ε) (L:List π),x=[.ref p]/\H p=δ (HM X.prog X.w p L)/\L.length < 64/\
  ∀l S,H l=ζ->S.Perm L->L.Nodup->sortedS S=ν->Q (.ref l) (upd H l$ .lst$ S.map ti)):=by
 intro P s B H x U Q I r h;let⟨p,L,rfl,j,d,q⟩:=h;let⟨u,rfl,R⟩:=eZ r;cases R;let⟨f,_,_⟩:=I.hok p _ j;let b:L.Nodup:=by let⟨_,_,_,_,_,_,_,_,_,b,_⟩:=f;exact b
 erw[XQ (I.ok.hd i) f d λm a c v S e k K o t y g A=>?_];let len:(S.map ti).length<=τ:=by rw[Mv,g.length_eq];exact MT (ON d) LO
 let n:aO X.prog X.w (upd H a$ .lst$ S.map ti) m.heap a (.lst$ S.map ti):=#[len,v.toList,c,JQ y,t];erw[#[.ref a,_,I.call' (ch:=[]) o (Un.laid k e$ I.hok.fresh e) (I.hok.laid k e n) (by rw[K];exact I.bare) (λ_ z=>nomatch z),Z,q _ _ (I.hok.fresh e) g b A]]
def XS:dI X (.builtin "sorted") (λx H Q=>∃(p:ε) (a:List π),x=[.ref p]/\aF X.K H p (a.map ti)/\a.length < 64/\
  ∀l S,H l=ζ->S.Perm a->sortedS S=ν->Q (.ref l) (upd H l$ .lst$ S.map ti)):=by
 intro P s v H x U Q I r h;let⟨p,a,rfl,f,b,q⟩:=h;let⟨u,rfl,R⟩:=eZ r;cases R;let⟨i,g,j,y⟩:=I.list f;let d:=qz g;let k:i.length=a.length:=(_L.StrsAre.len d).symm;erw[sorted_strs j.isList d (by rw[k];exact b) λo S m A n=>?_];let⟨c,t⟩:=sortedAll_at s.heap i o;let len:(S.map ti).length<=τ:=by rw[Mv,A.length_eq];exact MT (ON b) LO
 erw[#[.ref$ s.heap.objs.size+1,_,I.laid (t':=s.toks) (λ_ _ e=>sortedAll_old e) (NM _) (show aO X.prog X.w _ _ _ (.lst$ S.map ti) from #[len,o.toList,c,JQ m,t]),Z,q _ _ (I.hok.fresh$ NM _) A n]]
end
def ZF:mroOf (.type "reversed")=pure [.type "reversed",.type "object"]:=by rw[mroOf_type];kernel_rfl
def Qs:typeLookup (.type "reversed") "__new__"=pure (δ$ .builtin "reversed.__new__"):=by rw[NT,Np];kernel_rfl
def QG:Slot "reversed" "__init__" "object.__init__":=by
 erw[.of (owner:="object") (n:="__init__") ?_ LL LL LL ?_ ?_]
 .rw[NT,Np];kernel_rfl
 .first |exact .inl LL |exact .inr LL
 .rw[Ob];kernel_rfl
def Y7:TypeCalled "reversed" "reversed.__new__" "object.__init__":=by erw[#[LL,LL,#[_,_,ZF],madeBy_type ZF Qs LL,LL,?_,QG]];rw[Ob];kernel_rfl
def XT(a:η):checkTypeCall "reversed" #[[a],[]]=pure ():=by kernel_rfl
def Yw(a:η):checkBuiltinCall "reversed.__new__" #[[.type "reversed",a],[]]=pure ():=by kernel_rfl
def QH:entryFor table "reversed.__new__"=δ eK.«reversed.__new__»:=Pe (by kernel_rfl)
def AU:isSubtype (.type "reversed") (.type "reversed")=pure ν:=by rw[Ob];kernel_rfl
def XU:typeLookup (.type "tuple") "__reversed__"=pure ζ:=by rw[NT,Np];kernel_rfl
def Qt:isSubtype (.type "tuple") (.type "dict")=pure μ:=by rw[Ob];kernel_rfl
def revObj(t:ε)(n:Int):gm:={ cls:=.type "reversed",data:=.fields (ι [.ref t,.int (n - 1) 0]) }
section
variable {prog:ψ}{w:bU}{A:cJ}{E:η->θ->Prop}{s:θ}
def sT{Q:η->θ->Prop}(H:IsTup s.heap t i)(c:(i.size:Int) < 2 ^ 63)
  (h:Q (.ref s.heap.objs.size) { s with heap:=s.heap.push (revObj t i.size),toks:=s.toks+1+1 }):ξ (υ prog w) A (call (.type "reversed") [.ref t]) Q E s:=by
 refine callType_new (S:=λ_ R a=>a=s/\R (.ok$ .ret$ .ref s.heap.objs.size) { s with heap:=s.heap.push (revObj t i.size),toks:=s.toks+1+1 }) Y7 LO (XT _) (Yw _) (λo=>RZ o _) QH
  (.of_wp λp W f R a d=>?_) #[Z,#[_,MD _ Z,Z],h]
 let⟨rfl,e⟩:=d;unfold eK.«reversed.__new__» Builtin.SmallTypes.newClass;erw[Ms ?_];dsimp only;erw[Ms$ Mu ?_];simp only[Pa,MV,NR];erw[Ms$ P' AU ?_];simp only[Pa,MV,NR];erw[Mu ?_];erw[Ms (m:=Builtin.SmallTypes.refuseKeywords _ _ _)$ Mu ?_];erw[Ms (m:=checkCount "reversed" 1 1 _)$ Mu ?_];dsimp only;erw[Ms$ N0 H.typeIs XU ?_];dsimp only;erw[Ms ?_];show ξ _ _ (isInstance (.ref t) (.type "dict") >>= _) _ _ _;erw[Ms$ N8 (b:=μ) H.typeIs Qt ?_];simp only[MV,NR];erw[Ms$ N0 H.typeIs PyProof.Rows.slot_tuple_getitem.lookup ?_];dsimp only;rw[MQ LL];erw[Mu ?_];simp only[Pa,MV,NR];erw[Ms$ len_tuple H c ?_];erw[Ms (m:=asInt? _)$ Mu ?_];dsimp only;show ξ _ _ (newObj (.type "reversed") (.fields [ω t,rawInt ((i.size:Int) - 1)].toArray) >>= _) _ _ _;exact Ms$ Na$ Mu #[_,Z,e]
end
def qk:Slot "reversed" "__next__" "reversed.__next__":=by
 erw[.of (owner:="reversed") (n:="__next__") ?_ LL LL LL ?_ ?_]
 .rw[NT,Np];kernel_rfl
 .first |exact .inl LL |exact .inr LL
 .rw[Ob];kernel_rfl
def Jk:Slot "reversed" "__iter__" "reversed.__iter__":=by
 erw[.of (owner:="reversed") (n:="__iter__") ?_ LL LL LL ?_ ?_]
 .rw[NT,Np];kernel_rfl
 .first |exact .inl LL |exact .inr LL
 .rw[Ob];kernel_rfl
def Qu:entryFor table "reversed.__next__"=δ eK.«reversed.__next__»:=Pe (by kernel_rfl)
def Qv:entryFor table "reversed.__iter__"=δ eK.«dict_keyiterator.__iter__»:=by erw[RL (id':="dict_keyiterator.__iter__") ?_ Z LL ?_]<;>kernel_rfl
def QI(a:η):argsOk "reversed.__next__" #[[a],[]]:=by unfold argsOk;kernel_rfl
def QJ(a:η):argsOk "reversed.__iter__" #[[a],[]]:=by unfold argsOk;kernel_rfl
def dJ(h:ef)(I t:ε)(k:Int):Prop:=∃o,h.get? I=δ o/\o.cls= .type "reversed"/\o.data= .fields (ι [.ref t,.int k 0])
def dJ.at{H:ef}(x:dJ h I t k)(e:∀o,h.get? I=δ o->H.get? I=δ o):dJ H I t k:=let #[o,a,r]:=x;#[o,e o a,r]
def dJ.is{s:θ}(x:dJ s.heap I t k):s.TypeIs (.ref I) "reversed":=let #[o,h,H,_]:=x;#[o,h,H]
section
variable {prog:ψ}{w:bU}{A:cJ}{E:η->θ->Prop}{s:θ}
def Ya(H:dJ s.heap I t k)
  (h:ξ (υ prog w) A.in1 (eK.«reversed.__next__» #[[.ref I],[]]) (λf S=>∃v,f= .done (.ret v)/\Q (δ v) S) (λe S=>S.TypeIs e "StopIteration"/\Q ζ S) s):
  ξ (υ prog w) A (pyNext$ .ref I) Q E s:=by
 unfold pyNext;erw[Ms$ N9$ M' (name:=Str.ofString "__next__") H.is qk$ Nf qk H.is Qu ?_$ QI _];erw[Ny h (λf S q=>?_) λe S q=>?_]
 .let⟨v,e,q⟩:=q;exact#[v,e,Mu q]
 .exact Ms$ N8 (T:="StopIteration") (b:=ν) q.1 O8$ Mu q.2
def FT{I t:ε}{k:Nat}{items:Array η}{x:η}{Q:Option η->θ->Prop}(H:dJ s.heap I t k)(c:IsTup s.heap t items)(d:items[k]?=δ x)(e:(items.size:Int) < 2 ^ 63)
  (f:∀b,dJ b I t ((k:Int) - 1)->fy I s.heap b->Q (δ x) { s with heap:=b,toks:=s.toks+1 }):ξ (υ prog w) A (pyNext$ .ref I) Q E s:=by
 erw[Ya H ?_];let⟨o,a,g,h⟩:=H;let i:k < items.size:=(bF.mp d).1;show ξ _ _ (field (.ref I) 0 >>= _) _ _ s;erw[Ms$ M3 a h (x:=.ref t) Z$ Ms$ M3 a h (x:=.int k 0) Z ?_];dsimp only;rw[MS LN];erw[Ms$ N0 c.typeIs PyProof.Rows.slot_tuple_getitem.lookup ?_];simp only[TF,MV,NR];erw[Ms$ wpAny_mkInt$ Ms$ N9 ?_];erw[getItem_tuple (s:={ s with toks:=s.toks+1 }) c LN LN (j:=k) ?_ d ?_]
 .unfold seqIndex?;simp;omega
 erw[Ms$ M3 (s:={ s with toks:=s.toks+1 }) a h (x:=.int k 0) Z ?_];dsimp only;erw[Ms$ Nj a h LM$ Mu #[x,Z,f _ ?_$ N6 ..]];exact#[_,M8 _ a$ NH$ M9 h _,(O2 ..).trans g,by rw[M9 h];simp [rawInt]]
def rf(f:A.handled=ζ){Q:Option η->θ->Prop}(h:dJ s.heap I t (-1))
  (g:∀a,(∀b o,b≠I->s.heap.get? b=δ o->a.get? b=δ o)->Q ζ { s with heap:=a }):ξ (υ prog w) A (pyNext$ .ref I) Q E s:=by
 erw[Ya h ?_];let⟨o,c,j,H⟩:=h;show ξ _ _ (field (.ref I) 0 >>= _) _ _ s;erw[Ms$ M3 c H (x:=.ref t) Z$ Ms$ M3 c H (x:=.int (-1) 0) Z ?_];dsimp only;rw[MQ LO];erw[Ms$ Oe$ Ms ?_];show ξ _ _ (setField (.ref I) 1 (rawInt (-1)) >>= λ_=>setField (.ref I) 0 .none) _ _ _;erw[Ms$ Nj c H LM ?_];erw[Nj (M8 _ c$ NH$ M9 H _) (M9 H _) LM ?_];erw[Ms ?_];erw[Ks (s:={ s with heap:=_ }) (by simpa using f) λa e k T=>#[T,g a λb o d i=>k b o ?_]];exact(MP _ _$ MU d).trans ((MP _ _$ MU d).trans i)
def By(H:dJ s.heap I t k){Q:η->θ->Prop}(h:Q (.ref I) s):ξ (υ prog w) A (pyIter$ .ref I) Q E s:=by erw[Sf H.is Jk$ Nf Jk H.is Qv ?_$ QJ _];show ξ _ _ (ret$ .ref I) _ _ s;exact Mu #[_,Z,"reversed",_,H.is,qk.lookup,h]
end
def Kj:entryFor table "dict.update.loop"=δ eK.«dict.update.loop»:=Pe (by kernel_rfl)
def qf:plainId "dict.update.loop"=ν:=by decide+kernel
section
variable {X:Cx}{o lo hi:dr}{to tl th:TE}{pos p2:Pos}
inductive FJ(v:V)(h:St)(Q:St->Hp->Prop)(e a c:V)(d:Hp):Prop
 |mk(l b f g i j:_)(_:e= .ref l)(_:v= .ref b)(_:a= .int i)(_:c= .int j)(_:d l=δ (.lst f))(_:d b=δ (.lst g))(_:l≠b)(_:0<=i)(_:i<=j)(_:j<=(f.length:Int))(_:f.length+g.length<=τ)(_:Q h (upd d l (.lst (f.take i.toNat++g++f.drop j.toNat))))
def Lo(to tl th:TE):TG:=λv b H Q=>to b H λO h=>tl b h λa c=>th b c (FJ v b Q O a)
def vb(n:PE X o to)(t:PE X lo tl)(w:PE X hi th)
  (A:∀v,assign (.Subscript o (.Slice (δ lo) (δ hi) ζ p2) pos) X.env v=(do
   let O <- mL [v] (eval o X.env)
   let c <- mL [v,O] (eval (.Slice (δ lo) (δ hi) ζ p2) X.env)
   standAt pos
   mL [v,O,c] (setItem O c v)
   release [c,v,O] []):=by intro _;rfl):PG X (.Subscript o (.Slice (δ lo) (δ hi) ζ p2) pos) (Lo to tl th):=by
 intro p s a H v u Q I r h;rw[A];erw[Ms$ MW$ aL (n p s a H _ I h) λO B d=>?_];let⟨x,C,D,R,E⟩:=d;erw[Ms$ MW ?_];erw[wpAny_Slice$ aL (t p B a C _ D E) λV F #[y,G,J,K,L]=>aL (w p F a G _ J L) λm S f=>?_];let⟨z,M,N,P,l,b,xs,ys,i,j,T,U,W,Y,h1,h2,g,h0,k,hj,hz,q⟩:=f;subst T U W Y;cases (show O=ω l from R);cases (show u=ω b from r);erw[Mu ?_];let I4:ap X p a M { S with heap:=S.heap.push { cls:=.type "slice",data:=.fields (ι [V,m,.none]) } }:=N.kept (t':=S.toks) λb o e=>Mt _ e;erw[Ms$ Oy$ Ms$ MW ?_];exact sh I4 h1 h2 g (Sb S.heap V m .none) K P h0 k hj hz λs5 I5=>wpAny_release #[a,_,I5,q]
end
end _L
namespace _L
open PySem PySem.Spec PyProof.Rows Builtin Builtin.Str
section
variable {prog:ψ}{w:bU}{A:cJ}{E:η->θ->Prop}{s:θ}
def JS{lo:Option Int}{Q:η->θ->Prop}(H:IsTup s.heap t i)(d:s.heap.IsSliceOf e v j .none)(p:IsPart v lo)(P:IsPart j f)
  (g:HT.sIx i.size 0 lo=0/\HT.sIx i.size i.size f=i.size) (h:Q (.ref t) s):ξ (υ prog w) A (getItem (.ref t)$ .ref e) Q E s:=by
 let⟨os,a,b,k⟩:=id d;let c:s.TypeIs (.ref e) "slice":=#[os,a,b];unfold getItem;try with_reducible erw[MW ?_]
 first |refine Ms (Mu ?_) |skip
 erw[Ms$ Se H.typeIs LO ?_];refine Ms (M' (name:=Str.ofString "__getitem__") H.typeIs Om
  (Nf Om H.typeIs Vv ?_$ Vz _ _))
 show ξ _ _ (ri (.ref t) >>= _) _ _ s;erw[Ms$ Vt H ?_];erw[Ms$ Ol c ?_];rw[MQ LO];erw[Ms$ HT.sliceApplied_gen d p P ?_];show ξ _ _ (if (((HT.sIx i.size 0 lo:Nat):Int)==0&&(1:Int)==1&&(HT.sIx i.size i.size f - HT.sIx i.size 0 lo)==i.size)=ν then _ else _) _ _ s;rw[g.1,g.2,MQ LM];unfold Builtin.Tuple.tupleIsExact;erw[Ms$ Ms$ Ol H.typeIs$ Mu ?_];rw[MQ LO];first
  |exact Oe (Mu #[_,Z,Mu h])
  |exact Ms (Oe (Mu #[_,Z,Mu h]))
  |exact Ms (Mu (Mu #[_,Z,Mu h]))
end
section
variable {X:Cx}
inductive vo(x y:V)(H:Hp)(Q:VK):Prop
 |mk(a b c d:_)(_:x= .ref a)(_:y= .ref b)(_:H a=δ (.tup c))(_:H b=δ (.tup d))(_:c.length+d.length<=τ)(_:∀r H',H' r=δ (.tup (c++d))->af H H'->Q (.ref r) H')
def zb:gg X (binaryOp .Add) vo:=by
 intro P s G H x y v u Q I r R h;let⟨a,b,m,Y,rfl,rfl,d,f,J,q⟩:=h;let t:=aB.of (K:=X.K) d;let w:=aB.of (K:=X.K) f;by_cases z:m=[]
 .subst z;cases r;cases R;let⟨l,L,M,_⟩:=I.tuple t;let⟨i,r2,N,_⟩:=I.tuple w;let O:l=[]:=L.nil_iff.mpr Z;subst O;obtain⟨⟨T,U,A,V⟩,B,C,n,E⟩:=id M;obtain⟨⟨F,D,data2,S⟩,g,j,W,k⟩:=id N;simp only at C E j k;subst C E j k;exact T5 #[_,B,Z] #[_,g,Z] SH TK PQ Pt (Pq _ _)
   (tuple_addW0 a b ([]:List η).toArray i.toArray n W U D V S Z) #[B,g,.ref b,H,I,Z,q b H f$ af.refl H]
 .refine yX P s G H _ _ v u Q I r R #[a,b,m,Y,Z,Z,t,w,z,J,λe=>?_,λ_ p np=>?_]
  .subst e;exact q a H (by rw[Rk];exact d)$ af.refl H
  .exact q p _ jc λc o e=>by rw[ji$ jk e np];exact e
inductive DT(x:V)(c b:Option Int)(H:Hp)(Q:VK):Prop
 |mk(a d:_)(_:x= .ref a)(_:H a=δ (.tup d))(_:∀r H',H' r=δ (.tup (aX d c b))->af H H'->Q (.ref r) H')
def qx:EZ X DT:=by
 intro P s u H x v V w lo j S Q I R k l m h;let⟨a,b,rfl,d,q⟩:=h;let n:=aB.of (K:=X.K) d;by_cases g:HT.sIx b.length 0 lo=0/\HT.sIx b.length b.length j=b.length
 .cases R;let⟨i,r,t,y⟩:=I.tuple n;let f:i.toArray.size=b.length:=by rw[ME];exact r.length.symm
  erw[#["tuple",_,PyProof.Rows.slot_tuple_getitem.lookup,t.typeIs,?_]];erw[JS t k l m (by rw[f];exact g) #[.ref a,H,I,Z,q a H ?_$ af.refl H]];rw[d];unfold aX;rw[g.1,g.2,Sv,RQ,NC]
 .exact Eh P s u H _ v V w lo j S Q I R k l m #[a,b,Z,n,g,λp N=>q p _ jc λc o e=>by rw[ji$ jk e N];exact e]
inductive GG(x:V)(b a:Option Int)(H:Hp)(Q:VK):Prop
 |mk(y:_)(_:x= .str y)(_:y.length<=τ)(_:∀z:π,z.length<=y.length->Q (.str z) H)
def wo:EZ X GG:=by
 intro p s j H x v V m lo n S Q I r d P e h;let⟨y,rfl,f,q⟩:=h;let⟨T,rfl⟩:=(show ∃t,v=mu y t from r);let⟨os,a,b,c⟩:=id d;let part:∀{v:η} {o:Option Int},IsPart v o->∃l:Option (Int×Tok),v=partValue l/\l.map (·.1)=o:=by
  intro v o h;cases h with
  |none=>exact#[ζ,Z,Z]
  |int i t=>exact#[δ (i,t),Z,Z]
 let⟨l,rfl,E⟩:=part P;let⟨u,rfl,w⟩:=part e;erw[#["str",_,F.slot_str_getitem.lookup,UO _ _ _,wpAny_getItem_str_slice (l:=l) (u:=u) (st:=ζ) #[os,a,b,c] Z ?_]];let L:=Txt.slice_le y (l.map (·.1)) (u.map (·.1));show(if ((1:Int)==1&&(strSliceIndices (l.map (·.1)) (u.map (·.1)) 1 y.length).length==y.length)=ν then Made.val (.str y T) else Made.str #[((strSliceIndices (l.map (·.1)) (u.map (·.1)) 1 y.length).filterMap (y.cps[·]?)).toArray]).post _ s;unfold Txt.slice at L;erw[post_val_or_str ?_]
 revert L
 generalize (if ((1:Int)==1&&(strSliceIndices (l.map (·.1)) (u.map (·.1)) 1 y.length).length==y.length)=ν then y else (#[((strSliceIndices (l.map (·.1)) (u.map (·.1)) 1 y.length).filterMap (y.cps[·]?)).toArray]:π))=z;intro L;exact#[MT L f,λg k=>#[.str z,H,I.tok k,#[g,Z],q z L]]
end
end _L
namespace _L
open PySem PySem.Spec PyProof.Rows
def Bk{G:Bool->Hp->Prop}(y:G ν H)(n:b=μ->G b H):G b H:=by
 cases b
 .exact n Z
 .exact y
def aT{A:Prop}(h:∀G:Prop,(A->G)->G):A:=h A λz=>z
section
variable {t u:TS}{D:a6}{σ:St}{H:Hp}
def gr(h:∀E:a6,(∀a b,u D a b->E.nx a b)->t E σ H):cy t u D σ H:=h { D with nx:=u D } λ_ _ h=>h
def ah(h:∀F:St->Hp->Prop,(∀a b,u D a b->F a b)->t { D with nx:=F } σ H):cy t u D σ H:=h _ λ_ _ h=>h
def oK{c:TT}(h:∀F:Bool->Hp->Prop,(∀b a,(if b=ν then t D σ a else u D σ a)->F b a)->c σ H F):lB c t u D σ H:=h _ λ_ _ x=>x
def oJ{c:TT}(h:∀F:Bool->Hp->Prop,(∀a,t D σ a->F ν a)->(∀a,u D σ a->F μ a)->c σ H F):lB c t u D σ H:=by
 erw[h _ (λa x=>?_) λa x=>?_]
 .show if ν=ν then _ else _;rw[MQ Z];exact x
 .show if μ=ν then _ else _;rw[MS LO];exact x
def dN(R:St->Hp->Prop)(c:∀E:a6,E.rt=D.rt->(∀a b,R a b->E.nx a b)->t E σ H)(d:∀a b,R a b->D.nx a b):Ht t D σ H:=#[R,c { D with nx:=R } Z λ_ _ h=>h,d]
def oC{c:TT}{T:TS}(W:Nat->St->Hp->Prop)(d:Nat)(e:W d σ H)
  (f:∀m σ H,∀E:a6,E.rt=D.rt->(∀M a b,M < m->W M a b->E.nx a b)->∀F:Bool->Hp->Prop,(∀b,T E σ b->F ν b)->(∀b,D.nx σ b->F μ b)->∀G:Prop,(c σ H F->G)->W m σ H->G):wP c T D σ H:=by
 erw[#[W,#[d,e],λm σ H w=>?_]];erw[f m σ H { D with nx:=λa b=>∃M,M < m/\W M a b,ct:=λa b=>∃M,M < m/\W M a b,bk:=D.nx } Z (λM a b l g=>#[M,l,g]) _ (λb x=>?_) (λb x=>?_) _ (λz=>z) w]
 .show if ν=ν then _ else _;rw[MQ Z];exact#[_,λ_ _ h=>h,x]
 .show if μ=ν then _ else _;rw[MS LO];exact x
def sI(J:It)(g:TG)(T:TS)(D:a6)(σ:St)(H:Hp):Prop:=∃W:Nat->Nat->St->Hp->Prop,(∃m,W 0 m σ H)/\∀i m σ H,W i m σ H->
 (J.stop i H/\D.nx σ H)∨(J.go i H/\∃N:St->Hp->Prop,(∀a h,N a h->∃M,M < m/\W (i+1) M a h)/\∀x h,J.yld i H x h->g x σ h λb c=>T { D with nx:=N,ct:=N,bk:=D.nx } b c)
def gn{w:TI}(h:∀F:It->Hp->Prop,(∀J a,sI J g T D σ a->F J a)->w σ H F):Es w g T D σ H:=h _ λ_ _ z=>z
def LC{g:TG}{Q:St->Hp->Prop}(h:∀F:St->Hp->Prop,(∀a b,Q a b->F a b)->g x σ H F):g x σ H Q:=h _ λ_ _ z=>z
def qA{lo:Int}{g:TG}{T:TS}{D:a6}{σ:St}{H:Hp}(Pv:Nat->St->Hp->Prop)(d:Pv 0 σ H)
  (e:∀E:a6,E.rt=D.rt->∀i σ H,i < n->(∀a c,Pv (i+1) a c->E.nx a c)->∀G:Prop,((g (.int$ lo+i) σ H λb f=>T E b f)->G)->Pv i σ H->G) (j:∀σ H,Pv n σ H->D.nx σ H):sI (xJ lo n) g T D σ H:=
 QX Pv d (λi σ H k p=>e { D with nx:=Pv (i+1),ct:=Pv (i+1),bk:=D.nx } Z i σ H k (λ_ _ h=>h) _ (λz=>z) p) j
def Je{K:Ω}{a:ε}{xs:List V}{g:TG}{T:TS}{D:a6}{σ:St}{H:Hp}(Pv:Nat->St->Hp->Prop)(e:Pv 0 σ H)(f:∀i σ H,i<=xs.length->Pv i σ H->aF K H a xs)
  (j:∀E:a6,E.rt=D.rt->∀i x σ H,xs[i]?=δ x->(∀b d,Pv (i+1) b d->E.nx b d)->∀G:Prop,((g x σ H λc k=>T E c k)->G)->Pv i σ H->G) (l:∀σ H,Pv xs.length σ H->D.nx σ H):sI (xp K a) g T D σ H:=
 tP Pv e f (λi x σ H m p=>j { D with nx:=Pv (i+1),ct:=Pv (i+1),bk:=D.nx } Z i x σ H m (λ_ _ h=>h) _ (λz=>z) p) l
def qU{K:Ω}{xs:List V}{g:TG}{T:TS}{D:a6}{σ:St}{H:Hp}(Pv:Nat->St->Hp->Prop)(e:Pv 0 σ H)(f:∀i σ H,i<=xs.length->Pv i σ H->aB K H a xs)
  (j:∀E:a6,E.rt=D.rt->∀i x σ H,xs[i]?=δ x->(∀b d,Pv (i+1) b d->E.nx b d)->∀G:Prop,((g x σ H λc k=>T E c k)->G)->Pv i σ H->G) (l:∀σ H,Pv xs.length σ H->D.nx σ H):sI (xq K a) g T D σ H:=
 ye Pv e f (λi x σ H m p=>j { D with nx:=Pv (i+1),ct:=Pv (i+1),bk:=D.nx } Z i x σ H m (λ_ _ h=>h) _ (λz=>z) p) l
end
end _L
namespace _L
open PySem PySem.Spec PyProof.Rows PySem.SeqAt
inductive Tr where
 |lf (v:V) |tp (l:Tr) |nil |cons (h t:Tr)
def Tr.isL:Tr->Bool
 | .nil | .cons _ _=>ν
 |_=>μ
def Ls:V->Bool
 | .byt _ | .flt _=>μ
 |_=>ν
end _L
namespace _L
open PySem PySem.Spec PyProof.Rows
def Ic(K:Ω)(a:ε)(n:Nat):It:=
 #[λi H=>∃X x,aB K H a X/\X.length=n/\X.reverse[i]?=δ x,λi H x h=>h=H/\∀X,aB K H a X->X.reverse[i]?=δ x,λi H=>∃X,aB K H a X/\X.length=n/\i=n]
def wS{P:ψ}{K:Ω}(a f:ε)(n:Nat):pI P w K tg (Ic K a n) [f] f (λi h=>dJ h f a ((n:Int) - 1 - i)) where
 mem:=by simp
 obj:=λi h st b j=>by
  let e:b=f:=by simpa using j
  subst e;let⟨o,e,c,d⟩:=st;exact#[o,e,λv z=>by rw[d]at z;cases z]
 keep:=λi h q st k=>st.at λo e=>k f LM o e
 item:=by
  intro X y A B O i g s Q H E I t st C;subst y A B;let⟨l,x,D,T,m⟩:=C;let⟨r,R,p,hz⟩:=I.tuple D;let hl:=R.length;let U:=eS;let V:i < l.length:=by
   rcases Rg i l.length with z |z
   .exact z
   .rw[NG (by simpa using z)]at m;cases m
  let F:l[l.length - 1 - i]?=δ x:=by rw[OH V]at m;exact m
  let⟨u,W,Y⟩:=R.get F;let⟨G,J,f2,L,M,N⟩:=t f LM;let e:((n:Int) - 1 - i)=((l.length - 1 - i:Nat):Int):=by omega
  rw[e]at st;erw[FT (items:=r.toArray) st (show IsTup s.heap a r.toArray from p) (x:=u) (by simpa using W) (by simp only[ME];omega) λq S sb=>?_];let I1:ap X g Q H { s with heap:=q,toks:=s.toks+1 }:=I.turned (t':=s.toks+1) (λb o j e=>(sb.2 b j).trans e) G J L M N;let⟨o,e',c,d⟩:=id S;erw[#[u,Z,XZ (s:={ s with heap:=q,toks:=s.toks+1 }) e' c d LO #[x,H,I1,Y,#[Z,λys hy=>by rw[I.tuple_inj hy D];exact m],?_,λb j=>(t b j).1]]];let e2:((n:Int) - 1 - ((i+1:Nat):Int))=((l.length - 1 - i:Nat):Int) - 1:=by omega
  show dJ q f a ((n:Int) - 1 - ((i+1:Nat):Int));rw[e2];exact S
 done:=by
  intro X y A B O i g s Q H E I t st C;subst y A B;let⟨l,D,T,m⟩:=C;let⟨G,J,f2,L,M,N⟩:=t f LM;let e:((n:Int) - 1 - (i:Int))= -1:=by omega
  rw[e]at st;exact rf (I.ok.hd O) st λq eb=>#[Z,I.turned (t':=s.toks) (λb o j e=>eb b o j e) G J L M N]
 self:=λ_ _ _ _ _ st h=>By st h
section
variable {X:Cx}{tg:dr}
inductive Bw(K:Ω)(R:It->Hp->Prop)(x:V)(b:Hp):Prop
 |mk(a c:_)(_:x= .ref a)(_:aB K b a c)(_:R (Ic K a c.length) b)
def Iy(K:Ω)(t:TE):TI:=λa H R=>t a H (Bw K R)
def vg{e:dr}{t:TE}{c:π}{p P:Pos}(j:Gl X c)(k:X.mg c=ζ)(l:bootBuiltins c=δ (.type "reversed"))(y:PE X e t)(m:↥(c≠"__name__"))(n:↥((c==("__debug__":π))=μ))
  (r:↥(Θ [e] X.env=(μ,eval e X.env)::Θ [] X.env)) (A:↥((eT P$ Θ [] X.env).any (·.1)=μ)):PI X tg (.Call (.Name c p) [e] [] P) (Iy X.K t):=by
 intro d s B H R I h;erw[No$ qJ I j k l ?_ m n];erw[NA ?_ r A];rw[r];show ξ _ _ (spliced ((μ,eval e X.env)::eT P (Θ [] X.env))) _ _ s;erw[Oi$ aL (y d s B H _ I h) λu S z=>?_];let⟨x,C,g,D,a,v,E,F,q⟩:=z;subst E;cases (show u=ω a from D);let⟨i,G,J,N⟩:=g.tuple F;let f:=G.length;let L:=eS;erw[OJ$ sT (show IsTup S.heap a i.toArray from J) (by simp only[ME];omega) ?_];let w:dJ (S.heap.push$ revObj a i.toArray.size) S.heap.objs.size a ((v.length:Int) - 1 - ((0:Nat):Int)):=#[_,MD _ Z,Z,by rw[ME,<- f];simp [revObj]];erw[By (s:={ S with heap:=S.heap.push (revObj a i.toArray.size),toks:=S.toks+1+1 }) w ?_];erw[#[S.heap.objs.size,[S.heap.objs.size],_,_,C,Z,g.kept (t':=S.toks+1+1) λb o e=>Mt _ e,wS a _ v.length,w,λb M=>?_,q]];let e:b=S.heap.objs.size:=by simpa using M
 subst e;exact g.fpOk (Mx _)$ g.hok.fresh$ Mx _
end
def Yb{K:Ω}{xs:List V}{g:TG}{t:TS}{D:a6}(Pv:Nat->St->Hp->Prop)(k:Pv 0 b H)(l:∀i b H,i<=xs.length->Pv i b H->aB K H a xs)
  (n:∀E:a6,E.rt=D.rt->∀i x b H,xs.reverse[i]?=δ x->(∀c f,Pv (i+1) c f->E.nx c f)->∀G:Prop,((g x b H λj o=>t E j o)->G)->Pv i b H->G) (r:∀b H,Pv xs.length b H->D.nx b H):sI (Ic K a xs.length) g t D b H:=by
 erw[#[λi m b H=>m=xs.length - i/\i<=xs.length/\Pv i b H,#[xs.length,LM,MH _,k],?_]];rintro i m b H ⟨rfl,s,p⟩;let q:=l i b H s p;by_cases d:i < xs.length
 .erw[.inr #[#[xs,_,q,Z,Mw (by simpa using d)],Pv$ i+1,λc f P=>#[xs.length - (i+1),LN,Z,d,P],λx f y=>?_]];let⟨e,y⟩:=y;subst e;exact n { D with nx:=Pv (i+1),ct:=Pv (i+1),bk:=D.nx } Z i x b _ (y xs q) (λ_ _ h=>h) _ (λz=>z) p
 .let e:i=xs.length:=by omega
  subst e;exact .inl #[#[xs,q,Z,Z],r b H p]
def wq:Slot "list_reverseiterator" "__length_hint__" "list_reverseiterator.__length_hint__":=by erw[Slot.of (owner:="list_reverseiterator") (n:="__length_hint__") (by rw[NT,Np];kernel_rfl) LL LL LL ?_ (by rw[Ob];kernel_rfl)];first |exact .inl LL |exact .inr LL
def rh:typeLookup (.type "list_reverseiterator") "__len__"=pure ζ:=by rw[NT,Np];kernel_rfl
def El:isSubtype (.type "list_reverseiterator") (.type "list_reverseiterator")=pure ν:=by rw[Ob];kernel_rfl
section
variable {prog:ψ}{w:bU}{A:cJ}{E:η->θ->Prop}{s:θ}
def C0(H:s.heap.IsRevIter I t k){Q:Bool->θ->Prop}(h:Q μ s):ξ (υ prog w) A (ly$ .ref I) Q E s:=by
 unfold ly;erw[Ms$ N0 H.typeIs rh ?_];show ξ _ A (specialOf (ω I) (Str.ofString "__length_hint__") >>= _) _ _ _;erw[Ms$ N0 H.typeIs wq.lookup ?_];let e:splitId "list_reverseiterator.__length_hint__"=δ ("list_reverseiterator","__length_hint__"):=by decide+kernel
 dsimp only;rw[e];dsimp only;erw[Ms$ N8 (b:=ν) H.typeIs El ?_];simp only[Pa,MV,NR];rw[MQ LL,MS LL];exact Mu h
def pP{a:Array η}{Q:List η->θ->Prop}(z:A.handled=ζ)(f:s.heap.IsRevIter I t ((a.size:Int) - 1))(r:s.heap.IsList t a)(B:t≠I)(C:a.size<=τ)
  (D:∀S,(∀b o,b≠I->s.heap.get? b=δ o->S.heap.get? b=δ o)->s.heap.objs.size<=S.heap.objs.size->S.gens=s.gens->S.os=s.os->Q a.toList.reverse S):ξ (υ prog w) A (collect$ .ref I) Q E s:=by
 let j:I < s.heap.objs.size:=by let⟨o,k,_⟩:=f;exact My k
 let n:t < s.heap.objs.size:=by let⟨o,k,_⟩:=r;exact My k
 let u:I≠s.heap.objs.size:=MG j;let F:t≠s.heap.objs.size:=MG n;unfold collect;refine Ms (RG (NO RV (by
  rw[Nx RU _];show ξ _ A.in1 (newList [] >>= λl=>again (.builtin "list.__iadd__" #[[l,.ref I],[]])) _ _ s;erw[Ms$ Na$ Mu #[Oz OP _,NO Sr ?_]];rw[Nx OP _];generalize v:s.heap.push { cls:=.type "list",data:=.seq ([]:List η).toArray }=H;let J:H.get? s.heap.objs.size=δ { cls:=.type "list",data:=.seq (ι []) }:=by rw[<- v];exact MD _ Z
  let G:∀b o,s.heap.get? b=δ o->H.get? b=δ o:=λb o e=>by rw[<- v];exact Mt _ e
  let h:H.IsRevIter I t ((a.size:Int) - 1):=f.at λo e=>G I o e;let p:H.IsList t a:=r.at λo e=>G t o e;show ξ _ A.in1 (hY (.ref s.heap.objs.size) (.ref I)$ .ref s.heap.objs.size) _ _ { s with heap:=H };unfold hY;erw[Ms$ Ol (s:={ s with heap:=H }) h.typeIs ?_];let K:eE (.ref s.heap.objs.size) (.ref I)=μ:=by simp only[eE,beq_eq_false_iff_ne];exact MU u
  let L:(gb "list_reverseiterator"==gb "list")=μ:=by decide
  let M:(gb "list_reverseiterator"==gb "tuple")=μ:=by decide
  simp only[K,L,M,Tb,MV,NR];erw[Ms$ wpAny_pyIter_revIter (s:={ s with heap:=H }) h$ Ms$ MW$ C0 (s:={ s with heap:=H }) h ?_];let N:¬s.heap.objs.size∈[I,t]:=by simp only[Nv,MO,OZ,not_or];exact#[MU u,MU F]
  rw[MS LL];erw[Mu #[Oz R9 _,?_]];let W:=(Walks.listRev (prog:=prog) (w:=w) (A:=A.in1) (by simpa using z) I t B a).toS;erw[Uu W C _ N _ a.size 0 _ (ι []) _ Z (MH _) #[MH _,by simpa using h,p] J (UG _) λS d U m x c=>?_];let O:d=a.toList.reverse.toArray:=by
   apply Array.ext';erw[List.ext_getElem? λi=>?_];by_cases y:i < a.size
   .let g:i < d.size:=by rw[c.1];exact y
    let q:=c.2 i d[i] (by simp [g]);rw[Oj,Op g,<- q];show a[a.size - 1 - i]?=a.toList.reverse[i]?;rw[OH (by simpa using y)];simp
   .rw[NG (by rw[M5,c.1];omega),NG (by simp;omega)]
  subst O;show ξ _ A (load s.heap.objs.size >>= _) _ _ S;erw[Ms$ UM x$ Mu ?_];let P:a.toList.reverse.toArray.toList=a.toList.reverse:=by simp
  rw[P];erw[D S (λb o R e=>?_) ?_ m.gens m.os]
  .let T:b≠s.heap.objs.size:=MG (My e);exact m.heap b o (by simp only[Nv,MO,OZ,not_or];exact#[T,R])$ G b o e
  .exact ON$ My x)))
end
section
variable {prog:ψ}{w:bU}{A:cJ}{E:η->θ->Prop}{s:θ}
def XV{i:Array η}{Q:η->θ->Prop}(f:A.handled=ζ)(H:s.heap.IsRevIter I t ((i.size:Int) - 1))(g:s.heap.IsList t i)(j:t≠I)(d:i.size<=τ)
  (h:∀S:θ,(∀b o,b≠I->s.heap.get? b=δ o->S.heap.get? b=δ o)->s.heap.objs.size<=S.heap.objs.size->S.gens=s.gens->S.os=s.os->
   Q (.ref S.heap.objs.size) { S with heap:=S.heap.push { cls:=.type "tuple",data:=.seq i.toList.reverse.toArray } }):
  fv (υ prog w) A (.call (.builtin "tuple.__new__") #[[.type "tuple",.ref I],[]]) (wants Q E) s:=by
 erw[Rx (show ξ _ A.in1 (do checkBuiltinCall "tuple.__new__" #[[.type "tuple",.ref I],[]];again (.builtin "tuple.__new__" #[[.type "tuple",.ref I],[]])) _ _ s from ?_)];refine Ms (P' (PySem.F.newCall_tuple_1 _) (Mu #[Oz Sq _,NO PySem.F.entry_tuple_new (by
  rw[Nx Sq _];let e:=sub_tuple_self;let a:=init_tuple_lookup;let l:=madeHere_tuple;let c:=H.typeIs;wp_walk using Ol c,pP (by simpa using f) H g j d;intro S k z m n;show ξ _ _ (ey i.toList.reverse.toArray >>= λv=>ret v) _ _ _;unfold ey;exact Ms$ Na (Mu$ h S k z m n) (by show i.toList.reverse.toArray.size<=τ;simpa using d))]))
def XX{items:Array η}{Q:η->θ->Prop}(d:A.handled=ζ)(c:s.heap.IsRevIter I t ((items.size:Int) - 1))(e:s.heap.IsList t items)(f:t≠I)(g:items.size<=τ)
  (h:∀a:θ,(∀b o,b≠I->s.heap.get? b=δ o->a.heap.get? b=δ o)->s.heap.objs.size<=a.heap.objs.size->a.gens=s.gens->a.os=s.os->
   Q (.ref a.heap.objs.size) { a with heap:=a.heap.push { cls:=.type "tuple",data:=.seq items.toList.reverse.toArray } }):ξ (υ prog w) A (call (.type "tuple") [.ref I]) Q E s:=by
 erw[VD (Q₁:=λO S=>S.TypeIs O "tuple"/\Q O S) pz (PySem.F.typeCall_tuple_1 _) PySem.F.entry_object_init (XV (by simpa using d) c e f g λa k z i j=>#[#[_,MD _ Z,Z],h a k z i j]) λO S H=>?_];exact#[H.1,RZ O _,object_init_meets pz.init.lookup pz.made LO prog w A.in1 _ S #[H.1,Z,H.2]]
end
section
variable {X:Cx}{e:dr}{te:TE}{xl xr:π}{p p2 pos pos2:Pos}
inductive nE(K:Ω)(Q:VK)(x:V)(b:Hp):Prop
 |mk(a c:_)(_:x= .ref a)(_:aF K b a c)(_:∀l,b l=ζ->Q (.ref l) (upd b l (.tup c.reverse)))
def AX(K:Ω)(te:TE):TE:=λa H Q=>te a H (nE K Q)
def rP(M:X.calm=ν)(g:Gl X xl)(j:X.mg xl=ζ)(l:bootBuiltins xl=δ (.type "tuple"))(m:Gl X xr)(n:X.mg xr=ζ)(r:bootBuiltins xr=δ (.type "reversed"))(O:PE X e te)
  (t:↥(xl≠"__name__")) (v:↥((xl==("__debug__":π))=μ)) (y:↥(xr≠"__name__")) (A:↥((xr==("__debug__":π))=μ))
  (E:↥(Θ [.Call (.Name xr p2) [e] [] pos2] X.env=(μ,eval (.Call (.Name xr p2) [e] [] pos2) X.env)::Θ [] X.env)) (T:↥((eT pos$ Θ [] X.env).any (·.1)=μ))
  (F:↥(Θ [e] X.env=(μ,eval e X.env)::Θ [] X.env)) (U:↥((eT pos2$ Θ [] X.env).any (·.1)=μ)):
  PE X (.Call (.Name xl p) [.Call (.Name xr p2) [e] [] pos2] [] pos) (AX X.K te):=by
 intro P s V H Q I h;erw[No$ qJ I g j l ?_ t v];erw[NA ?_ E T];rw[E];show ξ _ _ (spliced ((μ,eval (.Call (.Name xr p2) [e] [] pos2) X.env)::eT pos (Θ [] X.env))) _ _ s;erw[Oi ?_];erw[No$ qJ I m n r ?_ y A];erw[NA ?_ F U];rw[F];show ξ _ _ (spliced ((μ,eval e X.env)::eT pos2 (Θ [] X.env))) _ _ s;erw[Oi$ aL (O P s V H _ I h) λu d B=>?_];let⟨x,W,f,Y,a,G,ex,hq,q⟩:=B;subst ex;cases (show u=ω a from Y);let⟨i,R,C,hz⟩:=f.list hq;let J:=R.length;erw[OJ$ call_reversed_list C.isList$ OJ ?_];let D:a < d.heap.objs.size:=by let⟨o,ho,_⟩:=C.isList;exact My ho
 refine XX (s:={ d with heap:=d.heap.push (PySem.revObj a ((i.toArray.size:Int) - 1)) }) (items:=i.toArray) (I.ok.hd M) #[_,MD _ Z,Z,Z] (C.isList.at λo e=>Mt _ e) (MG D)
  (by simp only[ME];omega) λS k hl kg ko=>?_
 let c:d.heap.objs.size<=S.heap.objs.size:=MT (by show _<=(d.heap.push _).objs.size;rw[Nc];exact NM _) hl;let L:∀b o,d.heap.get? b=δ o->(S.heap.push { cls:=.type "tuple",data:=.seq i.toArray.toList.reverse.toArray }).get? b=δ o:=λb o e=>Mt _ (k b o (MG$ My e)$ Mt _ e);let hg:(S.heap.push { cls:=.type "tuple",data:=.seq i.toArray.toList.reverse.toArray }).get? S.heap.objs.size=δ { cls:=.type "tuple",data:=.seq i.toArray.toList.reverse.toArray }:=MD _ Z;let N:aO X.prog X.w (upd W S.heap.objs.size$ .tup G.reverse) (S.heap.push { cls:=.type "tuple",data:=.seq i.toArray.toList.reverse.toArray }) S.heap.objs.size (.tup G.reverse):=by
  erw[#[by rw[Pf];exact hz,i.reverse,aw.reverse R,?_]];let ee:i.toArray.toList.reverse.toArray=i.reverse.toArray:=by simp
  rw[<- ee];exact#[_,hg,Z,_,Z]
 exact#[.ref S.heap.objs.size,_,f.call' (ch:=[]) ko (Un.laid L c$ f.hok.fresh c) (f.hok.laid L c N) (by show AllBare S.gens;rw[kg];exact f.bare) (λ_ z=>nomatch z),Z,q _$ f.hok.fresh c]
end
section
variable {prog:ψ}{w:bU}{A:cJ}{E:η->θ->Prop}{s:θ}
def Y8{Q:η->θ->Prop}(a:s.heap.IsTupleIter J T i)(e:s.heap.IsTuple T I)(f:I[i]?=δ x)
  (q:∀b,b.IsTupleIter J T (i+1)->fy J s.heap b->Q x { s with heap:=b }):ξ (υ prog w) A (ao$ .ref J) Q E s:=by
 let⟨o,H,g,h⟩:=id a;let⟨O,c,_,n,d⟩:=e;unfold ao;erw[Ms$ M' (name:=Str.ofString "__next__") a.typeIs Oo$ Nf Oo a.typeIs Ry (show ξ _ _ (field (.ref J) 0 >>= _) _ _ s from ?_)$ Ru _];erw[Ms$ M3 H h (x:=.ref T) Z (show ξ _ _ (if (ω T==β)=ν then _ else _) _ _ s from ?_)];rw[MS (show ¬((ω T==β)=ν) from MJ)];erw[(show ξ _ _ (field (.ref J) 1 >>= _) _ _ s from Ms$ M3 H h (x:=.int i 0) Z (show ξ _ _ (seqItems? (.ref T) >>= _) _ _ s from Ms$ Nt c d ?_))];simp only[Nr,f];erw[Ms$ Nj H h LM$ Mu #[x,Z,Mu$ q _ #[_,M8 _ H$ NH$ M9 h _,(O2 ..).trans g,by rw[M9 h];simp [rawInt]] (N6 ..)]]
def rg(g:A.handled=ζ)(H:s.heap.IsTupleIter J T i)(j:s.heap.IsTuple T I)(l:I[i]?=ζ)
  (q:∀h e,lx J s.heap h->Shared.TypeIs { s with heap:=h } e "StopIteration"->E e { s with heap:=h }):ξ (υ prog w) A (ao$ .ref J) Q E s:=by
 let⟨o,a,p,c⟩:=id H;let⟨O,d,_,N,f⟩:=j;unfold ao;erw[Ms$ M' (name:=Str.ofString "__next__") H.typeIs Oo$ Nf Oo H.typeIs Ry (show ξ _ _ (field (.ref J) 0 >>= _) _ _ s from ?_)$ Ru _];erw[Ms$ M3 a c (x:=.ref T) Z (show ξ _ _ (if (ω T==β)=ν then _ else _) _ _ s from ?_)];rw[MS (show ¬((ω T==β)=ν) from MJ)];erw[(show ξ _ _ (field (.ref J) 1 >>= _) _ _ s from Ms$ M3 a c (x:=.int i 0) Z (show ξ _ _ (seqItems? (.ref T) >>= _) _ _ s from Ms$ Nt d f ?_))];simp only[Nr,l];erw[Ms$ Oe$ Ms$ Nj a c LM ?_];erw[Ks (by simpa using g) λh e k t=>q h e (λb o m n=>k b o ?_) t];exact(MP _ _$ MU m).trans n
end
def im(b:Bool)(h:ef)(i l:ε)(k:Nat):Prop:=match b with
 |true=>h.IsListIter i l k
 |false=>h.IsTupleIter i l k
def i9(b:Bool)(h:ef)(l:ε)(x:Array η):Prop:=match b with
 |true=>h.IsList l x
 |false=>h.IsTuple l x
def gH:Bool->String
 |true=>"list_iterator"
 |false=>"tuple_iterator"
def im.kp{b:Bool}{H:ef}(x:im b h i l k)(e:∀o,h.get? i=δ o->H.get? i=δ o):im b H i l k:=by
 cases b
 .exact UJ x e
 .let⟨o,a,r⟩:=x;exact#[o,e o a,r]
def i9.kp{b:Bool}{H:ef}(x:i9 b h l a)(e:∀o,h.get? l=δ o->H.get? l=δ o):i9 b H l a:=by
 cases b
 .let⟨o,c,r⟩:=x;exact#[o,e o c,r]
 .exact VL x e
def im.ob(x:im b h i l k):∃o,h.get? i=δ o/\o.cls= .type (gH b)/\∀v,o.data≠ .cell v:=by
 cases b
 .let⟨o,H,c,d⟩:=x;exact#[o,H,c,λv z=>by rw[d]at z;cases z]
 .let⟨o,H,c,d⟩:=x;exact#[o,H,c,λv z=>by rw[d]at z;cases z]
section
variable {prog:ψ}{w:bU}{A:cJ}{E:η->θ->Prop}{s:θ}
def qB{Q:η->θ->Prop}(H:im b s.heap J T i)(a:i9 b s.heap T I)(c:I[i]?=δ x)
  (q:∀h,im b h J T (i+1)->fy J s.heap h->Q x { s with heap:=h }):ξ (υ prog w) A (ao$ .ref J) Q E s:=by
 cases b
 .exact Y8 H a c q
 .exact wpAny_nextOf_list_item H a c q
def Xh(H:A.handled=ζ)(a:im b s.heap J T i)(c:i9 b s.heap T I)(d:I[i]?=ζ)
  (q:∀h e,lx J s.heap h->Shared.TypeIs { s with heap:=h } e "StopIteration"->E e { s with heap:=h }):ξ (υ prog w) A (ao$ .ref J) Q E s:=by
 cases b
 .exact rg H a c d q
 .exact wpAny_nextOf_list_end H a c d λh e k #[o,f,g]=>q h (.ref e) k #[o,f,g]
def Bz{Q:η->θ->Prop}(h:i9 b s.heap T i)
  (q:Q (.ref s.heap.objs.size) { s with heap:=s.heap.push { cls:=.type (gH b),data:=.fields (ι [.ref T,.int 0 0]) } }):ξ (υ prog w) A (pyIter$ .ref T) Q E s:=by
 cases b
 .exact UL h q
 .exact O6 h q
structure xM(z u v c d a b:ε):Prop where
 uz:u≠z
 vz:v≠z
 cz:c≠z
 dz:d≠z
 uv:u≠v
 uc:u≠c
 ud:u≠d
 vc:v≠c
 vd:v≠d
 cd:c≠d
 az:a≠z
 av:a≠v
 ac:a≠c
 ad:a≠d
 bz:b≠z
 bv:b≠v
 bc:b≠c
 bd:b≠d
def A3{Q:Option η->θ->Prop}(D:xM z u v c d a b)
  (H:IsZip s.heap z u v .none) (hu:IsPair s.heap u (.ref c) (.ref d)) (hv:IsPair s.heap v p q) (h1:im B s.heap c a k) (h2:im C s.heap d b k) (g1:i9 B s.heap a xs) (g2:i9 C s.heap b ys) (hx:xs[k]?=δ x) (hy:ys[k]?=δ y)
  (hQ:∀h,IsZip h z u v (rawInt s.heap.objs.size)->IsPair h v x y->im B h c a (k+1)->im C h d b (k+1)->IsPair h s.heap.objs.size x y->h.objs.size=s.heap.objs.size+1->
   (∀e o,e≠z->e≠v->e≠c->e≠d->s.heap.get? e=δ o->h.get? e=δ o)->Q (δ$ .ref s.heap.objs.size) { s with heap:=h }):ξ (υ prog w) A (pyNext$ .ref z) Q E s:=by
 let W:s.TypeIs (.ref z) "zip":=#[_,H,Z];unfold pyNext;erw[Ms$ N9$ M' (name:=Str.ofString "__next__") W NP$ Nf NP W OY (show ξ _ _ (field (.ref z) 2 >>= _) _ _ _ from ?_)$ OQ _];erw[Ms$ M3 H Z (x:=.bool μ) Z (show ξ _ _ (field (.ref z) 3 >>= _) _ _ _ from Ms$ M3 H Z (x:=.ref u) Z$ Ms$ Nt hu Z ?_)];erw[(show ξ _ _ (cc (.ref z) >>= _) _ _ _ from Ms ?_)];unfold cc;erw[Ms$ M3 H Z (x:=.none) Z$ Mu ?_];simp only[Pj];erw[Ms$ Oe$ Ms$ M3 H Z (x:=.ref v) Z$ Ms$ OK H LM λX F S=>?_];replace F:IsZip X z u v .ellipsis:=F;erw[Ms ?_];simp only[Uj,Uw,OF,Pp];erw[Ms$ Ms$ RT (show ξ _ _ (ao (.ref c) >>= _) _ _ _ from ?_)];erw[Ms$ qB (s:={ s with heap:=X }) (h1.kp λo e=>S.extBut _ _ D.cz e) (g1.kp λo e=>S.extBut _ _ D.az e) hx λG i2 l=>Mu ?_];let Y:IsPair G v p q:=l.extBut _ _ D.vc (S.extBut _ _ D.vz hv);erw[Ms$ Nt (s:={ s with heap:=G }) Y Z$ Ms$ Up (s:={ s with heap:=G }) Y λI J r=>?_];replace J:IsPair I v x q:=J;erw[Ms$ Us$ Mu$ Ms$ Ms$ RT (show ξ _ _ (ao (.ref d) >>= _) _ _ _ from ?_)];let K:∀e o,e≠z->e≠c->e≠v->s.heap.get? e=δ o->I.get? e=δ o:=λe o N f g w=>r.extBut _ _ g (l.extBut _ _ f$ S.extBut _ _ N w);erw[Ms$ qB (s:={ s with heap:=I }) (h2.kp λo e=>K _ _ D.dz D.cd.symm D.vd.symm e) (g2.kp λo e=>K _ _ D.bz D.bc D.bv e) hy λL i4 i=>Mu ?_];let v4:IsPair L v x q:=i.extBut _ _ D.vd J;erw[Ms$ Nt (s:={ s with heap:=L }) v4 Z$ Ms$ Up (s:={ s with heap:=L }) v4 λm V j=>?_];replace V:IsPair m v x y:=V;erw[Ms$ Us$ Mu$ Mu$ Ms$ Nt (s:={ s with heap:=m }) V Z$ Ms$ Tp ?_];let e5:m.objs.size=s.heap.objs.size:=by rw[j.1,i.1,r.1,l.1,S.1]
 let k5:∀e o,e≠z->e≠v->e≠c->e≠d->s.heap.get? e=δ o->m.get? e=δ o:=λe o N f g O w=>j.extBut _ _ f (i.extBut _ _ O$ K e o N g f w);let z5:IsZip m z u v .ellipsis:=j.extBut _ _ D.vz.symm (i.extBut _ _ D.dz.symm$ r.extBut _ _ D.vz.symm$ l.extBut _ _ D.cz.symm F);let j1:im B m c a (k+1):=i2.kp λo e=>j.extBut _ _ D.vc.symm (i.extBut _ _ D.cd$ r.extBut _ _ D.vc.symm e);let j2:im C m d b (k+1):=i4.kp λo e=>j.extBut _ _ D.vd.symm e;let lz:z < m.objs.size:=My z5;erw[(show ξ _ _ (nz (.ref z) (.ref m.objs.size) >>= _) _ _ _ from Ms ?_)];unfold nz;let z6:IsZip (m.push { cls:=.type "tuple",data:=.seq (ι [x,y]) }) z u v .ellipsis:=Mt _ z5;erw[Ms$ OK z6 LM λm7 P R=>?_];replace P:IsZip m7 z u v (rawInt m.objs.size):=P;erw[OK P LM λM t T=>?_];replace t:IsZip M z u v (rawInt m.objs.size):=t;let U:∀e o,e≠z->m.get? e=δ o->M.get? e=δ o:=λe o n w=>T.extBut _ _ n (R.extBut _ _ n$ Mt _ w);let t8:IsPair M m.objs.size x y:=T.extBut _ _ (Nz lz) (R.extBut _ _ (Nz lz)$ MD _ Z);let e8:M.objs.size=m.objs.size+1:=by rw[T.1,R.1,Nc]
 rw[e5]at t t8 e8;erw[Mu #[_,Z,Mu ?_]];show Q (δ$ .ref m.objs.size) _;rw[e5];exact hQ M t (U _ _ D.vz V) (j1.kp λo e=>U _ o D.cz e) (j2.kp λo e=>U _ o D.dz e) t8 e8 λe o N f g O w=>U e o N (k5 e o N f g O w)
def EE{b2:Bool}{ys:Array η}{p q:η}{Q:Option η->θ->Prop}(C:A.handled=ζ)(D:xM z u v c d a b)
  (h:IsZip s.heap z u v .none) (F:IsPair s.heap u (.ref c) (.ref d)) (G:im I s.heap c a k) (J:i9 I s.heap a L) (K:L[k]?=ζ)
  (O:∀H,(∀e o,e≠z->e≠v->e≠c->e≠d->s.heap.get? e=δ o->H.get? e=δ o)->Q ζ { s with heap:=H }):ξ (υ prog w) A (pyNext$ .ref z) Q E s:=by
 let g:s.TypeIs (.ref z) "zip":=#[_,h,Z];unfold pyNext;erw[Ms$ N9$ M' (name:=Str.ofString "__next__") g NP$ Nf NP g OY (show ξ _ _ (field (.ref z) 2 >>= _) _ _ _ from ?_)$ OQ _];erw[Ms$ M3 h Z (x:=.bool μ) Z (show ξ _ _ (field (.ref z) 3 >>= _) _ _ _ from Ms$ M3 h Z (x:=.ref u) Z$ Ms$ Nt F Z ?_)];erw[(show ξ _ _ (cc (.ref z) >>= _) _ _ _ from Ms ?_)];unfold cc;erw[Ms$ M3 h Z (x:=.none) Z$ Mu ?_];simp only[Pj];erw[Ms$ Oe$ Ms$ M3 h Z (x:=.ref v) Z$ Ms$ OK h LM λm f S=>?_];replace f:IsZip m z u v .ellipsis:=f;erw[Ms ?_];simp only[Uj,Uw,OF,Pp];erw[Ms$ Ms$ RT (show ξ _ _ (ao (.ref c) >>= _) _ _ _ from ?_)];erw[Ms$ Xh (s:={ s with heap:=m }) (by simpa using C) (G.kp λo e=>S.extBut _ _ D.cz e) (J.kp λo e=>S.extBut _ _ D.az e) K λM e i j=>?_];let l:IsZip M z u v .ellipsis:=i _ _ D.cz.symm f;erw[OK (s:={ s with heap:=M }) l LM λn U r=>?_];let t:Shared.TypeIs { s with heap:=n } e "StopIteration":=by
  cases e with
  |ref x=>
   let⟨o,y,B⟩:=j;let P:x≠z:=λw=>by subst w;let:=y.symm.trans l;cases this;injection B with w;exact absurd w LO
   exact#[o,r.extBut _ _ P y,B]
  |_=>exact j
 exact Ms$ N8 (T:="StopIteration") (b:=ν) t O8$ Mu$ O n λe o N V R W w=>r.extBut _ _ N (i _ _ R$ S.extBut _ _ N w)
def EF{b1 b2:Bool}{xs ys:Array η}{Q:η->θ->Prop}(J:i9 b1 s.heap a xs)(L:i9 b2 s.heap b ys)
  (h:∀H,IsZip H (s.heap.objs.size+4) (s.heap.objs.size+2) (s.heap.objs.size+3) .none->IsPair H (s.heap.objs.size+2) (.ref s.heap.objs.size) (.ref$ s.heap.objs.size+1)->
   IsPair H (s.heap.objs.size+3) .none .none->im b1 H s.heap.objs.size a 0->im b2 H (s.heap.objs.size+1) b 0->(∀e o,s.heap.get? e=δ o->H.get? e=δ o)->Q (.ref$ s.heap.objs.size+4) { s with heap:=H }):
  ξ (υ prog w) A (call (.type "zip") [.ref a,.ref b]) Q E s:=by
 refine callType_new (S:=λ_ R c=>c=s/\R (.ok$ .ret$ .ref$ s.heap.objs.size+4) { s with heap:=((((s.heap.push { cls:=.type (gH b1),data:=.fields (ι [.ref a,.int 0 0]) }).push { cls:=.type (gH b2),data:=.fields (ι [.ref b,.int 0 0]) }).push { cls:=.type "tuple",data:=.seq (ι [.ref s.heap.objs.size,.ref$ s.heap.objs.size+1]) }).push { cls:=.type "tuple",data:=.seq (ι [.none,.none]) }).push { cls:=.type "zip",data:=.fields (ι [.none,.bool μ,.bool μ,.ref$ s.heap.objs.size+2,.ref$ s.heap.objs.size+3]) } })
  PySem.F.called_zip LO (PySem.F.typeCall_zip_2 _ _) (PySem.F.newCall_zip_2 _ _) (λO=>PySem.F.args_object_init_3 O _ _) PySem.F.entry_zip_new (.of_wp λp w' A' R c P=>?_) #[Z,?_]
 .let⟨rfl,q⟩:=P;let⟨r,g,D,t,os⟩:=c;let u:=sub_zip;let T:i9 b1 (Shared.heap #[r,g,D,t,os]) a xs:=J;let _L:i9 b2 (Shared.heap #[r.push { cls:=.type (gH b1),data:=.fields (ι [.ref a,.int 0 0]) },g,D,t,os]) b ys:=L.kp λo e=>Mt _ e;wp_walk using Bz T,Bz _L;erw[#[_,Z,?_]];simp only[Nc]at q ⊢;exact q
 .let z (h:ef) (o:gm):(h.push o).objs.size=h.objs.size+1:=Nc ..;generalize d:s.heap.push { cls:=.type (gH b1),data:=.fields (ι [.ref a,.int 0 0]) }=M;generalize f:M.push { cls:=.type (gH b2),data:=.fields (ι [.ref b,.int 0 0]) }=i;generalize j:i.push { cls:=.type "tuple",data:=.seq (ι [.ref s.heap.objs.size,.ref$ s.heap.objs.size+1]) }=k;generalize l:k.push { cls:=.type "tuple",data:=.seq (ι [.none,.none]) }=n;generalize v:n.push { cls:=.type "zip",data:=.fields (ι [.none,.bool μ,.bool μ,.ref$ s.heap.objs.size+2,.ref$ s.heap.objs.size+3]) }=m;let N:M.objs.size=s.heap.objs.size+1:=by rw[<- d,z]
  let x:i.objs.size=s.heap.objs.size+2:=by rw[<- f,z,N]
  let y:k.objs.size=s.heap.objs.size+3:=by rw[<- j,z,x]
  let U:n.objs.size=s.heap.objs.size+4:=by rw[<- l,z,y]
  let K:∀e o,n.get? e=δ o->m.get? e=δ o:=λe o w=>by rw[<- v];exact Mt _ w
  let B:∀e o,k.get? e=δ o->m.get? e=δ o:=λe o w=>K e o (by rw[<- l];exact Mt _ w);let C:∀e o,i.get? e=δ o->m.get? e=δ o:=λe o w=>B e o (by rw[<- j];exact Mt _ w);let G:∀e o,M.get? e=δ o->m.get? e=δ o:=λe o w=>C e o (by rw[<- f];exact Mt _ w);let V:∀e o,s.heap.get? e=δ o->m.get? e=δ o:=λe o w=>G e o (by rw[<- d];exact Mt _ w);let I:IsZip m (s.heap.objs.size+4) (s.heap.objs.size+2) (s.heap.objs.size+3) .none:=by rw[<- U,<- v];exact MD _ Z
  let W:IsPair m (s.heap.objs.size+3) .none .none:=K _ _ (by rw[<- y,<- l];exact MD _ Z);let X:IsPair m (s.heap.objs.size+2) (.ref s.heap.objs.size) (.ref$ s.heap.objs.size+1):=B _ _ (by rw[<- x,<- j];exact MD _ Z);let Y:m.get? (s.heap.objs.size+1)=δ { cls:=.type (gH b2),data:=.fields (ι [.ref b,.int 0 0]) }:=C _ _ (by rw[<- N,<- f];exact MD _ Z);let q1:m.get? s.heap.objs.size=δ { cls:=.type (gH b1),data:=.fields (ι [.ref a,.int 0 0]) }:=G _ _ (by rw[<- d];exact MD _ Z);erw[#[#[_,I,Z],h m I X W ?_ ?_ V]]
  .cases b1<;>exact#[_,q1,Z,Z]
  .cases b2<;>exact#[_,Y,Z,Z]
end
def A4(n a b:Nat)(h:a < n)(H:b < n):xM (n+4) (n+2) (n+3) n (n+1) a b:=by erw[#[?_,?_,?_,?_,?_,?_,?_,?_,?_,?_,?_,?_,?_,?_,?_,?_,?_,?_]]<;>(show(_:Nat)≠_;omega)
section
variable {prog:ψ}{w:bU}{A:cJ}{E:η->θ->Prop}
theorem Bo(h:l≠J):∀(n i:Nat) (s:θ) (Q:List η->θ->Prop),s.heap.IsListIter J l i->s.heap.IsList l I->i+n<=I.size->
  (∀a,a.IsListIter J l (i+n)->fy J s.heap a->Q ((I.toList.drop i).take n) { s with heap:=a })->ξ (υ prog w) A (draw (.ref J) n) Q E s
 |0,i,s,Q,b,_,_,q=>show ξ _ _ (pure []) Q E s from Mu (by simpa using q s.heap b (SO ..))
 |n+1,i,s,Q,b,c,d,q=>by
  let H:i < I.size:=by omega
  erw[(show ξ _ _ (pyNext (.ref J) >>= _) Q E s from Ms$ Rt b c (x:=I[i]) (by simp [H]) λm j S=>?_)];erw[Ms$ MW$ Bo h n (i+1) _ _ j (c.extBut S.extBut h) LN λf g k=>Mu ?_];let e:=q f (by rw[show i+(n+1)=i+1+n by omega];exact g) (S.trans k);rwa [show I.toList.drop i=I[i]::I.toList.drop (i+1) by simp [SN,H],List.take_succ_cons]at e
def AY{s:θ}{Q:List η->θ->Prop}(f:A.handled=ζ)(h:s.heap.IsList l i)(a:i.size=n)
  (q:∀c,lx s.heap.objs.size s.heap c->Q i.toList { s with heap:=c }):ξ (υ prog w) A (unpackItems (.ref l) n ζ) Q E s:=by
 let H:l≠s.heap.objs.size:=by let⟨o,g,_⟩:=h;exact MG$ My g
 unfold unpackItems;erw[Ms ?_];unfold notIterableAtAll;erw[Ms$ N0 h.typeIs slot_list_iter.lookup ?_];erw[Mu ?_];simp only[MV,NR];erw[Ms$ MW$ O6 h ?_];let I:(s.heap.push { cls:=.type "list_iterator",data:=.fields (ι [.ref l,.int 0 0]) }).IsListIter s.heap.objs.size l 0:=#[_,MD _ Z,Z,Z];erw[Ms$ MW$ Bo H n 0 _ _ I (h.push _) LN λj J S=>?_];let k:(i.toList.drop 0).take n=i.toList:=by rw[Sv,Nq (by simp [a])]
 rw[k,MS (by simp [a])];let L:j.IsList l i:=(h.push _).extBut S.extBut H;erw[Ms$ MW$ Ue f J L (by simp [a]) λm p=>?_];simp only[TC,MV,NR];exact Mu$ q m λb o d e=>p b o d (S.extBut b o d$ Mt _ e)
end
section
variable {X:Cx}{pos:Pos}
inductive Ix(K:Ω)(n:Nat)(t:sH)(v:V)(c:St)(H:Hp)(Q:St->Hp->Prop):Prop
 |mk(a b:_)(_:v= .ref a)(_:aF K H a b)(_:b.length=n)(_:t b c H Q)
def ZG{E:List dr}{k n:Nat}{t:sH}(g:X.calm=ν)(h:Be X E t)
  (i:↥((assignEach E X.env).length=n)) (c:↥((assignEach E X.env).findIdx? (·.1)=ζ)):PG X (.Tuple E k pos) (Ix X.K n t):=by
 intro P s f H v u Q I r d;let⟨a,x,j,l,m,d⟩:=d;subst j;cases r;let⟨q,R,p,A⟩:=I.list l;rw[assign_Tuple];erw[Ms$ Oy ?_];unfold unpack;rw[i,c];erw[Ms$ MW$ AY (I.ok.hd g) p.isList (by simp [<- m,R.length]) λw y=>?_];let z:ap X P f H { s with heap:=w }:=I.kept (t':=s.toks) λb o e=>y b o (MG$ My e) e;exact h P _ f H x _ Q z (by simpa using R) d
inductive wF(K:Ω)(i j k:Nat)(D:a6)(f:St)(x:V)(b:Hp):Prop
 |mk(a c d e:_)(_:x= .ref a)(_:aB K b a [c,d,e])(_:D.nx (((f.set k (δ e)).set j (δ d)).set i (δ c)) b)
def BV(K:Ω)(t:TE)(i j k:Nat):TS:=λD a H=>t a H (wF K i j k D a)
def Ad{t e:dr}{T:TE}{x y z:π}{i j k:Nat}(n:X.calm=ν)(c:X.N.Nodup)(w:X.N[i]?=δ x)(A:X.N[j]?=δ y)(B:X.N[k]?=δ z)(L:xw X.env.scope x)(C:xw X.env.scope y)(E:xw X.env.scope z)(F:PE X e T)
  (G:X.fn x=ν∨X.env.scope.names.lookup x=δ .local:=by first |exact .inl Z |exact .inr Z) (J:X.fn y=ν∨X.env.scope.names.lookup y=δ .local:=by first |exact .inl Z |exact .inr Z) (M:X.fn z=ν∨X.env.scope.names.lookup z=δ .local:=by first |exact .inl Z |exact .inr Z)
  (O:↥(swapsWithSole [t] e pos.line X.env=pure μ)) (P:↥(swappedStores [t] e X.env=pure (δ [x,y,z]))):PS X (.Assign [t] e pos) (BV X.K T i j k):=by
 intro p s f H D I h;rw[exec_Assign_arm];erw[Ms$ Oy ?_];rw[O];erw[Ms$ Mu ?_];rw[MS LO];erw[Ms$ aL (F p s f H _ I h) λv S d=>?_];let⟨xv,g,l,R,a,v1,v2,v3,Q,V,q⟩:=d;rw[P];erw[Ms$ Mu ?_];subst Q;cases R;let⟨W,r,Y,hz⟩:=l.tuple V;cases r with
 |cons q1 r=>
  cases r with
  |cons q2 r=>
   cases r with
   |cons q3 r=>
    cases r
    rename_i u U m
    unfold assignStores;erw[Ms$ Oe$ Ms$ wpAny_unpackItems_tuple (items:=(ι [u,U,m])) (I.ok.hd n) Y λh' hx=>?_];let I2:ap X p f g { S with heap:=h' }:=l.kept (t':=S.toks) λb o e=>hx b o (MG$ My e) e;erw[Ms ?_];show ξ _ _ (assignInOrder [λv=>bindName X.env z v,λv=>bindName X.env y v,λv=>bindName X.env x v] [m,U,u]) _ _ _;erw[Ms$ MW$ Tt$ zD I2 c B E q3 (λs2 I3=>?_) M];erw[Ms$ MW$ Tt$ zD I3 c A C q2 (λs3 I4=>?_) J];erw[Ms$ MW$ Tt$ zD I4 c w L q1 (λs4 I5=>?_) G];exact Mu$ Mu #[_,g,I5,q]
end
def yc(l b:ε)(I i:Array η)(n N:Nat)(D:Option ε)(S:Array (Option η))(e:¬(!I.isEmpty&&ge (I.size+i.size))=ν)(W:I.size<=τ)(a:I.size+i.size<=τ+1):
  Meets (eK.«list.extend» #[[.ref l,.ref b],[]]) (λ_ R s=>s.heap.get? l=δ { cls:=.type "list",dict:=ζ,data:=.seq I n,slots:=(ι []) }/\s.heap.get? b=δ #[.type "tuple",D,.seq i N,S]/\R (.ok$ .ret β) { s with heap:=s.heap.update l (ib λx=>x++i),toks:=s.toks }):=by
 erw[U0 λp w A R s h=>?_];let⟨f,g,d,t,os⟩:=s;let⟨H,c,h⟩:=h;let F:=AutoSeq1.idx_int;let j:=AutoSeq1.sub_tuple_tuple;let k:=AutoSeq1.sub_list_list;let m:=AutoSeq1.sub_tuple_list;let o:=AutoSeq1.sub_list_tuple;let hz:(I++i).size<=τ+1:=by rw[Pr];exact a
 wp_walk using (Rv H Z (hz:=W) (_hz':=hz)),Sc H,Sc c;exact#[_,Z,h]
section
variable {X:Cx}
inductive iM(K:Ω)(x:V)(a:List V)(H:Hp)(Q:VK):Prop
 |mk(l b c d:_)(_:x= .ref l)(_:a=[.ref b])(_:H l=δ (.lst c))(_:aB K H b d)(_:c.length+d.length<=τ)(_:Q .non (upd H l (.lst (c++d))))
def Y9:HJ X "list.extend" (iM X.K):=by
 intro p s A H x V v U Q I g j h;let⟨l,b,B,C,rfl,rfl,f,k,D,q⟩:=h;cases g;let⟨u,rfl,m⟩:=j.one;cases m;let⟨z,a,n,r,E,e⟩:=I.lstM f;let⟨i,R,P,F⟩:=I.tuple k;let o:=R.length;let d:a.toArray.size+i.toArray.size<=τ:=by rw[ME,ME];omega
 let c:¬(!a.toArray.isEmpty&&ge (a.toArray.size+i.toArray.size))=ν:=by rw[gI d,Sz];exact MJ
 obtain⟨⟨G,O,J,S⟩,t,w,N,y⟩:=P;cases w;cases y;erw[RX Uz #[_,e,Z] Uo (Uc _ _) (yc l b a.toArray i.toArray n N O S c (by rw[ME];omega) LN) #[e,t,?_]];erw[#[.non,_,I.lset (its':=a++i) f e LM (r.append R) (by rw[Mz];omega),Z,q]]
end
section
variable {prog:ψ}{w:bU}{A:cJ}{E:η->θ->Prop}{s:θ}
def JT{R:Result->θ->Prop}{P:Nat->η->Prop}{St:Nat->θ->Prop}
  (W:WalksS prog w A.in1 I N j G n P St) (S:ε) (H:¬S∈N) (c:List π) (O:c.length=n) (Q:∀i v,P i v->∃x t,c[i]?=δ x/\v= .str x t) (d:∀L:List π,L.Nodup->(∀x∈L,x∈c)->L.length+1 < scanBound):
  ∀(k i:Nat) (s:θ) (L:List π),n - i=k->i<=n->St i s->cV prog w s.heap S L->(∀x,x∈L↔x∈c.take i)->L.length<=i->
   (∀a l,Moved (S::j) G s a->cV prog w a.heap S l->(∀x,x∈l↔x∈c)->l.length<=n->R (.ok$ .ret .none) a)->
   fv (υ prog w) A (.builtin "set.update.loop" #[[.ref S,.ref I],[]]) R s:=by
 let f:¬S∈j:=λz=>H (W.sub _ z);let sub:∀b∈j,b∈S::j:=λb z=>MX _ z;intro k;induction k with
 |zero=>
  intro i s L T U st p q F r;let e:i=n:=by omega
  subst e;erw[NO Px ?_];rw[Nx OE];show ξ _ A.in1 (pyNext (.ref I) >>= _) _ _ s;erw[Ms$ W.done s _ _ st λa m=>?_];show ξ _ A.in1 (ret β) _ _ a;erw[Mu$ r a L (m.mono sub) (p.at λo e=>m.heap S o f e) (λx=>?_) F];rw[q x,<- O,NC]
 |succ k V=>
  intro i s L T U st p q F r;let J:i < n:=by omega
  erw[NO Px ?_];rw[Nx OE];show ξ _ A.in1 (pyNext (.ref I) >>= _) _ _ s;erw[Ms$ W.item i s _ _ J st λv a X u m=>?_];let⟨x,t,B,rfl⟩:=Q i v X;show ξ _ A.in1 (mL [mu x t] (setAdd S$ .str x t) >>= _) _ _ a;erw[Ms$ MW ?_];let h:L.Nodup:=by let⟨_,_,_,_,_,_,_,_,_,h,_⟩:=p;exact h
  erw[Yt (p.at λo e=>m.heap S o f e) (d L h λx B=>Nh ((q x).mp B)) λb h' Y K S2 g=>?_];erw[Mu #[Oz OE _,V (i+1) _ _ LN J (W.frame _ a _ _ u g λb d o e=>?_) S2 (λy=>?_) ?_ λC l M D q1 q2=>?_]]
  .rw[K.2 b (λz:b=S=>H (by rw[<- z];exact d))];exact e
  .let tk:c.take (i+1)=c.take i++[x]:=by rw[NY,B];rfl
   rw[tk,OS,RD,<- q y];split
   .rename_i hm
    exact#[.inl,λz=>z.elim id λe=>e▸hm]
   .rw[OS,RD]
  .split
   .omega
   .rw[Mz,On];omega
  .erw[r C l (Moved.trans W.gtrans ((m.mono sub).then_heap g λb o d e=>?_) M) D q1 q2];rw[K.2 b (λz:b=S=>d (by rw[z];exact MM))];exact e
end
section
variable {prog:ψ}{w:bU}{A:cJ}{E:η->θ->Prop}{s:θ}
set_option maxHeartbeats 3200000 in
def Kq{Q:η->θ->Prop}
  (hh:A.handled=ζ) (hl:s.heap.IsList l I) (hi:StrsAre I.toList n) (C:∀L:List π,L.Nodup->(∀x∈L,x∈n)->L.length+1 < scanBound)
  (h:∀(a:ef) (t:Nat) L,cV prog w a s.heap.objs.size L->(∀x,x∈L↔x∈n)->L.length<=I.size->
   (∀b o,b < s.heap.objs.size->s.heap.get? b=δ o->a.get? b=δ o)->s.toks<=t->Q (.ref s.heap.objs.size) { s with heap:=a,toks:=t }):
  ξ (υ prog w) A (call (.type "set") [.ref l]) Q E s:=by
 let⟨c,tl,m1⟩:=PySem.F.called_set.mro;let m0:=PySem.F.called_set.made;let sb:=PySem.F.called_set.sub;erw[O1$ Rx ?_];show ξ _ _ (callAny (.type "set") _) _ _ _;erw[Mu #[RF _ LL,NO PySem.F.entry_type_call ?_]];rw[Around.under_plain (weight_type_call_type "set" [.ref l] []) Z];let n1:=PySem.F.called_set.notType;let n2:=PySem.F.called_set.canCreate;let ct:=PySem.F.typeCall_set_1 (.ref l);repeat (any_goals (first |assumption |wp_step))
 erw[Oa (QE (.ref l) (E:=E) (G:=λv S=>v= .ref s.heap.objs.size/\S={ s with heap:=s.heap.push (bj w) }) #[Z,Z]) λr S D=>?_];cases r with
 |error e=>exact D
 |ok fl=>
  cases fl with
  |ret o2=>
   let⟨rfl,rfl⟩:=D;let J:(s.heap.push$ bj w).get? s.heap.objs.size=δ (bj w):=MD _ Z;let hT:Shared.TypeIs { s with heap:=s.heap.push (bj w) } (.ref s.heap.objs.size) "set":=#[_,J,Z];let li:=PySem.F.called_set.init.lookup;let bi:=PySem.F.called_set.init.bind (.ref s.heap.objs.size);repeat (any_goals (first |assumption |wp_step))
   refine Oa (RM (R:=wants (λr d=>r= .none/\∃a t L,d={ s with heap:=a,toks:=t }/\cV prog w a s.heap.objs.size L/\(∀x,x∈L↔x∈n)/\L.length<=I.size/\
     (∀b o,b < s.heap.objs.size->s.heap.get? b=δ o->a.get? b=δ o)/\s.toks<=t) E) PySem.F.called_set.init.plain PySem.F.entry_set_init (check_set_init_1 hT ?_)) λp d H=>?_
   .let⟨ol,q,u,nl,y⟩:=hl;let⟨o1,g,K,O⟩:=ol;simp only at u y;subst u;subst y;let f:(s.heap.push$ bj w).get? l=δ { cls:=.type "list",dict:=g,data:=.seq I nl,slots:=O }:=Mt _ q;let ns:=PySem.F.sub_list_set;let nf:=PySem.F.sub_list_frozenset;let ne:(gb "list"==gb "dict")=μ:=by decide
    let j:(s.heap.push$ bj w).IsList l I:=#[_,f,Z,nl,Z];unfold bj at J hT f j ⊢;unfold eK.«set.__init__» noKeywords Builtin.Frozenset.updateFrom;generalize M:pyIter=PI;wp_walk;subst M;erw[O6 j ?_];erw[Ms$ RG ?_];let z:l < s.heap.objs.size:=My q;let h3:A.in1.in1.in1.handled=ζ:=by simp [hh]
    let N:l≠(s.heap.push$ bj w).objs.size:=by rw[Nc];exact MG$ Ov z
    let P:¬s.heap.objs.size∈[(s.heap.push$ bj w).objs.size,l]:=by rw[Nc];simp only[Nv,MO,OZ,not_or];exact#[MG$ NV _,Nz z]
    let B:n.length=I.size:=by rw[_L.StrsAre.len hi,M5]
    refine JT ((Walks.list h3 _ l N I).toS) s.heap.objs.size P n B (λi v hv=>StrsAre.at' hi i v (by rw[Oj];exact hv)) C (I.size - 0) 0 _ [] LN (MH _)
     #[#[_,MD _ Z,Z,Z],j.push _] (Yu$ Mt _ J) (λx=>by simp) (Mx _) λs' L m T U V=>?_
    let⟨a,g',d',W,X⟩:=s';let eg:g'=s.gens:=m.gens;let ed:d'=s.drawn:=m.drawn;let eo:X=s.os:=m.os;subst eg;subst ed;subst eo;show ξ _ _ _ _ _ _;erw[Mu ?_];show ξ _ _ (ret β) _ _ _;erw[Mu #[Z,a,W,L,Z,T,U,V,λb o C e=>?_,m.toks]];let b1:b≠s.heap.objs.size:=MG C;let b2:b≠(s.heap.push$ bj w).objs.size:=by rw[Nc];exact MG$ Ov C
    exact m.heap b o (by simp only[Nv,MO,OZ,not_or];exact#[b1,b2])$ Mt _$ Mt _ e
   .cases p with
    |error e=>exact H
    |ok k=>
     cases k with
     |ret r=>
      let⟨rfl,a,t,L,rfl,T,U,V,Y,q3⟩:=H;repeat (any_goals (first |assumption |wp_step))
      exact h _ _ _ T U V Y q3
     |_=>exact H.elim
  |_=>exact D.elim
end
section
variable {X:Cx}
def Jv(m:X.calm=ν):dI X (.type "set") (λg H Q=>∃(p:ε) (S:List π),g=[.ref p]/\aF X.K H p (S.map ti)/\(∀L:List π,L.Nodup->(∀x∈L,x∈S)->L.length+1 < scanBound)/\
  ∀l L,H l=ζ->L.Nodup->(∀x,x∈L↔x∈S)->Q (.ref l) (upd H l$ HM X.prog X.w l L)):=by
 intro P s B H g U Q I r h;let⟨p,S,rfl,n,t,q⟩:=h;let⟨u,rfl,R⟩:=eZ r;cases R;let⟨i,v,y,C⟩:=I.list n;let j:=qz v;let D:i.length=S.length:=(_L.StrsAre.len j).symm;erw[Kq (I.ok.hd m) y.isList (by simpa using j) t λc T L d z E k _=>?_];let a:L.Nodup:=by let⟨_,_,_,_,_,_,_,_,_,a,_⟩:=d;exact a
 let A:∀b o,s.heap.get? b=δ o->c.get? b=δ o:=λb o e=>k b o (My e) e;obtain⟨o,f⟩:∃o,c.get? s.heap.objs.size=δ o:=let #[o,_,_,_,f,_]:=d;#[o,f]
 exact#[.ref s.heap.objs.size,_,I.laid A (Mx _) (show aO X.prog X.w _ c _ (HM X.prog X.w s.heap.objs.size L) from #[d,#[o,f],λF G x e=>cV.at x e]),Z,q _ _ (I.hok.fresh$ Mx _) a z]
end
section
variable {X:Cx}{CX:nF}{k:Nat}{f C:ε}{fd:Φ}{ps:List π}{sp:Sp}{dvs:List V}{ds:List η}{E:XK}{x m:π}{p pos apos:Pos}{e:dr}{es:List dr}{t:TA}
structure Ce(K:Ω)(C:ε)(m:π)(f:ε):Prop where
 rd:PySem.W.readsIn K C (.type "type")=ν
 ga:specialIn K (.ref C) "__getattribute__"=δ (δ$ .builtin "type.__getattribute__")
 at_:PySem.W.findCls K (.ref C) (.type "type") m=δ (.val$ .ref f)
 kp:fx K (.ref f)=ν
def y4{pl:Sem Bool}(j:Gl X x)(l:X.mg x=↑C)(M:Ce X.K C m f)(F:ai X.prog X.w X.K X.mg X.base CX k f fd ps sp)(n:ba k X.A)(q:au X.K fd ps ds)(u:aw dvs ds)(v:c7 CX X E)(y:PA X (e::es) t)
  (a:↥((x==("__debug__":π))=μ))
  (c:↥(Θ (e::es) X.env=(μ,eval e X.env)::Θ es X.env)) (d:↥((eT pos$ Θ es X.env).any (·.1)=μ))
  (z:↥(eval (.Call (.Attribute (.Name x p) m apos) (e::es) [] pos) X.env=(do
   let O <- eval (.Name x p) X.env
   standAt apos.atName
   let (f,first) <- mL [O] (getMethod O m pl)
   callWith pos f first (eT pos$ Θ (e::es) X.env) (backToKw pos$ keywordEach [] X.env)))):
  PE X (.Call (.Attribute (.Name x p) m apos) (e::es) [] pos) (dR sp dvs E t):=by
 intro P s g H Q I h;erw[PR (pl:=pl) (zK I j l ?_ a) z];erw[PySem.W.method_cls I.kIn M.ga$ PySem.W.cls_value I.kIn M.rd M.at_ Z ?_];let B:ap X P g H { s with toks:=s.toks+1 }:=I.kept (h':=s.heap) λb o e=>e;erw[PL (h₀:=X.base) I.ok.mod.kin M.kp (aL (y pos P _ g H _ B h) λU S #[G,J,i,r,D]=>#[i.kIn,?_]) c d];exact Xp F n q u v i r D
end
abbrev gf(h:ef)(z u v T:ε)(f:Bool):Prop:=
 h.get? z=δ { cls:=.type "zip",dict:=ζ,data:=.fields (ι [rawInt T,.bool f,.bool μ,.ref u,.ref v]),slots:=(ι []) }
section
variable {prog:ψ}{w:bU}{A:cJ}{E:η->θ->Prop}{s:θ}
def su{Q:Option gm->θ->Prop}(h:Q (s.heap.get? a) s):ξ M A (loadIfAlive a) Q E s:=λ_ _ _=>h
def Fd{Q:Bool->θ->Prop}(H:gf s.heap z u v T f)(a:∃o,s.heap.get? T=δ o)
  (q:∀h,gf h z u v T ν->lx z s.heap h->h.objs.size=s.heap.objs.size->Q μ { s with heap:=h }):ξ (υ prog w) A (cc$ .ref z) Q E s:=by
 unfold cc;erw[Ms$ M3 H Z (x:=rawInt T) Z ?_];show ξ _ _ (loadIfAlive ((T:Int).toNat) >>= _) _ _ s;erw[Ms$ su ?_];let⟨o,c⟩:=a;rw[Nr,c];simp only[TF,MV,NR];erw[Ms$ M3 H Z (x:=.bool f) Z ?_];cases f with
 |true=>simp only[OB,MV,NR];exact Ms$ Mu$ Mu$ q s.heap H (λb o _ e=>e) Z
 |false=>rw[MQ LO];erw[Ms$ OK H LM λh d S=>Mu (q h d S.extBut S.1)]
def A2{Q:Option η->θ->Prop}(D:xM z u v c d a b)
  (g:gf s.heap z u v T f) (p:∃o,s.heap.get? T=δ o) (q:IsPair s.heap u (.ref c) (.ref d)) (r:im B s.heap c a k) (t:im l s.heap d b k) (G:i9 B s.heap a C) (F:i9 l s.heap b Y) (I:C[k]?=δ x) (J:Y[k]?=δ y)
  (L:∀h,gf h z u v T ν->im B h c a (k+1)->im l h d b (k+1)->IsPair h s.heap.objs.size x y->h.objs.size=s.heap.objs.size+1->
   (∀e o,e≠z->e≠c->e≠d->s.heap.get? e=δ o->h.get? e=δ o)->Q (δ$ .ref s.heap.objs.size) { s with heap:=h }):ξ (υ prog w) A (pyNext$ .ref z) Q E s:=by
 let H:s.TypeIs (.ref z) "zip":=#[_,g,Z];unfold pyNext;erw[Ms$ N9$ M' (name:=Str.ofString "__next__") H NP$ Nf NP H OY (show ξ _ _ (field (.ref z) 2 >>= _) _ _ _ from ?_)$ OQ _];erw[Ms$ M3 g Z (x:=.bool μ) Z (show ξ _ _ (field (.ref z) 3 >>= _) _ _ _ from Ms$ M3 g Z (x:=.ref u) Z$ Ms$ Nt q Z ?_)];erw[(show ξ _ _ (cc (.ref z) >>= _) _ _ _ from Ms$ Fd g p λO P i n=>?_)];simp only[MV,NR];erw[Ms ?_];simp only[TY,OF,Pp];erw[Ms$ Ms$ MW (show ξ _ _ (ao (.ref c) >>= _) _ _ _ from ?_)];erw[Ms$ qB (s:={ s with heap:=O }) (r.kp λo e=>i _ _ D.cz e) (G.kp λo e=>i _ _ D.az e) I λM R j=>Mu (Mu ?_)];erw[Ms$ Ms$ MW (show ξ _ _ (ao (.ref d) >>= _) _ _ _ from ?_)];let K:∀e o,e≠z->e≠c->s.heap.get? e=δ o->M.get? e=δ o:=λe o n U w=>j.extBut _ _ U (i _ _ n w);erw[Ms$ qB (s:={ s with heap:=M }) (t.kp λo e=>K _ _ D.dz D.cd.symm e) (F.kp λo e=>K _ _ D.bz D.bc e) J λm V S=>Mu (Mu$ Mu ?_)];show ξ _ _ (newTuple [x,y] >>= _) _ _ _;erw[Ms$ Tp$ Mu #[_,Z,Mu ?_]];let N:m.objs.size=s.heap.objs.size:=by rw[S.1,j.1];exact n
 let W:gf m z u v T ν:=S.extBut _ _ D.dz.symm (j.extBut _ _ D.cz.symm P);show Q (δ$ .ref m.objs.size) _;rw[N];erw[L _ (Mt _ W) (R.kp λo e=>Mt _ (S.extBut _ _ D.cd e)) (V.kp λo e=>Mt _ e) (by rw[<- N];exact MD _ Z) (by rw[Nc,N]) λe o X a2 a3 w=>Mt _ (S.extBut _ _ a3$ K _ _ X a2 w)]
def ED{b2:Bool}{ys:Array η}{Q:Option η->θ->Prop}(j:A.handled=ζ)(D:xM z u v c d a b)
  (H:gf s.heap z u v T f) (l:∃o,s.heap.get? T=δ o) (m:IsPair s.heap u (.ref c) (.ref d)) (p:im B s.heap c a k) (G:i9 B s.heap a q) (r:q[k]?=ζ)
  (t:∀i,(∀e o,e≠z->e≠c->e≠d->s.heap.get? e=δ o->i.get? e=δ o)->Q ζ { s with heap:=i }):ξ (υ prog w) A (pyNext$ .ref z) Q E s:=by
 let h:s.TypeIs (.ref z) "zip":=#[_,H,Z];unfold pyNext;erw[Ms$ N9$ M' (name:=Str.ofString "__next__") h NP$ Nf NP h OY (show ξ _ _ (field (.ref z) 2 >>= _) _ _ _ from ?_)$ OQ _];erw[Ms$ M3 H Z (x:=.bool μ) Z (show ξ _ _ (field (.ref z) 3 >>= _) _ _ _ from Ms$ M3 H Z (x:=.ref u) Z$ Ms$ Nt m Z ?_)];erw[(show ξ _ _ (cc (.ref z) >>= _) _ _ _ from Ms$ Fd H l λM F g n=>?_)];simp only[MV,NR];erw[Ms ?_];simp only[TY,OF,Pp];erw[Ms$ Ms$ MW (show ξ _ _ (ao (.ref c) >>= _) _ _ _ from ?_)];erw[Ms$ Xh (s:={ s with heap:=M }) (by simpa using j) (p.kp λo e=>g _ _ D.cz e) (G.kp λo e=>g _ _ D.az e) r λy e S C=>?_];exact Ms$ N8 (T:="StopIteration") (b:=ν) C O8$ Mu$ t y λe o n N I w=>S _ _ N (g _ _ n w)
end
def J8:typeLookup (.type "zip") "__getattr__"=pure ζ:=by rw[NT,Np];kernel_rfl
def Yx:typeLookup (.type "zip") "keys"=pure ζ:=by rw[NT,Np];kernel_rfl
def XY:entryFor table "zip.__getattribute__"=δ eK.«object.__getattribute__»:=
 RL (id':="object.__getattribute__") (by kernel_rfl) LL LL (by kernel_rfl)
def Qw(a:ε)(x:Array η)(S:Array (Option η))(u:Tok):
  Meets (eK.«object.__getattribute__» #[[.ref a,.str "keys" u],[]]) (λA R s=>s.heap.get? a=δ { cls:=.type "zip",dict:=ζ,data:=.fields x,slots:=S }/\raisesAttr (.ref a) "keys" A R s):=
 U0 λp w A R s H=>by
  let⟨c,g,d,t,os⟩:=s;let⟨e,H⟩:=H;let f:(#[c,g,d,t,os]:θ).TypeIs (.ref a) "zip":=#[_,e,Z];let b:=Yx;let h:(["__module__","__name__","__qualname__","__doc__","__annotations__"]:List π).contains "keys"=μ:=by decide+kernel
  unfold eK.«object.__getattribute__»;repeat (any_goals (first |assumption |wp_step))
  try simp only[h,MV,NR]
  repeat (any_goals (first |assumption |wp_step))
  exact wpAny_raiseAttrError H.1 H.2$ attrMsg_fits LL (by size_fits)
section
variable {prog:ψ}{w:bU}{A:cJ}{E:η->θ->Prop}{s:θ}
def yz{Q:Option η->θ->Prop}(f:s.heap.get? a=δ { cls:=.type "zip",dict:=ζ,data:=.fields x,slots:=j })(k:A.handled=ζ)
  (h:∀c T,(∀b o,s.heap.get? b=δ o->c.get? b=δ o)->Q ζ { s with heap:=c,toks:=T }):ξ (υ prog w) A (getAttr? (.ref a) "keys") Q E s:=by
 let⟨l,g,d,T,os⟩:=s;let i:∀t,(#[l,g,d,t,os]:θ).TypeIs (.ref a) "zip":=λ_=>#[_,f,Z];let m:=sub_AttributeError;let n:=mF.lookup;let p:=mF.bind (.ref a);let q:=J8;unfold getAttr? getAttrBy? getAttrBy;repeat (any_goals (first |assumption |exact i _ | ((with_reducible show ξ _ _ (call (Value.builtin "zip.__getattribute__") _ _) _ _ _);erw[RX mF (i _) XY (PySem.F.args_zip_getattribute_2 _ _) (Qw a x j _) #[f,by simpa using k,λc t e H=>?_]]) |wp_step))
 let⟨r,u,v⟩:=H.there;show ξ _ _ (getattributeRaised _ _ _ _ _ _ _) _ _ _;unfold getattributeRaised;repeat (any_goals (first |assumption |wp_step))
 exact h _ _ H.keeps
def Cp(h:ef)(z u v c d a b Dd:ε)(x y:Array η)(i:Nat):Prop:=
 ((IsZip h z u v .none/\∃p q,IsPair h v p q)∨∃T f o,gf h z u v T f/\h.get? T=δ o/\T≠z/\T≠c/\T≠d/\T≠Dd)/\IsPair h u (.ref c) (.ref d)/\im μ h c a i/\im μ h d b i/\i9 μ h a x/\i9 μ h b y
def A5{Dd:ε}{Q:Option η->θ->Prop}(D:xM z u v c d a b)(l:Dd < s.heap.objs.size)(S:Cp s.heap z u v c d a b Dd J Y k)(L:J[k]?=δ x)(M:Y[k]?=δ y)
  (N:∀h,Cp h z u v c d a b Dd J Y (k+1)->IsPair h s.heap.objs.size x y->h.objs.size=s.heap.objs.size+1->(∀e o,e≠z->e≠v->e≠c->e≠d->s.heap.get? e=δ o->h.get? e=δ o)->Q (δ$ .ref s.heap.objs.size) { s with heap:=h }):ξ (υ prog w) A (pyNext$ .ref z) Q E s:=by
 let⟨H,g,j,m,G,i⟩:=S;let⟨oc,n,_⟩:=j.ob;let⟨od,r,_⟩:=m.ob;rcases H with ⟨H,p,q,U⟩ | ⟨T,f,o,H,O,t,P,R,V⟩
 .erw[A3 D H g U j m G i L M λh B v1 I C t F K=>N h #[.inr #[s.heap.objs.size,μ,_,B,t,Nz$ My H,Nz$ My n,Nz$ My r,Nz l],K _ _ D.uz D.uv D.uc D.ud g,I,C,G.kp λo e=>K _ _ D.az D.av D.ac D.ad e,i.kp λo e=>K _ _ D.bz D.bv D.bc D.bd e] t F K]
 .erw[A2 D H #[o,O] g j m G i L M λh B I C W F K=>N h #[.inr #[T,ν,o,B,K _ _ t P R O,t,P,R,V],K _ _ D.uz D.uc D.ud g,I,C,G.kp λo e=>K _ _ D.az D.ac D.ad e,i.kp λo e=>K _ _ D.bz D.bc D.bd e] W F λe o X n2 n3 n4 w=>K e o X n3 n4 w]
def EG{Dd:ε}{Q:Option η->θ->Prop}(g:A.handled=ζ)(D:xM z u v c d a b)(n:Cp s.heap z u v c d a b Dd x ys k)(i:x[k]?=ζ)
  (j:∀H,(∀e o,e≠z->e≠v->e≠c->e≠d->s.heap.get? e=δ o->H.get? e=δ o)->Q ζ { s with heap:=H }):ξ (υ prog w) A (pyNext$ .ref z) Q E s:=by
 let⟨h,l,m,B,G,C⟩:=n;rcases h with ⟨h,p,q,F⟩ | ⟨T,f,o,h,r,I,J,L,M⟩
 .exact EE (b2:=μ) (p:=p) (q:=q) (ys:=ys) g D h l m G i j
 .exact ED (b2:=μ) (ys:=ys) g D h #[o,r] l m G i λH K=>j H λe o N O t y w=>K e o N t y w
structure HZ(D z u v c d a b:ε):Prop where
 z:D≠z
 u:D≠u
 v:D≠v
 c:D≠c
 d:D≠d
 a:D≠a
 b:D≠b
def Cp.keep{h j:ef}{Dd:ε}(F:HZ Dd z u v c d a b)(k:∀e o,e≠Dd->h.get? e=δ o->j.get? e=δ o)(st:Cp h z u v c d a b Dd x y i):Cp j z u v c d a b Dd x y i:=by
 let⟨H,l,m,n,G,r⟩:=st;erw[#[?_,k _ _ F.u.symm l,m.kp λo e=>k _ _ F.c.symm e,n.kp λo e=>k _ _ F.d.symm e,G.kp λo e=>k _ _ F.a.symm e,r.kp λo e=>k _ _ F.b.symm e]];rcases H with ⟨H,p,q,B⟩ | ⟨T,f,o,H,g,C,D,I,t⟩
 .exact .inl #[k _ _ F.z.symm H,p,q,k _ _ F.v.symm B]
 .exact .inr #[T,f,o,k _ _ F.z.symm H,k _ _ t g,C,D,I,t]
def Qx{K:Type}[DecidableEq K]{knd:KeyKind prog w K}{R:Result->θ->Prop}{Dd:ε}{x:Array η}(X:A.handled=ζ)(D:xM z u v c d a b)(F:HZ Dd z u v c d a b)(m:List (K×η))(Y:m.length=x.size)(h0:x.size<=τ)
  (hP:∀(i:Nat),i < x.size->∃f V k,x[i]?=δ f/\ys[i]?=δ V/\knd.is k f=ν/\m[i]?=δ (k,V)):
  ∀(j i:Nat) (s:θ) (n:Int),x.size - i=j->i<=x.size->Cp s.heap z u v c d a b Dd x ys i->s.heap.DictOf knd Dd (merged []$ m.take i)->
   (∀h T,(∀e o,e≠Dd->e≠z->e≠v->e≠c->e≠d->s.heap.get? e=δ o->h.get? e=δ o)->h.DictOf knd Dd (merged [] m)->R (.ok$ .ret .none) { s with heap:=h,toks:=T })->
   fv (υ prog w) A (.builtin "dict.update.loop" #[[.ref Dd,.ref z,.int n 0,.none],[]]) R s:=by
 intro j;induction j with
 |zero=>
  intro i s n hj hi st q C;let e:i=x.size:=by omega
  subst e;erw[NO Kj ?_];rw[Nx qf];show ξ _ A.in1 (pyNext (.ref z) >>= _) _ _ s;erw[Ms$ EG (by simpa using X) D st LM λh g=>?_];show ξ _ A.in1 (Builtin.Dict.addKeywords Dd [] >>= λ_=>ret β) _ _ { s with heap:=h };erw[Ms ?_];unfold Builtin.Dict.addKeywords;erw[Mu$ Mu$ C h s.toks (λe o _ N t y B w=>g e o N t y B w) ?_];rw[<- Y,NC]at q;let⟨o,es,ep,ho,r⟩:=q;exact#[o,es,ep,g _ _ F.z F.v F.c F.d ho,r]
 |succ j ih=>
  intro i s n hj hi st q C;let M:i < x.size:=by omega
  let⟨f,V,k,hx,hy,O,hm⟩:=hP i M;erw[NO Kj ?_];rw[Nx qf];show ξ _ A.in1 (pyNext (.ref z) >>= _) _ _ s;let⟨oD,G,I,H,rD⟩:=id q;let L:Dd < s.heap.objs.size:=My H;erw[Ms$ A5 D L st hx hy λl S P N g=>?_];let hb:Shared.TypeIs { s with heap:=l } (.ref s.heap.objs.size) "tuple":=#[_,P,Z];let J:l.DictOf knd Dd (merged []$ m.take i):=#[oD,G,I,g _ _ F.z F.v F.c F.d H,rD];dsimp only;erw[Ms$ MW ?_];erw[Ms$ wpAny_tryCatch ?_];unfold Builtin.Dict.pairItems;erw[Ms$ Ol hb ?_];rw[MQ LO];erw[Ms$ Nt P Z$ Mu ?_];show ξ _ A.in1 (mL [f,V]$ dictSet Dd f V) _ _ { s with heap:=l };unfold dictSet;erw[MW$ MW$ Ms$ knd.pyHash O ?_];let Q:(merged ([]:List (K×η))$ m.take i).length<=i:=by let:=U5 ([]:List (K×η)) (m.take i);rw[M1]at this;simp only[OT]at this;omega
  erw[wpAny_dictSetHashed_pairs (s:={ s with heap:=l,toks:=s.toks+1 }) O J (λh p sb=>?_) LN];rw[<- merged_take_succ [] m i (k,V) hm]at p;let U:∀e o,e≠Dd->l.get? e=δ o->h.get? e=δ o:=λe o ne w=>(sb.2 e ne).trans w;erw[Mu #[Oz qf _,ih (i+1) _ (n+1) LN M (S.keep F U) p λh2 T k2 d2=>C h2 T (λe o W N t y B w=>k2 e o W N t y B (U _ _ W$ g e o N t y B w)) d2]]
def QK{K:Type}[DecidableEq K]{knd:KeyKind prog w K}{more:List (K×η)}{Q:η->θ->Prop}(N:A.handled=ζ)(D:xM z u v c d a b)
  (j:IsZip s.heap z u v .none) (P:IsPair s.heap u (.ref c) (.ref d)) (m:∃p q,IsPair s.heap v p q) (U:im μ s.heap c a 0) (V:im μ s.heap d b 0) (W:i9 μ s.heap a x) (X:i9 μ s.heap b ys)
  (hn:more.length=x.size) (n:x.size<=τ) (hP:∀(i:Nat),i < x.size->∃Y vu k,x[i]?=δ Y/\ys[i]?=δ vu/\knd.is k Y=ν/\more[i]?=δ (k,vu))
  (h:∀l t,l.DictOf knd s.heap.objs.size (merged [] more)->(∀e o,e≠z->e≠v->e≠c->e≠d->s.heap.get? e=δ o->l.get? e=δ o)->Q (.ref s.heap.objs.size) { s with heap:=l,toks:=t }):
  ξ (υ prog w) A (call (.type "dict") [.ref z]) Q E s:=by
 erw[VD (Q₁:=λO S=>O= .ref s.heap.objs.size/\S={ s with heap:=s.heap.push { cls:=.type "dict",data:=.dict (ι []) } }) PySem.F.kt_called_dict (PySem.F.kt_typeCall_dict_1 _) PySem.F.entry_dict_init (kt_code_dict_new _ #[Z,Z]) ?_];rintro O S ⟨rfl,rfl⟩;let f:(s.heap.push { cls:=.type "dict",data:=.dict (ι []) }).DictOf knd s.heap.objs.size []:=Tn s.heap;erw[#[f.typeIs,PySem.F.args_dict_init_2 _ _,?_]];unfold eK.«dict.__init__»;erw[Ms ?_];unfold Builtin.Dict.selfAndRest;erw[Ms$ wpAny_notOrdered_dict f.typeIs ?_];show ξ _ _ (pure (s.heap.objs.size,[ω z])) _ _ _;erw[Mu ?_];show ξ _ _ (Builtin.Dict.updateFrom "dict.__init__" s.heap.objs.size (.ref z) [] .none) _ _ _;unfold Builtin.Dict.updateFrom;generalize hH:s.heap.push { cls:=.type "dict",data:=.dict (ι []) }=H at f ⊢;let G:∀b o,s.heap.get? b=δ o->H.get? b=δ o:=λb o e=>by rw[<- hH];exact Mt _ e
 erw[Ms$ Ol #[_,G _ _ j,Z] ?_];rw[MQ LO];erw[Ms$ yz (s:={ s with heap:=H }) (G _ _ j) (by simpa using N) λM t k1=>?_];simp only[TH,Pj];erw[Ms$ Oe ?_];let g:∀b o,s.heap.get? b=δ o->M.get? b=δ o:=λb o e=>k1 _ _ (G _ _ e);erw[Ms$ wpAny_pyIter_zip (s:={ s with heap:=M,toks:=t }) (g _ _ j) ?_];let⟨oD,eD,y,B,rD⟩:=f;let⟨p,q,m⟩:=m;let⟨oc,C,_⟩:=U.ob;let⟨od,I,_⟩:=V.ob;let⟨oa,J,_⟩:=id W;let⟨ob,L,_⟩:=id X;let F:HZ s.heap.objs.size z u v c d a b:=#[Nz$ My j,Nz$ My P,Nz$ My m,Nz$ My C,Nz$ My I,Nz$ My J,Nz$ My L];refine Mu #[Oz qf _,Oa (Qx (knd:=knd) (A:=A.in1) (R:=λr s'=>r= .ok (.ret .none)/\Q (.ref s.heap.objs.size) s') (by simpa using N) D F more hn n hP x.size 0 { s with heap:=M,toks:=t } 0 Z (MH _)
  #[.inl #[g _ _ j,p,q,g _ _ m],g _ _ P,U.kp λo e=>g _ _ e,V.kp λo e=>g _ _ e,W.kp λo e=>g _ _ e,X.kp λo e=>g _ _ e] #[oD,eD,y,k1 _ _ B,rD] λl T k2 d2=>#[Z,?_]) λr s' q=>?_]
 .exact h l T d2 λe o n1 n2 n3 n4 w=>k2 e o (MG$ My w) n1 n2 n3 n4 (g _ _ w)
 .let⟨rfl,q⟩:=q;exact#[Z,q]
end
section
variable {X:Cx}{e1 e2:dr}{ta:TA}{p p2 pos pos2:Pos}
inductive Hr(K:Ω)(Q:VK)(e:List V)(c:Hp):Prop
 |mk(a b:ε)(d:List bG)(f:List V)(_:e=[.ref a,.ref b])(_:aB K c a (d.map kV))(_:aB K c b f)(_:d.length=f.length)(_:∀l,c l=ζ->Q (.ref l) (upd c l (.dK (bX [] (d.zip f)))))
def Ly(K:Ω)(ta:TA):TE:=λa H Q=>ta a H (Hr K Q)
theorem ZH{P:ψ}{w:bU}:∀{K:List bG} {U:List η},aw (K.map kV) U->∀(i:Nat) (k:bG),K[i]?=δ k->∃u,U[i]?=δ u/\(aP P w).is k u=ν
 | [],_,_,i,k,h=>by simp at h
 |k0::K,_,.cons (b:=u) h t,0,k,e=>by
  let E:k0=k:=by simpa using e
  subst E;exact#[u,Z,KA h]
 |k0::K,_,.cons h t,i+1,k,e=>by simpa using ZH (P:=P) (w:=w) t i k (by simpa using e)
theorem uh:∀{K:List bG} {y:List V} {u:List η},aw y u->KV (K.zip y) (K.zip u)
 | [],_,_,_=>by simp only[List.zip_nil_left];exact .nil
 |_::_,_,_,.nil=>by simp only[List.zip_nil_right];exact .nil
 |k::K,_,_,.cons h t=>.cons #[Z,h] (uh t)
def XD(m:Gl X "dict")(n:X.mg "dict"=ζ)(t:Gl X "zip")(v:X.mg "zip"=ζ)(N:X.calm=ν)(O:PA X [e1,e2] ta)
  (T:↥(Θ [e1,e2] X.env=(μ,eval e1 X.env)::Θ [e2] X.env)) (U:↥((eT pos2$ Θ [e2] X.env).any (·.1)=μ))
  (f:↥(Θ [Expr.Call (.Name "zip" p2) [e1,e2] [] pos2] X.env=(μ,eval (.Call (.Name "zip" p2) [e1,e2] [] pos2) X.env)::Θ [] X.env)) (x:↥((eT pos$ Θ [] X.env).any (·.1)=μ)):
  PE X (.Call (.Name "dict" p) [.Call (.Name "zip" p2) [e1,e2] [] pos2] [] pos) (Ly X.K ta):=by
 intro P s V H Q I h;erw[No$ qJ I m n Vy ?_];erw[NA ?_ f x];rw[f];show ξ _ _ (spliced ((μ,eval _ X.env)::eT pos (Θ [] X.env))) _ _ s;erw[Oi ?_];erw[No$ qJ I t v Vx ?_];erw[NA (aL (O pos2 P s V H _ I h) λus S z=>?_) T U];let⟨vs,H1,d,W,Y⟩:=z;let⟨a,b,c,ys,e,gx,gy,hl,q⟩:=Y;subst e;cases W with
 |cons r rr=>
  cases rr with
  |cons r' y=>
   cases y;cases r;cases r';let⟨A,F,G,z1⟩:=d.tuple gx;let⟨j,R,C,z2⟩:=d.tuple gy;let l1:=F.length;let l2:=R.length;rw[Mv]at l1 z1;let la:a < S.heap.objs.size:=by let⟨o,D,_⟩:=G;exact My D
   let lb:b < S.heap.objs.size:=by let⟨o,D,_⟩:=C;exact My D
   erw[EF (b1:=μ) (b2:=μ) (xs:=A.toArray) (ys:=j.toArray) G C λE J u' v' i1 i2 k=>?_];erw[OJ ?_];let Dz:=A4 S.heap.objs.size a b la lb;erw[QK (s:={ S with heap:=E }) (knd:=aP X.prog X.w) (more:=c.zip j) (d.ok.hd N) Dz J u' #[_,_,v'] i1 i2 (i9.kp (b:=μ) G λo e=>k _ _ e) (i9.kp (b:=μ) C λo e=>k _ _ e) (by rw[Sa,ME];omega) (by rw[ME];omega) (λi hi=>?_) λh2 tk dd k2=>?_]
   .rw[ME]at hi;let L:i < c.length:=by omega
    let M:i < j.length:=by omega
    let⟨u,hu,ku⟩:=ZH F i _ (Mw L);erw[#[u,j[i],c[i],by simpa using hu,by simp [M],ku,?_]];rw[SM];exact#[Mw L,Mw M]
   .let g:KV (bX []$ c.zip ys) (merged []$ c.zip j):=KV.merge (uh R) .nil;let zl:(bX []$ c.zip ys).length<=τ:=by rw[g.length];let:=U5 ([]:List (bG×η)) (c.zip j);rw[Sa]at this;simp only[OT]at this;omega
    let k3:∀e o,S.heap.get? e=δ o->h2.get? e=δ o:=λe o w=>by let l:=My w;exact k2 e o (MG$ MN l$ Oh _ _) (MG$ MN l$ Oh _ _) (MG l) (MG$ MN l$ Oh _ _)$ k _ _ w
    let B:S.heap.objs.size<=E.objs.size:=ON (N5 (Oh _ 4)$ My J);exact#[.ref E.objs.size,_,d.laid k3 B$ Xs zl (beq_eq_false_iff_ne.mpr$ MU$ MG$ MN d.big B) g dd,Z,q _$ d.hok.fresh B]
end
section
variable {X:Cx}{st:da}{ss:List da}{e:dr}{es:List dr}
def Lw:TS:=λ_ _ _=>False
def DR:mz X ss Lw:=λ_ _ _ _ _ _ h=>False.elim h
end
def ai.calm{P:ψ}{K:Ω}(F:ai P w K m b aA k f c p d):ai P w K m b C k f c p d:=
 #[F.len,λA o s H a u v Q E g i j l n=>Oa (F.run A o s H a u v Q E g i j l n) λr S h=>by
  cases r with
  |error e=>exact False.elim h
  |ok q=>cases q<;>exact h]
end _L
namespace _L
open PySem PySem.Spec PyProof.Rows PySem.SeqAt
inductive Gy(K:Ω)(x y:V)(H:Hp)(Q:VK):Prop
 |mk(a b d e:_)(_:x= .ref a)(_:y= .ref b)(_:aB K H a d)(_:aB K H b e)(_:(d.all cj=ν/\e.all cj=ν/\Q (.bl (tE d e)) H)∨∃(w:π) (c:ε) (zs:List V) (u:π) (i:Int),d=[.str w,.ref c]/\aB K H c zs/\e=[.str u,.int i]/\Q (.bl μ) H)
def YG{X:Cx}(d:X.A.units+1 < cLine):gg X (compareOp .Eq) (Gy X.K):=by
 intro p s m H x y v U Q I f g h;obtain⟨a,b,n,Y,rfl,rfl,k,l,h | ⟨w,c,M,u,i,rfl,o,rfl,q⟩⟩:=h
 .exact DG (Ui d) p s m H _ _ v U Q I f g #[a,b,n,Y,Z,Z,k,l,h]
 cases f;cases g;let⟨N,r,P,_⟩:=I.tuple k;let⟨O,R,t,_⟩:=I.tuple l;let⟨S,V,z,_⟩:=I.tuple o;cases r with
 |cons B r=>
  cases r with
  |cons C r=>
   cases r;cases R with
   |cons D R=>
    cases R with
    |cons E R=>
     cases R;let⟨T,rfl⟩:=B;cases C;let⟨F,rfl⟩:=D;let⟨G,rfl⟩:=E;erw[eq_tupleAt (e:=λj=>if j=0 then w==u else μ) (show s.heap.IsTuple a _ from P) (show s.heap.IsTuple b _ from t) (Ui d) (λj J L=>?_) ?_]
     .match j,J,L with
      |0,_,_=>exact EqAt.str_str w T u F
      |1,_,_=>exact EqAt.tuple_int i G (show s.heap.IsTuple c _ from z) (by simpa [Around.in1,Around.units] using d)
     .let e:((kr$ min 2 2).all (λj=>if j=0 then w==u else μ)&&(2:Nat)==2)=μ:=by show((if 0=0 then w==u else μ)&&((if 1=0 then w==u else μ)&&ν)&&ν)=μ;simp
      exact#[.bl μ,H,I,NK ra e,q]
end _L
namespace _L
open PySem PySem.Spec PyProof.Rows
structure gG(k:Nat)(A:cJ):Prop where
 dp:A.depth+3*k+5 < recursionLimit
 un:A.units+16*k+200 < cLine
def ba.mkM{k:Nat}{A:cJ}{e:Option η}(r:ba k A):gG k (A.mark e):=#[r.dp,r.un]
def gG.deeper{k:Nat}{A:cJ}(r:gG (k+1) A)(e:tf):gG k (A.deeper e):=
 #[by let:=r.dp;show A.depth+1+3*k+5 < _;omega,by let:=r.un;show A.units+3+16*k+200 < _;omega]
abbrev EL(P:ψ)(w:bU)(K:Ω)(m:π->Option η)(b:ef)(N:List π)(q:π)(S:hJ)(f:ε)(c:η)(A:cJ)(o:List tf)(s:θ)(H:Hp)(E:XK):Cx:=
 { eP aA P w K m b N q S f c A o s H E with calm:=μ }
def FM{P:ψ}{w:bU}{K:Ω}{m:π->Option η}{b:ef}{N:List π}{q:π}{S:hJ}{f:ε}{c:η}{A e:cJ}{o:List tf}{s a:θ}{H h:Hp}{E:XK}{p:List (ε×gm)}{d:St}
  (I:ap (eP aA P w K m b N q S f c e o s H E) p d h a) (g:(A.deeper$ envOfC q S s.heap.objs.size f c).frames=δ (envOfC q S s.heap.objs.size f c::o)):ap (EL P w K m b N q S f c A o s H E) p d h a:=
 #[#[I.ok.mod,I.ok.kind,I.ok.glob,I.ok.blt,I.ok.above,I.ok.inj,I.ok.has,I.ok.cab,(λz=>by cases z),g,I.ok.stk,I.ok.exf,I.ok.bs,I.ok.bsz,I.ok.noex,I.ok.exfs,I.ok.funs,I.ok.frf],I.os,I.bare,I.base,I.loc,I.cell,I.free,I.freeC,I.pin,I.hok,I.len]
def QL:entryFor table "proto.unchain"=δ eK.«proto.unchain»:=Pe (by kernel_rfl)
section
variable {prog:ψ}{w:bU}{A:cJ}{E:η->θ->Prop}{s:θ}
structure Hd(A:cJ)(h:ef)(x:ε):Prop where
 hh:A.handled=↑x
 ob:∃o vs,h.get? x=δ o/\o.data= .fields vs/\vs[2]?=δ .none
def Za{e:Type}{x a:ε}{f:gm}{b:Array η}{Q:e->θ->Prop}(h:Hd A s.heap x)(n:x≠a)(g:s.heap.get? a=δ f)(i:f.data= .fields b)(H:2 < b.size)
  (q:E (.ref a) { s with heap:=s.heap.update a (fJ (·.setIfInBounds 2 (.ref x))) }):ξ (υ prog w) A (raiseNew (.ref a):Sem e) Q E s:=by
 let⟨o,v,j,c,k⟩:=h.ob;unfold raiseNew;erw[Ms$ wpAny_handled ?_];rw[h.hh];let d:(ω x != ω a)=ν:=by simp [bne,n]
 dsimp only;rw[MQ d];erw[Ms$ MW$ RG$ NO QL ?_];unfold eK.«proto.unchain»;dsimp only;erw[Ms$ M3 j c k ?_];rw[MQ LO];erw[Mu ?_];dsimp only;erw[Ms ?_];show ξ _ _ (setField (.ref a) 2$ .ref x) _ _ _;exact Nj g i H$ wpAny_throw q
def Xi{f:Type}{x:ε}{Q:f->θ->Prop}(h:Hd A s.heap x)(q:∀a H,(∀b o,s.heap.get? b=δ o->H.get? b=δ o)->(∃o,H.get? a=δ o/\o.cls= .type "StopIteration")->E (.ref a) { s with heap:=H }):
  ξ (υ prog w) A (newExc (.type "StopIteration") [] >>= λe=>(raiseNew e:Sem f)) Q E s:=by
 let⟨O,v,g,c,d⟩:=h.ob;erw[Ms ?_];simp only[newExc,newTuple];erw[Ms$ Na (Ms (m:=firstArgMember _ _)$ P' (a:=β) (by first |rfl | (simp only[firstArgMember];rfl))$ Na ?_ (by size_fits)) (by size_fits)];erw[Za (x:=x) #[h.hh,O,v,Mt _$ Mt _ g,c,d] (λz=>?_) (MD _ Z) Z (by rw[Pr];exact MN (show 2 < 6 by decide)$ Oh 6 _) (q _ _ (λb o e=>?_) #[_,M8 _ (MD _ Z) Z,Z])]
 .exact absurd (My g) (by rw[z,Nc];exact Nat.not_lt.mpr$ NM _)
 .rw[MP _ _ λz=>absurd (My e) (by rw[<- z,Nc];exact Nat.not_lt.mpr$ NM _)];exact Mt _$ Mt _ e
def Hd.ne{x i:ε}{o:gm}{u v:η}(h:Hd A s.heap x)(c:s.heap.get? i=δ o)(d:o.data= .fields (ι [u,v])):x≠i:=λz=>by let⟨O,V,b,H,a⟩:=h.ob;rw[z,c]at b;injection b with b;rw[<- b,d]at H;injection H with H;rw[<- H]at a;simp at a
def Hd.upd{x i:ε}{f:gm->gm}(h:Hd A s.heap x)(n:x≠i):Hd A (s.heap.update i f) x:=let #[o,v,e,r]:=h.ob;#[h.hh,o,v,(MP _ _$ MU n).trans e,r]
def pY{c l x:ε}{i:Nat}{I}{Q:Option η->θ->Prop}(h:Hd A s.heap x)(H:s.heap.IsListIter c l i)(n:s.heap.IsList l I)(p:I[i]?=ζ)(q:∀g,lx c s.heap g->Q ζ { s with heap:=g }):ξ (υ prog w) A (pyNext$ .ref c) Q E s:=by obtain⟨⟨o,d,u,f⟩,O,j,_,v,m⟩:=And.intro (id H) n;let N:=h.ne d f;unfold pyNext;erw[Ms (N9$ M' (name:=Str.ofString "__next__") H.typeIs UP$ Nf UP H.typeIs entry_listiter_next ?_$ args_listiter_next _)];show ξ _ _ (bind (field (.ref c) 0) _) _ _ s;erw[Ms$ M3 d f (x:=.ref l) Z ?_];show ξ _ _ (ite ((ω l==β)=ν) _ _) _ _ s;rw[MS (show ¬((ω l==β)=ν) from MJ)];show ξ _ _ (bind (field (.ref c) 1) _) _ _ s;erw[Ms$ M3 d f (x:=.int i 0) Z ?_];show ξ _ _ (bind (seqItems?$ .ref l) _) _ _ s;erw[Ms (Nt j m ?_)];simp only[Nr,p];erw[Ms (Oe$ Ms$ Nj d f LM$ Xi (A:=A.in1) #[h.hh,(h.upd N).ob] λa g k #[y,r,C]=>?_)];exact Ms$ N8 (T:="StopIteration") (b:=ν) #[_,r,C] O8 (Mu$ q _ λb o t e=>k _ _ ((MP _ _$ MU t).trans e))
def wR{c l x:ε}{i:Nat}{I}{Q:Option η->θ->Prop}(h:Hd A s.heap x)(H:IsTupIter s.heap c l i)(n:IsTup s.heap l I)(p:I[i]?=ζ)(q:∀g,lx c s.heap g->Q ζ { s with heap:=g }):ξ (υ prog w) A (pyNext$ .ref c) Q E s:=by obtain⟨⟨o,d,u,f⟩,O,j,_,v,m⟩:=And.intro (id H) n;let N:=h.ne d f;unfold pyNext;erw[Ms (N9$ M' (name:=Str.ofString "__next__") H.typeIs UB$ Nf UB H.typeIs entry_tupleiter_next ?_$ args_tupleiter_next _)];show ξ _ _ (bind (field (.ref c) 0) _) _ _ s;erw[Ms$ M3 d f (x:=.ref l) Z ?_];show ξ _ _ (ite ((ω l==β)=ν) _ _) _ _ s;rw[MS (show ¬((ω l==β)=ν) from MJ)];show ξ _ _ (bind (field (.ref c) 1) _) _ _ s;erw[Ms$ M3 d f (x:=.int i 0) Z ?_];show ξ _ _ (bind (seqItems?$ .ref l) _) _ _ s;erw[Ms (Nt j m ?_)];simp only[Nr,p];erw[Ms (Oe$ Ms$ Nj d f LM$ Xi (A:=A.in1) #[h.hh,(h.upd N).ob] λa g k #[y,r,C]=>?_)];exact Ms$ N8 (T:="StopIteration") (b:=ν) #[_,r,C] O8 (Mu$ q _ λb o t e=>k _ _ ((MP _ _$ MU t).trans e))
def Hd.ext{x:ε}{n:Nat}{h1 H:ef}(h:Hd A h1 x)(e:lx n h1 H)(N:x≠n):Hd A H x:=let #[o,v,q,r]:=h.ob;#[h.hh,o,v,e _ _ N q,r]
def Zb{t x:ε}{i:Array η}{Q:List η->θ->Prop}(h:Hd A s.heap x)(H:IsTup s.heap t i)(j:∀f,lx s.heap.objs.size s.heap f->Q i.toList { s with heap:=f }):ξ (υ prog w) A (unpackItems (.ref t) i.size ζ) Q E s:=by
 let a:t≠s.heap.objs.size:=let #[o,c,_]:=H;MG (My c)
 let d:x≠s.heap.objs.size:=let #[o,_,c,_]:=h.ob;MG (My c)
 unfold unpackItems notIterableAtAll;erw[Ms (Ms$ N0 H.typeIs slot_tuple_iter.lookup$ Mu ?_)];simp only[MV,NR];erw[Ms (MW$ iter_tuple H$ Ms$ MW$ draw_tuple a i.size 0 _ _ #[_,MD _ Z,Z,Z] (H.push _) LN λh1 I k=>?_)];let all:List.take i.size (List.drop 0 i.toList)=i.toList:=by rw[Sv];exact Nq LM
 let X:Hd A h1 x:=Hd.ext (h1:=s.heap.push _) #[h.hh,let #[o,v,q,r]:=h.ob;#[o,v,Mt _ q,r]] k.extBut d;rw[all,MS LM];erw[Ms (MW$ wR X I ((H.push _).extBut k.extBut a) LM λl m=>?_)];simp only[TC,MV,NR];exact Mu (j l λb o g e=>m b o g (k.extBut b o g$ Mt _ e))
end
inductive Bj(H:Hp)(x:ε):Prop
 |mk(C d T:_)(_:H x=δ (fc C d T x))
def ap.hd{X:Cx}{p:List (ε×gm)}{b:St}{H:Hp}{s:θ}{x:ε}(I:ap X p b H s)(c:X.A.handled=↑x)(h:Bj H x):Hd X.A s.heap x:=by let⟨C,d,T,e⟩:=h;obtain⟨⟨o,v,f,_,_,_,g,_,a⟩,_⟩:=I.hok x _ e;exact#[c,o,v,f,g,a]
inductive oI(K:Ω)(b:ε)(n:Nat)(t:sH)(v:V)(d:St)(H:Hp)(Q:St->Hp->Prop):Prop
 |mk(_:Bj H b)(a c:_)(_:v= .ref a)(_:aB K H a c)(_:c.length=n)(_:t c d H Q)
def y'{X:Cx}{P:Pos}{x:ε}{E:List dr}{k:Nat}{t:sH}{n:Nat}(g:X.A.handled=↑x)(h:Be X E t)
  (j:↥((assignEach E X.env).length=n)) (c:↥((assignEach E X.env).findIdx? (·.1)=ζ)):PG X (.Tuple E k P) (oI X.K x n t):=by
 intro p s f H v u Q I r d;let⟨T,a,l,m,q,w,d⟩:=d;subst m;cases r;let⟨i,R,y,D⟩:=I.tuple q;rw[assign_Tuple];erw[Ms$ Oy ?_];unfold unpack;rw[show(assignEach E X.env).length=i.toArray.size by simp [j,<- w,R.length],c];erw[Ms$ MW$ Zb (I.hd g T) y λz B=>?_];let C:ap X p f H { s with heap:=z }:=I.kept (t':=s.toks) λb o e=>B b o (MG$ My e) e;exact h p _ f H l _ Q C (by simpa using R) d
structure sO(P:ψ)(w:bU)(K:Ω)(xm:ε)(tg:dr)(J:It)(fp:List ε)(it:ε)(tn:Nat->ef->Prop):Prop where
 obj:∀i h,tn i h->∀b∈fp,∃o,h.get? b=δ o/\∀v,o.data≠ .cell v
 keep:∀i h h',tn i h->(∀b∈fp,∀o,h.get? b=δ o->h'.get? b=δ o)->tn i h'
 item:∀(X:Cx),X.prog=P->X.w=w->X.K=K->X.A.handled=↑xm->∀(i:Nat) (pins:List (ε×gm)) (s:θ) (σ:St) (H:Hp) (E:η->θ->Prop),ap X pins σ H s->Bj H xm->(∀b∈fp,dS X pins H b)->tn i s.heap->J.go i H->
  ξ (υ P w) X.A (pyNext$ .ref it) (λr s1=>∃u,r=δ u/\ξ (υ P w) X.A (letOwnedTupleGo tg (.ref it) u) (λ_ s2=>∃x H',ap X pins σ H' s2/\aC x u/\J.yld i H x H'/\tn (i+1) s2.heap/\∀b∈fp,H' b=ζ) E s1) E s
 done:∀(X:Cx),X.prog=P->X.w=w->X.K=K->X.A.handled=↑xm->∀(i:Nat) (pins:List (ε×gm)) (s:θ) (σ:St) (H:Hp) (E:η->θ->Prop),ap X pins σ H s->Bj H xm->(∀b∈fp,dS X pins H b)->tn i s.heap->J.stop i H->
  ξ (υ P w) X.A (pyNext$ .ref it) (λr s1=>r=ζ/\ap X pins σ H s1) E s
 self:∀(A:cJ) (i:Nat) (s:θ) (Q:η->θ->Prop) (E:η->θ->Prop),tn i s.heap->Q (.ref it) s->ξ (υ P w) A (pyIter$ .ref it) Q E s
def Zc{P:ψ}{w:bU}{K:Ω}{M:ε}{N:dr}(a f:ε):sO P w K M N (xp K a) [f] f (λi h=>h.IsListIter f a i) where
 obj:=λi h st b g=>by
  obtain rfl:b=f:=by simpa using g
  let⟨o,e,c,d⟩:=st;exact#[o,e,λv z=>by rw[d]at z;cases z]
 keep:=λi h n st k=>st.at λo e=>k f LM o e
 item:=by intro X q r t L i j s O H E I T l st y;subst q r t;let⟨Q,x,m,A⟩:=y;let⟨B,R,p,U⟩:=I.list m;let⟨u,V,W⟩:=R.get A;let⟨F,C,Y,D,G,J⟩:=l f LM;erw[Rt st p.isList (x:=u) (by simpa using V) λn S sb=>?_];let⟨o,e,c,d⟩:=id S;exact#[u,Z,XZ (s:={ s with heap:=n }) e c d LO #[x,H,I.turned (t':=s.toks) (λb o g e=>(sb.2 b g).trans e) F C D G J,W,#[Z,λys hy=>by rw[I.list_inj hy m];exact A],S,λb g=>(l b g).1]]
 done:=by intro X q r t L i j s O H E I T l st y;subst q r t;let⟨Q,m,A⟩:=y;let⟨B,R,p,U⟩:=I.list m;let⟨F,C,Y,D,G,J⟩:=l f LM;let hl:=R.length;exact pY (I.hd L T) st p.isList (by simp;omega) λn eb=>#[Z,I.turned (t':=s.toks) (λb o g e=>eb b o g e) F C D G J]
 self:=λ_ _ _ _ _ st h=>Uf st h
def J'(X:Cx)(x:ε)(T iter:dr)(W:TI):Prop:=∀(p:List (ε×gm)) (s:θ) (a:St) (H:Hp) (R:It->Hp->Prop),ap X p a H s->W a H R->
  ξ (υ X.prog X.w) X.A (eval iter X.env) (λv c=>ξ (υ X.prog X.w) X.A (pyIter v) (λi S=>∃(I:ε) (f:List ε) (t:Nat->ef->Prop) (J:It) (h:Hp),i= .ref I/\ap X p a h S/\sO X.prog X.w X.K x T J f I t/\t 0 S.heap/\(∀b∈f,dS X p h b)/\R J h) X.xe c) X.xe s
def vf{X:Cx}{c:ε}{T l:dr}{t:TE}(d:PE X l t):J' X c T l (tY X.K t):=by
 intro P s f H R I h;erw[aL (d P s f H _ I h) λv S z=>?_];let⟨x,g,i,r,Q⟩:=z;obtain⟨a,rfl,⟨n,j⟩,q⟩:=Q;cases r;let⟨k,u,p,w⟩:=i.list j;erw[O6 p.isList #[S.heap.objs.size,[S.heap.objs.size],_,_,g,Z,i.kept (t':=S.toks) λb o e=>Mt _ e,Zc a _,#[_,MD _ Z,Z,Z],λb m=>?_,q]];obtain rfl:b=S.heap.objs.size:=by simpa using m
 exact i.fpOk (Mx _)$ i.hok.fresh$ Mx _
inductive oF(f:ε)(J:It)(c:Nat)(a:St)(g:TG)(e:TT)(d:TE)(Q:List V->Hp->Prop)(H:Hp):Prop
 |mk(W:Nat->Nat->List V->Hp->Prop)(_:∃m,W 0 m [] H)(_:∀i m ys H,W i m ys H->Bj H f/\((J.stop i H/\Q ys H)∨(J.go i H/\ys.length < τ/\∃N:List V->Hp->Prop,(∀ys' H2,N ys' H2->∃m',m' < m/\W (i+1) m' ys' H2)/\∀x H' (ts:St),ts.length=c->J.yld i H x H'->g x (ts++a) H' λσ2 H2=>(∃ts':St,ts'.length=c/\σ2=ts'++a)/\e σ2 H2 λb H3=>if b=ν then d σ2 H3 λy H4=>N (ys++[y]) H4 else N ys H3)))
section
variable {X:Cx}{pins:List (ε×gm)}{σ:St}{H:Hp}{s:θ}
def Yy{xm:ε}{tg e0 iter:dr}{i0:List dr}{scope:hJ}{p1:Pos}{M:List π}{nT:Nat}{ix:List Nat}{g:TG}{tt:TT}{te:TE}{it:ε}{F:List ε}{tn:Nat->ef->Prop}{J:It}{E:η->θ->Prop}
  {RR:η->ε->Result->θ->Prop} {Qf:List V->Hp->Prop}
  (I:ap X pins σ H s) (hc:X.A.handled=↑xm) (T:sO X.prog X.w X.K xm tg J F it tn) (st:tn 0 s.heap) (hf:∀b∈F,dS X pins H b) (S:aV X.N X.env.scope scope M nT ix)
  (hg:∀cl C F s H,PG (aG X scope M cl C F s H) tg g) (hi:∀cl C F s H,PF (aG X scope M cl C F s H) i0 tt) (he:∀cl C F s H,PE (aG X scope M cl C F s H) e0 te)
  (h:oF xm J nT (ip ix σ) g tt te Qf H)
  (h':∀D C Y m l G,(∀b o u,H b=δ (.frz o u)->l b=δ (.frz o u))->l D=ζ->ap X pins σ (upd l D$ .lst Y) G->dS X pins (upd l D$ .lst Y) C->G.heap.Ns C m->Qf Y l->RR (.ref D) C (.ok .next) G):
  ξ (υ X.prog X.w) X.A (newList []) (λacc t=>ξ (υ X.prog X.w) X.A (newFunctionEnv scope X.env.globals (aH X.env scope.names []) [] X.env.qual ζ .none$ δ X.env) (λc0 s0=>
   fv (υ X.prog X.w) X.A (.compStart (.ListComp e0 [#[tg,iter,i0,0]] scope p1) 0 (.ref it) acc { c0 with scope:=relabel scope X.env }) (RR acc c0.locals) s0) E t) E s:=by
 obtain⟨W,⟨m0,w0⟩,t1⟩:=h;let h3:∀b∈F,b < s.heap.objs.size:=λb a=>by let⟨o,e,_⟩:=T.obj 0 _ st b a;exact My e
 erw[Na$ Uq S.cell (by intro y hy;simp at hy) (λB k f=>?_) S.kind];dsimp only at k f ⊢;generalize h4:s.heap.push { cls:=.type "list",dict:=ζ,data:=.seq ([]:List η).toArray }=H2 at k f ⊢;let hC:H2.objs.size=s.heap.objs.size+1:=by rw[<- h4,Nc]
 let P:s.heap.objs.size≠H2.objs.size:=by rw[hC];exact MG$ NV _
 let h0:s.heap.objs.size<=H2.objs.size:=by rw[hC];exact NM _
 let b0:∀b,b < s.heap.objs.size->b≠H2.objs.size/\b≠s.heap.objs.size:=λb a=>#[by rw[hC];exact MG$ Ov a,MG a];let o1:∀b o,s.heap.get? b=δ o->B.get? b=δ o:=λb o e=>f.extBut b o (b0 b$ My e).1 (Mt _$ h4▸Mt _ e);let h5:B.get? s.heap.objs.size=δ (dW []):=f.extBut _ _ P (Mt _$ h4▸MD _ Z);let a0:H s.heap.objs.size=ζ:=I.hok.fresh (Mx _);let h6:s.heap.objs.size∉iB X.stack:=λa=>(Ψ.mp$ I.stkSub _ a).elim (λe=>absurd I.lt (by rw[<- e];exact Nk _)) (I.nofs$ Mx _);generalize hD:s.heap.objs.size=D at*;generalize b3:H2.objs.size=C at*;let J0:∀tk,ap (aG X scope M (aH X.env scope.names []) C F s H) [] (DZ nT ix σ) H { s with heap:=B,toks:=tk }:=λtk=>X4 I hf (by rw[hD];exact h3) S (by rw[hD];exact h0) o1 k;let c1:∀x c,(aH X.env scope.names []).lookup x=δ c->c≠D:=λx c e z=>by let sub:=zY (qm I S) (acc:=[]) (λx c h=>by simp at h) x c e;let⟨v,o,ho,_⟩:=I.cell x c sub;let:=My ho;rw[z,hD]at this;exact Nk _ this
 let p0:∀{σ0:St} {l:Hp} {G:θ} {U:List η},ap (aG X scope M (aH X.env scope.names []) C F s H) [] σ0 l G->G.heap.get? D=δ (dW U)->l D=ζ->
   ap (aG X scope M (aH X.env scope.names []) C F s H) [(D,dW U)] σ0 l G:=λ{σ0 l G U} I' e n=>I'.pins_of λp hp=>by
  let ep:p=(D,dW U):=by simpa using hp
  subst ep;exact#[e,n,P,h6,λv z=>by cases z]
 let L:∀{l:Hp} {U:List η},(∀b∈F,l b=ζ)->∀b∈F,dS (aG X scope M (aH X.env scope.names []) C F s H) [(D,dW U)] l b:=λ{l U} hn b a=>
  #[hn b a,((J0 0).ok.exf b a).1,(J0 0).ok.exfs b a,.inl a,((J0 0).ok.exf b a).2,λp hp z=>by
   let ep:p=(D,dW U):=by simpa [aG] using hp
   rw[ep]at z;let:=h3 b a;rw[<- z]at this;exact Nk _ this]
 let l0:∀t:θ,(∃tk,t={ s with heap:=B,toks:=tk })->
   fv (υ X.prog X.w) X.A (.compLoop (.ListComp e0 [#[tg,iter,i0,0]] scope p1) 0 (.ref it) (.ref D)$ compEnvC scope (aH X.env scope.names []) C X.env) (RR (.ref D) C) t:=by
  rintro t ⟨tk,rfl⟩;refine Q6 (λn G=>∃i Y U ts l,ts.length=nT/\ap (aG X scope M (aH X.env scope.names []) C F s H) [(D,dW U)] (ts++ip ix σ) l G/\aw Y U/\Y.length<=τ/\tn i G.heap/\(∀b∈F,l b=ζ)/\W i n Y l) ?_ m0
   #[0,[],[],ks nT ζ,H,O4,p0 (J0 tk) h5 a0,.nil,MH _,T.keep _ _ _ st λb a o e=>o1 b o e,λb a=>(hf b a).1,w0]
  rintro n s1 ⟨i,Y,U,ts,Q,a1,I1,rv,hz,s7,f1,w1⟩;let⟨tx,a2⟩:=t1 i n Y Q w1;rcases a2 with ⟨stop,q⟩ | ⟨go,a3,N,hN,step⟩
  .erw[aL (T.done (aG X scope M (aH X.env scope.names []) C F s H) Z Z Z hc i _ s1 _ Q xz I1 tx (L f1) s7 stop) λr s2 j=>?_];let⟨hr,I2⟩:=j;subst hr;let IO:ap X pins σ Q s2:=I.call' (ch:=F) I2.os I2.base I2.hok I2.bare λb a=>#[(hf b a).2.2.2.1,(hf b a).2.1,(hf b a).2.2.2.2.1,(hf b a).2.2.2.2.2];let pD:=I2.pin (D,dW U) (by simp [aG]);let h8:Q D=ζ:=pD.2.1;let fD:dS X pins Q D:=by rw[<- hD];exact I.fpOk (Mx _) (by rw[hD];exact h8)
   let IT:ap X pins σ (upd Q D$ .lst Y) s2:=IO.track fD (by rw[<- hD];exact I.sz) #[hz,U,U.length,rv,pD.1];let⟨mC,a4,_⟩:=I2.loc;let a':Q C=ζ:=I2.free;exact h' D C Y mC Q s2 I2.base.frzs h8 IT (I.fpOk (by rw[hD];exact h0) (by rw[ji$ MU P];exact a')) a4 q
  .erw[aL (T.item (aG X scope M (aH X.env scope.names []) C F s H) Z Z Z hc i _ s1 _ Q xz I1 tx (L f1) s7 go) λr s2 j=>?_];let⟨u,hr,h2⟩:=j;subst hr;erw[aL h2 λ_ s3 j=>?_];let⟨x,H3,I3,r3,y3,O,f2⟩:=j;let b1:=I3.pinned (L f2) (T.obj _ _ O);erw[aL (hg _ _ _ _ _ _ s3 _ H3 x u _ b1 r3$ step x H3 ts a1 y3) λ_ s4 j=>?_];obtain⟨σ1,H4,I4,⟨t0,h1,e4⟩,q4⟩:=j;subst e4;erw[aL (hi _ _ _ _ _ _ s4 _ H4 _ I4 q4) λb s5 j=>?_];let⟨H5,I5,q5⟩:=j;cases b with
   |false=>obtain⟨m',hm,w'⟩:∃m',m' < n/\W (i+1) m' Y H5:=hN _ _ q5;erw[#[m',hm,i+1,Y,U,t0,H5,h1,I5.unpinned,rv,hz,T.keep _ _ _ O λb a o e=>(I5.pin (b,o)$ MF _$ MF _$ j4 a e).1,λb a=>?_,w']];let⟨o,e,d⟩:=T.obj _ _ O b a;exact(I5.pin (b,o)$ MF _$ MF _$ j4 a e).2.1
   |true=>
    erw[aL (he _ _ _ _ _ _ s5 _ H5 _ I5 q5) λv s6 j=>?_];let⟨y,H6,I6,r6,q6⟩:=j;let⟨m',hm,w'⟩:=hN _ _ q6;let pD:=I6.pin (D,dW U) (MF _$ Nb _ MM);let hl:=rv.length;let R:∀b∈F,∀o,s3.heap.get? b=δ o->s6.heap.get? b=δ o:=λb a o e=>(I6.pin (b,o)$ MF _$ MF _$ j4 a e).1;let f0:∀b∈F,H6 b=ζ:=λb a=>by let⟨o,e,d⟩:=T.obj _ _ O b a;exact(I6.pin (b,o)$ MF _$ MF _$ j4 a e).2.1
    erw[append_at (hsz:=by rw[ME,<- hl];exact hz) pD.1 λh7 sb b2=>?_];let I7:ap (aG X scope M (aH X.env scope.names []) C F s H) [] (t0++ip ix σ) H6 { s6 with heap:=h7 }:=
     (I6.pins_of (pins':=[]) λp hp=>absurd hp LM).turned (t':=s6.toks) (it:=D) (λb o a e=>(sb.2 b a).trans e) pD.2.1 P (.inr (by show s.heap.objs.size<=D;rw[hD];exact Mx _)) c1 λp hp=>absurd (show p∈([]:List (ε×gm)) from hp) LM
    refine#[m',hm,i+1,Y++[y],U++[v],t0,H6,h1,p0 I7 (b2.trans$ NK δ$ Q7 U v) pD.2.1,rv.append$ .cons r6 .nil,by rw[Mz,On];exact a3,
     T.keep _ _ _ (T.keep _ _ _ O R) λb a o e=>(sb.2 b λz=>?_).trans e,f0,w']
    let:=h3 b a;rw[z]at this;exact Nk _ this
 exact T6 (l0 _ #[_,Z])$ T.self _ 0 _ _ _ (T.keep _ _ _ st λb a o e=>o1 b o e)$ l0 _ #[_,Z]
def Eo(x:ε)(w:TI)(n:Nat)(i:List Nat)(g:TG)(t:TT)(T:TE):TE:=λσ H Q=>w σ H λJ a=>oF x J n (ip i σ) g t T (λy h=>∀p,h p=ζ->Q (.ref p) (upd h p$ .lst y)) a
def u5{d:ε}{t E iter:dr}{i:List dr}{a:hJ}{p:Pos}{M:List π}{l:Nat}{r:List Nat}{W:TI}{g:TG}{u:TT}{v:TE}(y:X.A.handled=↑d)(z:J' X d t iter W)(S:aV X.N X.env.scope a M l r)
  (B:∀c C f s H,PG (aG X a M c C f s H) t g) (G:∀c C f s H,PF (aG X a M c C f s H) i u) (K:∀c C f s H,PE (aG X a M c C f s H) E v)
  (L:∀x,foldedSetIterable iter X.env x=pure x:=by intro _;rfl):
  PE X (.ListComp E [#[t,iter,i,0]] a p) (Eo d W l r g u v):=by
 intro pins s σ H Q I h;rw[eval_ListComp];erw[Rb (use:=ζ) Z L (qi$ qm I S) S.kind S.loc$ aL (z pins s σ H _ I h) λxv s1 O=>aL O λP s2 U=>?_];let⟨it,f,tn,J,H2,e,V,T,j,Y,R⟩:=U;subst e;erw[Yy (RR:=λk C=>compPost (υ X.prog X.w) X.A X.xe ζ (EP X pins σ Q) k C) V y T j Y S B G K R ?_];intro D C ys m H' s' _ n I' F ns q;exact#[m,ns,λh' sb=>#[.ref D,_,I'.turned (t':=s'.toks) (λb o hb e=>(sb.2 b hb).trans e) F.1 F.2.1 F.2.2.2.1 F.2.2.2.2.1 F.2.2.2.2.2,Z,q D n]]
end
def BZ(K:Ω)(B:ε)(i:Nat)(t:Ij)(b:ε->TS):TS:=λD a H=>t D (λx C d _ h=>mroIn K C (.ref B)=δ ν/\∀T,h T=ζ->b x (sQ i D) (a.set i$ ↑x) (upd (upd h T$ fb T) x$ fc C d T x)) a H
section
variable {X:Cx}{st b₀:da}{suite:List da}{tb:Ij}{cn n:π}{np hp pos:Pos}{B:ε}{i:Nat}
def Ae{Y:ε->TS}(a:X.stack=X.env::X.outer)(J:X.env.frame=δ X.env.locals)(hb:La X st tb)(hg:Gl X cn)(hm:X.mg cn=↑B)(hB:clsIn X.K B≠ζ)(tB:typeIn X.K (.ref B)=δ (.type "type"))(mB:mroIn X.K B (.type "BaseException")=δ ν)
  (m:X.N.Nodup) (o:X.N[i]?=δ n) (l:X.env.scope.names.lookup n=δ .local) (hs:∀x,mz (X.mark (.ref x) λ_ _=>False) (b₀::suite)$ Y x) (L:↥((cn==("__debug__":π))=μ)):
  PS X (.Try [st] [.ExceptHandler (δ$ .Name cn np) (δ n) (b₀::suite) hp] [] [] pos) (BZ X.K B i tb Y):=by
 intro p s σ H D I h;erw[wpAny_Try_except$ SG$ Ny (hb p s σ H D _ I h) (λf S q=>?_) λe S q=>?_]
 .cases f with
  |next=>exact O0 (O0 q)
  |ret v |brk |cont=>exact q
 let⟨x,C,d,T,H',rfl,r,hx,hT,u,mC,q⟩:=q;obtain⟨⟨ox,vs,h1,h2,h3,h4,M,h6,O⟩,_⟩:=r.hok x _ hx;obtain⟨⟨oT,tz,t1,t2,t3⟩,_⟩:=r.hok T _ hT;let w:=(bF.mp h6).1;let P:X.A.frames=δ (X.env::X.outer):=by rw[<- a];exact r.ok.frames
 let R:S.heap.FunFrames X.base (X.env::X.outer):=by rw[<- a];exact r.stack
 erw[Xd (base:=X.base) P R J h1 M h6 u t1 t2 t3 λg2 Nd=>?_];let E:(eO T S.heap).get? x=δ ox:=(MP _ _ u).trans h1;erw[Db (s:={ S with heap:=g2 }) Nd E M w λg3 U=>?_];let⟨t,hn,F,b⟩:=(r.cleared hT t1 t2 t3).noted (C:=C) (d:=d) (t':=S.toks) hx E h2 h4 M w O (by unfold iB;rw[a];exact U);let b:ap X p σ (upd (upd H' t$ fb t) x$ fc C d t x) { S with heap:=g3 }:=b;obtain⟨⟨o1,v1,k1,k2,k3,k4,k5,k6,k0⟩,_⟩:=b.hok x _ jc;let G:upd (upd H' t$ fb t) x (fc C d t x) t=δ (fb t):=by rw[ji F,jc]
 obtain⟨⟨o2,t0,u1,u2,u3⟩,_⟩:=b.hok t _ G;erw[wpAny_handleBy_cons (codeAny_handlers_test ?_) (by intro z;cases z)];erw[zK (b.mark (.ref x) λ_ _=>False) hg hm ?_ L];erw[QC b.kIn k1 k2 hB tB mB mC _ _ _ _ (λ_ _ e=>e) ?_];erw[codeAny_handlers_suite_as ?_];unfold setFlight;erw[Ms$ M3 k1 k5 k6 ?_];rw[MQ (show(ω t != β)=ν from by simp)];erw[Nj u1 u2 (bF.mp u3).1 ?_];let I4:=b.cleared G u1 u2 u3;erw[zD (v:=.ref x) I4 m o (.inl l) Z (λs5 I5=>?_)$ .inr l];erw[Ny (hs x p s5 _ _ (sQ i D) (I5.mark (.ref x) λ_ _=>False)$ q t hn) (λf s6 Q=>?_) λ_ _ z=>z.elim];cases f with
 |next |brk |cont=>let⟨c,V,g,j⟩:=Q;exact Jd (g.unmark I.ok) m o l λW k=>#[_,_,k,j]
 |ret v=>let⟨y,c,V,g,rv,j⟩:=Q;exact Jd (g.unmark I.ok) m o l λW k=>#[y,_,_,k,rv,j]
end
structure EJ(P:ψ)(w:bU)(K:Ω)(mg:π->Option η)(base:ef)(k:Nat)(f:ε)(fd:Φ)(ps:List π)(sp:ε->Sp):Prop where
 len:∀xm vs H Q E,sp xm vs H Q E->vs.length=ps.length
 run:∀(xm:ε) (A:cJ) (outer:List tf) (s:θ) (H:Hp) (args:Args) (us:List η) (vs:List V) (Q:VK) (E:XK),gG k A->A.handled=↑xm->lJ P w K mg base A outer s H->BindsTo s fd args (ps.zip us)->aw vs us->sp xm vs H Q E->
  fv (υ P w) A (.call (.ref f) args) (CR aA outer P w H s Q E) s
def CU{P:ψ}{w:bU}{K:Ω}{M:π->Option η}{B:ef}{k:Nat}{f:ε}{name c:π}{p:Arguments}{g:List da}{a:hJ}{dV kV D pm C ct oc:η}{an od:Option ε}
  {R:Array (Option η)} {N L:List π} {T:ε->Sp} (lk:K.lookup f=δ #[oc,od,.func$ rz name c p g a dV kV D pm an C ct,R]) (U:codeIn K C c=ν) (S:ak N L a)
  (len:∀X h H Q E,T X h H Q E->h.length=L.length)
  (l:∀(X:ε) (A:cJ) (O:List tf) (s:θ) (H:Hp) (h:List V) (Q:VK) (E:XK),gG k (A.deeper$ envOfC c a s.heap.objs.size f C)->A.handled=↑X->T X h H Q E->
   ∃t,mz (EL P w K M B N c a f C A O s H E) g t/\t { nx:=λ_ j=>Q .non j,rt:=Q } (dQ N h) H):
  EJ P w K M B (k+1) f (rz name c p g a dV kV D pm an C ct) L T:=by
 erw[#[len,λX A O s H a0 us h Q E hr hh d hb r F=>?_]];let hl:=len _ _ _ _ _ F;let KX:K.In s.heap:=d.mod.kin.keeps λb o e=>(d.bs b o e).1;let W:s.heap.NoLimit:=d.mod.nolimit.keeps λb o e=>(d.bs b o e).1;let m:∀y∈L.zip us,a.names.lookup y.1=δ .local∨(a.names.lookup y.1=δ .cell/\((cellsFrom (s.heap.objs.size+1) a.names []).lookup y.1).isSome=ν):=λ#[n,v] hy=>by
  rcases S.par n (Pd hy).1 with q |q
  .exact .inl q
  .exact .inr #[q,PM _ _ _$ .inl q]
 erw[Uh (by let:=hr.dp;omega) (KX _ _ lk) Z S.co S.gen Z (Tu KX U)$ hb _ _ _ _ ?_];erw[Tq S.kind m λe1 he s1 x=>?_];subst he;erw[#[W.keeps x.toInCall.keep,codeAny_func ?_]];let⟨t,ht,hq⟩:=l X A O s H h Q E (hr.deeper _) hh F;let Y:lJ P w K M B { A with handled:=ζ } O s H:=#[d.frames,d.mod,d.bs,d.bsz,d.funs,d.frf,d.hok,d.bare];let I:ap (EL P w K M B N c a f C A O s H E) [] (dQ N h) H s1:=FM (Q4 (A:={ A with handled:=ζ }) (E:=E) S Z Y hl r x) (To d.frames);erw[Ny (ht [] s1 (dQ N h) H _ I hq) (λfl s' z=>?_) λe s' z=>z];let G:∀{i:St} {j:Hp} {v:V} {u:η},ap (EL P w K M B N c a f C A O s H E) [] i j s'->aC v u->Q v j->CE O P w H s Q u s':=
  λ{i j v u} J rv q=>#[v,j,J.os,J.bare,J.base,J.hok,rv,q]
 cases fl with
 |ret u=>let⟨v,i,j,J,rv,q⟩:=z;exact G J rv q
 |next=>let⟨i,j,J,q⟩:=z;exact G (v:=V.non) (u:=β) J Z q
 |brk |cont=>let⟨_,_,_,q⟩:=z;exact False.elim q
def aM.okH{P:ψ}{w:bU}{K:Ω}{m:π->Option η}{b:ef}{x a:π}{st:da}{f:ε}{j:Φ}{N p:List π}{k:Nat}{e:ε->Sp}(F:aM K x a st f j)(S:ak N p (ae st))(len:∀X v H Q E,e X v H Q E->v.length=p.length)
  (d:∀(c:η) (X:ε) (A:cJ) (o:List tf) (s:θ) (H:Hp) (v:List V) (Q:VK) (E:XK),gG k (A.deeper$ envOfC a (ae st) s.heap.objs.size f c)->A.handled=↑X->e X v H Q E->
   ∃t,mz (EL P w K m b N a (ae st) f c A o s H E).nox (a8 st) t/\t { nx:=λ_ l=>Q .non l,rt:=Q } (dQ N v) H):EJ P w K m b (k+1) f j p e:=by
 let⟨u,y,kV,D,z,B,c,C,O,rfl,lk,g⟩:=F.ex;erw[CU lk g S len λX A o s H v Q E n r i=>?_];let⟨t,h,q⟩:=d c X A o s H v Q E n r i;exact#[t,h.nox,q]
section
variable {X:Cx}{k:Nat}{f:ε}{fd:Φ}{ps:List π}{sp:ε->Sp}{xm:ε}{dvs:List V}{ds:List η}{x:π}{p pos:Pos}{e:dr}{es:List dr}{t:TA}
def uZ(F:EJ X.prog X.w X.K X.mg X.base k f fd ps sp)(d:gG k X.A)(g:X.A.handled=↑xm)(j:Gl X x)(l:X.mg x=↑f)(m:fx X.K (.ref f)=ν)(n:au X.K fd ps ds)(o:aw dvs ds)
  (y:PA X (e::es) t) (b:↥((x==("__debug__":π))=μ)) (z:↥(Θ (e::es) X.env=(μ,eval e X.env)::Θ es X.env)) (c:↥((eT pos$ Θ es X.env).any (·.1)=μ)):
  PE X (.Call (.Name x p) (e::es) [] pos) (dR (sp xm) dvs E0 t):=by
 intro P s B H Q I h;erw[No$ zK I j l ?_ b];erw[PL (h₀:=X.base) I.ok.mod.kin m (aL (y pos P s B H _ I h) λU S #[v,C,i,r,q]=>#[i.kIn,?_]) z c];let R:aw (v++dvs) (U++ds):=r.append o;let D:(U++ds).length=ps.length:=by rw[<- R.length];exact F.len _ _ _ _ _ q
 erw[O1$ Oa (F.run xm X.A X.stack S C #[U,[]] (U++ds) (v++dvs) Q E0 d g i.env0 (n S U i.kIn D) R q) λr G a=>?_];cases r with
 |error e=>exact a.elim
 |ok E=>
  cases E with
  |ret u=>exact i.after a
  |next |brk |cont=>exact False.elim a
end
def ve{X:Cx}{K:Ω}{p:Pos}{xm:ε}{e:List dr}{k:Nat}{t:sH}{n:Nat}(E:X.K=K)(a:X.A.handled=↑xm)(h:Be X e t)
  (b:(assignEach e X.env).length=n) (H:(assignEach e X.env).findIdx? (·.1)=ζ):PG X (.Tuple e k p) (oI K xm n t):=by
 subst E;exact y' a h b H
def Zd{K:Ω}{xm a:ε}{xs:List V}{t:TT}{T:TE}{Q:List V->Hp->Prop}{c:St}{H:Hp}(D:xs.length<=τ)(Pv:Nat->List V->Hp->Prop)(n:Pv 0 [] H)
  (o:∀i Y h,Pv i Y h->aF K h a xs/\Y.length<=i/\Bj h xm) (r:∀i x Y h,xs[i]?=δ x->Pv i Y h->∃p u v,x= .ref p/\h p=δ (.tup [u,v])/\t (δ u::δ v::c) h λb d=>if b=ν then T (δ u::δ v::c) d λy s=>Pv (i+1) (Y++[y]) s else Pv (i+1) Y d) (z:∀Y h,Pv xs.length Y h->Q Y h):
  oF xm (xp K a) 2 c (oI K xm 2$ dB (bn 0)$ dB (bn 1) tS) t T Q H:=by
 erw[#[λi m Y h=>m=xs.length - i/\i<=xs.length/\Pv i Y h,#[xs.length,LM,MH _,n],?_]];intro i m Y h g;let⟨rfl,E,p⟩:=g;let⟨j,F,l⟩:=o i Y h p;erw[#[l,?_]];by_cases f:i < xs.length
 .erw[.inr #[#[xs,xs[i],j,Mw f],LN,Pv$ i+1,λA d P=>#[xs.length - (i+1),LN,Z,f,P],λv d B k y=>?_]];let⟨e,y⟩:=y;subst e;let⟨q,u,w,rfl,C,st⟩:=r i v Y d (y xs j) p
  match B,k with
  | [G,I],_=>exact#[l,q,_,Z,aB.of C,Z,_,_,Z,_,_,Z,Z,#[[δ u,δ w],Z,Z],st]
 .let e:i=xs.length:=by omega
  subst e;exact .inl #[#[xs,j,Mx _],z Y h p]
def uW{X:Cx}(B:X.A.units+10 < cLine):gg X (compareOp .Eq) (λx y H Q=>∃(a b:ε) (u v:π),x= .ref a/\y= .ref b/\H a=δ (.lst [.str u])/\H b=δ (.lst [.str v])/\Q (.bl$ u==v) H):=by
 intro P s C H x y v u Q I d f h;let⟨a,b,p,r,rfl,rfl,g,i,q⟩:=h;cases d;cases f;let⟨D,R,k,_⟩:=I.list (aF.of (K:=X.K) g);let⟨E,c,l,_⟩:=I.list (aF.of (K:=X.K) i);cases R with
 |cons m R=>
  cases R;cases c with
  |cons n c=>
   cases c;let⟨t,rfl⟩:=m;let⟨T,rfl⟩:=n;erw[UC (e:=λ_=>p==r) k.isList l.isList Z LN (λj o z=>?_) X.prog X.w _ _ ?_]
   .match j,o,z with
    |0,_,_=>exact UD (A:=X.A.in1) (s:=s) p t r T
   .exact#[.bl _,H,I,by simp [aC],q]
end _L
namespace _L
open PySem PySem.Spec PyProof.Rows
def ba.m(r:ba k A)(h:j<=k:=by omega):ba j A:=r.mono h
def bQ{N P:List π}{s:hJ}(a:↥(s.kind=.function))(b:↥(s.isCoroutine=μ))(c:↥(s.isGenerator=μ))(d:autoParam N.Nodup LL._auto_1)(e:↥(N.take P.length=P))(f:autoParam (∀x∈P,s.names.lookup x=δ .local ∨ s.names.lookup x=δ .cell) LL._auto_1)(g:autoParam (∀y∈s.names,y.2≠.free) LL._auto_1):ak N P s:=#[a,b,c,d,e,f,g]
def nS{N:List π}{s t:hJ}{M:List π}{i:List Nat}(a:autoParam (∀y∈t.names,y.2≠.cell) LL._auto_1)(b:↥(t.kind=.function))(c:autoParam (∀y∈t.names,y.2=.local->t.names.lookup y.1=δ .local) LL._auto_1)(d:autoParam (∀y∈t.names,y.2=.free->s.names.lookup y.1=δ .cell) LL._auto_1)(e:autoParam (M.drop n=i.map (λi=>N.getD i Str.empty)) LL._auto_1)(f:↥(M.length=n+i.length))(g:autoParam (∀j∈i,t.names.lookup (N.getD j Str.empty)=δ .free) LL._auto_1):aV N s t M n i:=#[a,b,c,d,e,f,g]
end _L
local macro_rules|`(tactic|left)=>`(tactic|try refine let s:=_;(?_:(_:_L.TS) _ s _))
local macro_rules|`(tactic|sleep $n)=>do{let f (i:Nat):=Lean.mkIdent (.num `t i);let mut t←`((?_:_L.cy _ $(f 1) _ _ _));let m:=n.getNat;for i in[1:m+1]do{t←if i==m then `(let $(f i):ident:=_;$t) else `(let $(f i):ident:=_L.cy _ $(f (i+1));$t)};`(tactic|refine $t)}
local macro_rules|`(tactic|symm)=>do{let g:=Lean.mkIdent `ℊ;`(tactic|first|with_reducible refine (?_:$g)|refine let $g:ident:Prop:=_;(?_:$g)|skip)}
local macro_rules|`(tactic|right)=>do{let g:=Lean.mkIdent `ℊ;`(tactic|try unfold $g)}
local macro_rules|`(tactic|obtain $p:rcasesPat:=$t)=>`(tactic|(refine _L.aT λG k=>?_;rcases $t:term with $p:rcasesPat<;>(refine k ?_;clear k)))
local macro_rules|`(⇑$n)=>do{let i:=Lean.mkIdent;`(_L.ai $(i `P) $(i `w) $(i `K) $(i `mg) $(i `base) _L.aA $n)}
namespace _K
open PySem PySem.Spec PyProof.Rows _L
abbrev z0z:List π:=["_law_box_here","_law_wide"]
abbrev z1z:List π:=["term"]
abbrev z2z:List π:=["_law_box_here"]
abbrev z3z:List π:=["statement","behind"]
abbrev z4z:List π:=["_law_term_here","_law_held"]
abbrev z5z:List π:=["statement"]
abbrev z6z:List π:=["_law_box_here","_law_names_here","_law_heads","_law_spare","_law_deep"]
abbrev z7z:List π:=["self","statement","behind"]
abbrev z8z:List π:=["term","held"]
abbrev z9z:List π:=["_law_program","_law_one","_law_held","_law_state","_law_deep"]
abbrev z10z:List π:=["_law_box_here","_law_names_here","_law_deep"]
abbrev z11z:List π:=["self","body","behind"]
abbrev z12z:List π:=["part","n","held"]
abbrev z13z:List π:=["self","part","args","deep"]
abbrev z14z:List π:=["_law_program","_law_body_here","_law_held","_law_state","_law_deep"]
abbrev z15z:List π:=["_law_state","_law_entry"]
abbrev z16z:List π:=["self","name"]
abbrev z17z:List π:=["a","b","c","d"]
abbrev z18z:List π:=["body","behind"]
abbrev z19z:List π:=["_law_box_here","_law_a","_law_b"]
abbrev z20z:List π:=["_law_program","_law_f","_law_args","_law_cells_here","_law_most"]
abbrev z21z:List π:=["name","params","body"]
abbrev z22z:List π:=["_law_box_here","_law_f","_law_inner_here","_law_w"]
abbrev z23z:List π:=["self","deed","deep"]
abbrev z24z:List π:=["_law_program","_law_f","_law_args","_law_state","_law_deep"]
abbrev z25z:List π:=["_law_box_here","_law_total"]
abbrev z26z:List π:=["self","statement","place","behind"]
abbrev z27z:List π:=["sign","left","right"]
abbrev z28z:List π:=["self","cells","most"]
abbrev z29z:List π:=["self","parts","cells","most"]
abbrev z30z:List π:=["num","var","op","go","ask","back","chain","sets","iff","ends","calls","reads","gives"]
abbrev z31z:List π:=["_law_box_here","_law_names_here"]
abbrev z32z:List π:=["parts","f","args","cells","most"]
abbrev z33z:List π:=["_law_box_here","_law_total","_law_letters","_law_wide","_law_spot_here","_law_signs","_law_first","_law_form","_law_found","_law_k","_law_one","_law_word_here","_law_some","_law_odd"]
abbrev z34z:List π:=["_law_k","_law_box_here","_law_letters"]
abbrev z35z:List π:=["_law_j","_law_box_here","_law_letters"]
abbrev z36z:List π:=["_law_one","_law_box_here","_law_names_here"]
abbrev z37z:List π:=["_law_box_here","_law_total","_law_room"]
abbrev z38z:List π:=["_law_box_here","_law_f","_law_g","_law_w"]
abbrev z39z:List π:=["_law_parts","_law_f","_law_args","_law_cells_here","_law_most"]
abbrev z40z:List π:=["_law_script","_law_box_here","_law_program","_law_f","_law_args","_law_cells_here","_law_parts","_law_word_here","_law_answer","_law_wrote","_law_turns","_law_log","_law_most","_law_due_here","_law_spoilt","_law_spare","_law_heads","_law_other","_law_some"]
abbrev z41z:List π:=["_law_box_here","_law_names_here","_law_heads","_law_spare","_law_deep","_law_kind","_law_x","_law_f","_law_params","_law_body_here"]
abbrev z42z:List π:=["_law_box_here","_law_f","_law_inner_here","_law_w","_law_n","_law_i","_law_s","_law_x","_law_y","_law_body_here","_law_spot_here","_law_start","_law_loop"]
abbrev z43z:List π:=["_law_box_here","_law_f","_law_inner_here","_law_w","_law_n","_law_i","_law_s","_law_x","_law_y","_law_spot_here","_law_body_here","_law_kept","_law_some","_law_start","_law_loop"]
abbrev z44z:List π:=["_law_box_here","_law_program","_law_total","_law_f","_law_params","_law_body_here"]
abbrev z45z:List π:=["_law_program","_law_one","_law_held","_law_state","_law_deep","_law_entry","_law_cell","_law_args"]
abbrev z46z:List π:=["_law_program","_law_f","_law_args","_law_state","_law_deep","_law_name","_law_params","_law_body_here","_law_found"]
variable {P:ψ}{w:bU}{K:Ω}{mg:π->Option η}{base:ef}
def top(i:Nat):da:=PySem.Challenge.pw_againbook_k24_runs_refused.main.body.getD i (.Pass #[0,0,0,0])
abbrev DX:da:=top 51
abbrev vO:da:=top 52
abbrev iP:da:=top 54
def ay(p:ε)(H h:Hp):Prop:=∀b o,b≠p->H b=δ o->h b=δ o
def ay.refl:ay p H H:=λ_ _ _ h=>h
def ay.trans(a:ay p H d)(b:ay p d e):ay p H e:=λc o n h=>b c o n (a c o n h)
def ay.of_eq{H a:Hp}(h:∀b,b≠p->a b=H b):ay p H a:=λb o n e=>by rw[h b n];exact e
def ay.upd_new{o:HO}(a:ay p H h)(n:h r=ζ):ay p H (upd h r o):=λb u N e=>by let q:=a b u N e;rw[ji$ jk q n];exact q
def ay.upd_own(a:ay p H h)(n:H r=ζ):ay p H (upd h r o):=λb u N e=>by rw[ji$ jk e n];exact a b u N e
structure ar(H:Hp)(p:ε):Prop where
 ob:∃a b:Int,0<=a/\1<=b/\b<=2147483646/\H p=δ (.lst [.int a,.int b])
def ar.eq{c:Hp}(B:ar H p)(e:c p=H p):ar c p:=by let⟨a,b,d,f,g,h⟩:=B.ob;exact#[a,b,d,f,g,by rw[e];exact h]
def ar.upd_new{o:HO}(B:ar H p)(n:H r=ζ):ar (upd H r o) p:=by let⟨a,b,c,d,e,h⟩:=B.ob;exact B.eq (by rw[ji$ jk h n])
def ar.ne(B:ar H p)(n:H r=ζ):r≠p:=by let⟨a,b,c,d,e,h⟩:=B.ob;exact MU$ jk h n
inductive aY(c:List V)(H:Hp)(Q:VK)(a:XK):Prop
 |mk(p:ε)(w:Int)(_:c=[.ref p,.int w])(_:ar H p)(_:0 < w)(_:w<=1000000000000000000)(_:∀(d:Int) (H':Hp),0<=d->d < w->ar H' p->(∀b,b≠p->H' b=H b)->Q (.int d) H')
inductive pi(K:Ω)(e:List V)(H:Hp)(Q:VK)(c:XK):Prop
 |mk(a:ε)(d:List Int)(k:Int)(_:e=[.ref a,.int k])(_:aF K H a (d.map tT))(_:0<=k)(_:k < 1000)(_:∀(r:ε) (H':Hp),H r=ζ->ar H' r->(∀b,b≠r->H' b=H b)->Q (.ref r) H')
def lH:(10:Int) ^ (18:Int).toNat=1000000000000000000:=by decide
def ue{ns:List Int}{k:Int}(H:0<=k)(a:k < (ns.length:Int)):∃v:Int,dM (ns.map tT) k=δ (.int v):=by
 let h:k.toNat < ns.length:=by omega
 let e:k=((k.toNat:Nat):Int):=by omega
 let q:dM (ns.map tT) ((k.toNat:Nat):Int)=δ (.int ns[k.toNat]):=jP (by rw[MK,Mw h];rfl);rw[<- e]at q;exact#[_,q]
structure Cl(P:ψ)(w:bU)(K:Ω)(mg:π->Option η)(base:ef)(L:Nat)(f:ε)(fd:Φ)(ps:List π)(sp:Sp)(py:π):Prop where
 g:⇑L f fd ps sp
 b:au K fd ps []
 k:fx K (.ref f)=ν
 m:mg py=↑f
def Cl.e{X:Cx}{e:dr}(c:Cl X.prog X.w X.K X.mg X.base L f o q s a)(i:ba L X.A)(j:PA X (e::E) t)(l:↥(Gl X a))(h:↥((a==("__debug__":π))=μ))(n:↥(Θ (e::E) X.env=(μ,eval e X.env)::Θ E X.env))(H:↥((eT d$ Θ E X.env).any (·.1)=μ)):PE X (.Call (.Name a p) (e::E) [] d) (dR s [] E0 t):=kf c.g i l c.m c.k c.b .nil bu j h n H
def jy{X:Cx}(h:PE X a t):PE X (.Subscript a (.Constant (.int i) j p) b) (eh (fj X.K) t$ tC$ .int i):=jr j6 h jf λ_ _=>Z
def jz{X:Cx}{p:Pos}(i:Nat)(h:X.N.Nodup)(H:PE X e t)(b:↥(X.N[i]?=δ x))(c:xw X.env.scope x:=by exact Δ Z)(d:↥(swapsWith e (δ$ .Name x a) p.line X.env=pure μ))(f:autoParam (X.fn x=ν∨X.env.scope.names.lookup x=δ .local) Wb._auto_1):PS X (.Assign [.Name x a] e p) (dy t$ bn i):=ze h b c H d f
def jq{K:Ω}{H:Hp}{Q:VK}(h:H p=δ (.tup x))(a:dM x n=δ v)(q:Q v H)(e:↥(b[i]?=δ (↑p))):eh (fj K) (a5 i) (tC$ .int n) b H Q:=#[_,e,p,x,n,v,Z,Z,aB.of h,a,q]
def jZ{X:Cx}(h:PE X a t):PT X (.Compare a [.Eq] [.Constant (.str x) j p] b) (lG$ eh Gx t$ tC$ .str x):=jB zJ h jj Z
def zo{X:Cx}(h:PE X a t):PT X (.Compare a [.Eq] [.Constant (.int x) j p] b) (lG$ eh Gx t$ tC$ .int x):=jB zJ h jf Z
def iS:ak ["_law_box_here","_law_wide","_law_digit","_law_one","_law_mixed"] z0z (ae vO):=bQ
def yR(F:xa K "_law_take" vO f x):⇑1 f x z0z aY:=by
 erw[F.ok iS λC A O s H V Q E z h=>?_]
 let⟨p,W,rfl,B,d,g,q⟩:=h;let⟨a,b,l,i,j,e⟩:=B.ob;refine#[_,jd (jx (jB J9 (jr jp (pv 0) jf (λ_ _=>Z)) jf$ ax _)
   (jd (jz 2 iS.nd$ jw zk (jr jp (pv 0) jf (λ_ _=>Z))$ pv 1)
   (jd (zd (jw JI (jr jp (pv 0) jf (λ_ _=>Z))$ pv 1)$ Jm (pv 0) jf zU)
   (jg$ jm$ pv 2))) jo)
  (jd (jz 3 iS.nd$ jw zk (jw zH (jr jp (pv 0) jf (λ_ _=>Z)) jf) jf)
  (jd (zd (jw jS (jw zk (jw jS (jw zH (pv 3) jf) jf) jf) jf)$ Jm (pv 0) jf zU)
  (jd (jz 4 iS.nd$ jw JI (jw jS (jw zH (pv 3) jf)$ jr jp (pv 0) jf (λ_ _=>Z)) jf)
  (jd (jx (jB J9 (pv 1) (jw JU jf jf)$ ax _) (jg$ jz 4 iS.nd$ jw zH (pv 4)$ pv 4) jo)
  (jg$ jm$ jw zk (pv 4)$ pv 1))))),?_]
 erw[#[_,Z,p,_,_,_,Z,Z,aF.of e,Z,_,_,Z,Z,_,Z,?_]];erw[b8 (λc=>?_) (λc=>?_)]
 .let D:(0:Int) < a:=Nu c;erw[#[_,Z,p,_,_,_,Z,Z,aF.of e,Z,_,Z,_,_,Z,Z,d,?_]];erw[#[_,Z,p,_,_,_,Z,Z,aF.of e,Z,_,Z,_,_,Z,Z,#[d,g],_,Z,p,_,_,0,Z,Z,e,Z,_,Z,?_]];erw[q (a % W) _ (NB _ LN) (Nl _ d) #[a / W,b,UH l LN,i,j,jc] λb n=>ji n]
 .let I:0<=b*69621 % 2147483647:=NB _ LO;let J:b*69621 % 2147483647 < 2147483647:=Nl _ LO;erw[#[_,Z,p,_,_,_,Z,Z,aF.of e,Z,_,_,Z,Z,.inr #[LO,LO],_,_,Z,Z,(by show(0:Int) < 2147483647;decide),?_]];erw[#[_,Z,_,_,Z,Z,.inr #[LO,LO],_,_,Z,Z,_,_,Z,Z,(by show(0:Int) < 2147483646;decide),_,_,Z,Z,_,Z,p,_,_,1,Z,Z,e,Z,?_]];generalize m:b*69621 % 2147483647=o at*;let N:0<=(o*48271+30103) % 2147483646:=NB _ LO;let L:(o*48271+30103) % 2147483646 < 2147483646:=Nl _ LO;generalize r:(o*48271+30103) % 2147483646=t at*;erw[#[_,Z,_,_,Z,Z,.inr #[LO,LO],_,Z,p,_,_,_,Z,Z,aF.of jc,Z,_,_,Z,Z,_,_,Z,Z,#[LO,LO],?_]];let X:0<=(o*2147483647+(t+1)) / 8191:=by omega
  let R:(o*2147483647+(t+1)) / 8191 < 18446744073709551616:=by omega
  generalize u:(o*2147483647+(t+1)) / 8191=M at*;erw[#[_,Z,_,_,Z,Z,#[LO,LO,LO],_,_,Z,Z,_,Z,?_]];let v:ar (upd H p$ .lst [.int a,.int$ t+1]) p:=#[a,t+1,l,LN,LN,jc];erw[b8 (λy=>?_) (λy=>?_)]
  .erw[#[_,Z,_,Z,_,_,Z,Z,.inl #[LN,LN],?_]];erw[#[_,Z,_,Z,_,_,Z,Z,d,?_]];exact q _ _ (NB _ LN) (Nl _ d) v λb n=>ji n
  .erw[#[_,Z,_,Z,_,_,Z,Z,d,?_]];exact q _ _ (NB _ LN) (Nl _ d) v λb n=>ji n
def mP:ak ["_law_script","_law_k","_law_cell","_law_seed"] ["_law_script","_law_k"] (ae DX):=bQ
def Ds(F:xa K "_law_box" DX f I)(m:mg "len"=ζ)(M:mg "int"=ζ):⇑1 f I ["_law_script","_law_k"] (pi K):=by
 erw[F.ok mP λJ A o s H W Q E X h=>?_]
 let⟨a,ns,k,rfl,d,i,L,q⟩:=h;refine#[_,jd (jz 2 mP.nd$ jw jS (jw zH jf$ pv 1) jf)
  (jd (jx (jB Kz (pv 1) (jF jL Z m NQ$ ja (pv 0) jb)$ ax _)
   (jg$ jz 2 mP.nd$ jr jp (pv 0) (pv 1) (λ_ _=>Z))
   (jg (jx (jB J9 (jF jL Z m NQ$ ja (pv 0) jb) jf$ ax _)
    (jg$ jz 2 mP.nd$ jw jS (pv 2)$ jw zH (jw zk (jr jp (pv 0) (jw zk (pv 1)$ jF jL Z m NQ$ ja (pv 0) jb) (λ_ _=>Z)) jf) jf) jo)))
  (jd (jz 3 mP.nd$ jw jS (jw zk (jw jS (jw zH (jw zk (pv 2) jf) jf)$ jw zH jf$ pv 1) jf) jf)
  (jg$ jm$ jD$ ja (jw zH (pv 2)$ jC j8 Z M Pl$ ja (kU uX (pv 2) (jw JU jf jf)$ ax _) jb)$ ja (pv 3) jb))),?_]
 let e:(ns.map tT).length=ns.length:=Mv _;let T:∀c:Int,∃v:V,∃x:Int,v= .int x/\1<=x/\x<=2147483646/\v= .int ((c % 2147483629*48271+40692*k) % 2147483646+1):=λc=>by let N:0<=(c % 2147483629*48271+40692*k) % 2147483646:=NB _ LO;let O:(c % 2147483629*48271+40692*k) % 2147483646 < 2147483646:=Nl _ LO;exact#[_,_,Z,LN,LN,Z]
 let j:∀(c:Int) (r:ε),H r=ζ->Q (.ref r) (upd H r$ .lst [.int$ c*(if decide ((10:Int) ^ (18:Int).toNat<=c)=ν then 1 else 0),.int ((c % 2147483629*48271+40692*k) % 2147483646+1)]):=λc r R=>by
  erw[q r _ R #[_,_,?_,?_,?_,jc] λb n=>ji n]
  .rw[lH];by_cases h:(1000000000000000000:Int)<=c
   .rw[Ng h,MQ Z];omega
   .rw[MY h,MS MJ];omega
  .let N:0<=(c % 2147483629*48271+40692*k) % 2147483646:=NB _ LO;omega
  .let O:(c % 2147483629*48271+40692*k) % 2147483646 < 2147483646:=Nl _ LO;omega
 let B:∀c:Int,xG c (if decide ((10:Int) ^ (18:Int).toNat<=c)=ν then 1 else 0):=λc=>.inr (by split<;>decide);erw[ah λF0 u=>#[_,Z,_,_,Z,Z,.inl #[LO,LO],_,_,Z,Z,u _ _ ?_]];clear u;erw[ah λS y=>?_];let l:∀c:Int,S [↑a,δ$ .int k,δ$ .int c,ζ] H:=λc=>y _ _ (ah λF2 U=>#[_,Z,_,_,Z,Z,(by show(0:Int) < 2147483629;decide),_,_,Z,Z,.inr #[LO,LO],_,Z,_,_,Z,Z,.inl #[LO,LO],_,_,Z,Z,_,_,Z,Z,(by show(0:Int) < 2147483646;decide),_,_,Z,Z,U _ _ (#[_,Z,_,Z,_,_,Z,Z,#[LO,LO,LO],_,_,Z,Z,.inr #[_,Z,_,_,Z,Z,B c,_,Z,bg,j c]])]);clear y;erw[oK λG g=>#[_,Z,_,Z,a,_,Z,.inl d,_,_,Z,Z,_,Z,g _ _ ?_]];clear g;erw[b8 (λc=>?_) (λc=>?_)]
 .let C:k < (((ns.map tT).length:Nat):Int):=Nu c;rw[e]at C;let⟨v,p⟩:=ue (ns:=ns) i C;exact#[_,Z,_,Z,a,_,_,_,Z,Z,d,p,l v]
 .let C:¬k < (((ns.map tT).length:Nat):Int):=Rm (kc.mpr c);rw[e]at C;erw[oK λG g=>#[_,Z,a,_,Z,.inl d,_,_,Z,Z,_,Z,g _ _ ?_]];clear g;refine b8 (λz=>?_) (λz=>?_)
  .let D:(0:Int) < (((ns.map tT).length:Nat):Int):=Nu z;let⟨v,p⟩:=ue (ns:=ns) (k:=k % (((ns.map tT).length:Nat):Int)) (NB _ LN) (by let:=Nl k D;rw[e]at this;rw[e];exact this);exact#[_,Z,_,Z,_,Z,_,Z,a,_,Z,.inl d,_,_,Z,Z,D,a,_,_,_,Z,Z,d,p,_,_,Z,Z,(by show(0:Int) < 2147483629;decide),_,_,Z,Z,.inr #[LO,LO],_,_,Z,Z,l _]
  .exact l _
def oq(i j:π):(i++j).length=i.length+j.length:=by show(i.cps++j.cps).size=i.cps.size+j.cps.size;exact Pr
def zV:1000000<=τ:=by rw[O3];decide
def am{H:Hp}{o:HO}(h:H b=δ u)(n:H r=ζ):upd H r o b=δ u:=by rw[ji$ jk h n];exact h
def wC{z:π}{k:Int}(H:0<=k)(a:k < (z.length:Int)):∃c:Nat,dM z.cps.toList k=δ c:=by
 let b:z.cps.toList.length=z.length:=M5;let h:k.toNat < z.cps.toList.length:=by omega
 let e:k=((k.toNat:Nat):Int):=by omega
 let q:dM z.cps.toList ((k.toNat:Nat):Int)=δ z.cps.toList[k.toNat]:=jP (Mw h);rw[<- e]at q;exact#[_,q]
def KP{ys:List π}{k:Int}(H:0<=k)(a:k < (ys.length:Int)):∃y∈ys,dM (ys.map ti) k=δ (.str y):=by
 let h:k.toNat < ys.length:=by omega
 let e:k=((k.toNat:Nat):Int):=by omega
 let q:dM (ys.map ti) ((k.toNat:Nat):Int)=δ (.str ys[k.toNat]):=jP (by rw[MK,Mw h];rfl);rw[<- e]at q;exact#[_,N4 h,q]
def bf(s:List π)(lo h:Option Int):List π:=(s.drop$ HT.sIx s.length 0 lo).take (HT.sIx s.length s.length h - HT.sIx s.length 0 lo)
def zW(s:List π)(lo h:Option Int):aX (s.map ti) lo h=(bf s lo h).map ti:=by unfold aX bf;rw[Mv,O9,SX]
def qp{lo:Option Int}(h:y∈bf s lo H):y∈s:=Rs (Nh h)
def qV(s:List π)(lo h:Option Int):(bf s lo h).length<=s.length:=by unfold bf;rw[M1,Og];omega
theorem JB:∀{ys:List π},(∀y∈ys,y.length<=1)->(ys.map (·.length)).sum<=ys.length
 | [],_=>Mx _
 |y::r,h=>by let a:=h y MM;let b:=JB (ys:=r) λz H=>h z (MX _ H);rw[Nw,List.sum_cons,MZ];omega
def JC{z:π}{ys:List π}(H:z.length=0)(h:∀y∈ys,y.length<=1):(Txt.join z ys).length<=ys.length:=by show(Builtin.Str.glued z ys).length<=_;rw[size_glued,H,Nat.mul_zero,Nat.add_zero];exact JB h
def dC:π:="abcdefghijklmnopqrstuvwxyz"
def Kk:dC.length=26:=by decide+kernel
def lN(d:Int)(k:Nat):Nat:=97+((d+5*(0+(k:Int))) % 26).toNat
def yp(H:i < 20)(a:j < 20)(h:lN d i=lN d j):i=j:=by unfold lN at h;omega
def Dc(H:0<=k)(a:k < 26)(h:dM dC.cps.toList k=δ c):c=97+k.toNat:=by
 let q:∀m:Fin 26,dM dC.cps.toList (m.val:Int)=δ (97+m.val):=by decide+kernel
 let e:=q #[k.toNat,LN];let E:((k.toNat:Nat):Int)=k:=by omega
 dsimp only at e;rw[E,h]at e;injection e
def Sh(A S:π)(d:Int)(c:Nat)(w:π):Prop:=if d=2 then ∃R:π,w=R++#[(ι [c])] else w=A++#[(ι [c])]++S∨w=A++#[(ι [c])]++S++"z"∨w="qqqqqqq"++#[(ι [c])]
def jU(a b:π):(a++b).cps.toList=a.cps.toList++b.cps.toList:=by show(a.cps++b.cps).toList=_;exact Array.toList_append
def Yc{R:π}(h:R++(#[(ι [c])]:π)=r++#[(ι [C])]):c=C:=by let e:=NK (oS ∘ Str.cps) h;let e:(R++(#[(ι [c])]:π)).cps.toList=(r++(#[(ι [C])]:π)).cps.toList:=e;rw[jU,jU]at e;let:=List.append_inj_right' e Z;injection this
def yr{S:π}(h:A++(#[(ι [c])]:π)++S=A++#[(ι [C])]++S):c=C:=by let e:=NK (oS ∘ Str.cps) h;let e:(A++(#[(ι [c])]:π)++S).cps.toList=(A++(#[(ι [C])]:π)++S).cps.toList:=e;rw[jU,jU,jU,jU]at e;let:=Td (Py e);injection this
def Hf{A S : π}{d : Int}{c C : Nat}{w : π}(i : A.length + S.length <= 5)(h : Sh A S d c w)(H : Sh A S d C w) : c = C := by
  unfold Sh at h H;let l : ∀ c : Nat, (#[(ι [c])] : π).length = 1 :=λ_ => Z;let L : (Str.ofString "z").length = 1 := by decide +kernel
  let f : (Str.ofString "qqqqqqq").length = 7 := by decide +kernel
  split at h
  · rename_i a
    rw [MQ a] at H;obtain ⟨R, rfl⟩ := h;obtain ⟨r, e⟩ := H;exact Yc e
  · rename_i a
    rw [MS a] at H;rcases h with rfl | rfl | rfl <;> rcases H with e | e | e
    · exact yr e
    all_goals first
      | exact Yc e
      | (have g := NK Str.length e
         simp only [oq, l, L, f] at g;omega)
      | skip
    let E := NK (oS ∘ Str.cps) e;let E : (A ++ (#[(ι [c])] : π) ++ S ++ ("z" : π)).cps.toList = (A ++ (#[(ι [C])] : π) ++ S ++ ("z" : π)).cps.toList := E;rw [jU, jU (A ++ _ ++ S)] at E;let b := Py E;rw [jU, jU, jU, jU] at b;let := Td (Py b);injection this
def Yd{y:List π}:y.Nodup↔∀i j:Nat,i < j->j < y.length->y[i]?≠y[j]?:=by
 unfold List.Nodup;rw[List.pairwise_iff_getElem];erw[#[λh i j H a e=>?_,λh i j b a H e=>h i j H a ?_]]
 .rw[Mw (by omega:i < y.length),Mw a]at e;injection e with e;exact h i j LN a H e
 .rw[Mw b,Mw a,e]
def wm{A S:π}{d D:Int}{Y:List π}(b:A.length+S.length<=5)(g:Y.length<=20)(h:∀j y,Y[j]?=δ y->Sh A S D (lN d j) y):Y.Nodup:=by rw[Yd];intro i j c H e;let a:=h i _ (Mw (by omega:i < Y.length));let f:=h j _ (Mw H);rw[Mw (by omega:i < Y.length),Mw H]at e;injection e with e;rw[e]at a;let:=yp LN LN (Hf b a f);omega
def rj{y:List π}(h:y.Nodup)(b:a∉y):(y.set n a).Nodup:=by
 rw[Yd]at h ⊢;intro i j H c e;rw[Rj]at c;by_cases d:n=i
 .rw[d,Od LN,N7 LN]at e;exact b$ ML e.symm
 .by_cases f:n=j
  .rw[f,Od LN,N7 LN]at e;exact b$ ML e
  .rw[N7 d,N7 f]at e;exact h i j H c e
def eG(y:List π):Prop:=∃c∈(z17z:List π),c∉y
def eG.sub{X y:List π}(h:eG y)(s:∀x∈X,x∈y):eG X:=let #[c,H,a]:=h;#[c,H,λm=>a (s c m)]
theorem ZI:∀{xs ys:List π},xs.Nodup->(∀x∈xs,x∈ys)->xs.length<=ys.length
 | [],_,_,_=>MH _
 |x::xs,ys,n,h=>by let H:=h x MM;rw[Ri]at n;let l:=ZI (xs:=xs) (ys:=ys.erase x) n.2 λz a=>(TJ (λ(e:z=x)=>n.1 (by rw[<- e];exact a))).mpr (h z$ MX _ a);rw[SY H]at l;let p:=Ti H;rw[MZ];omega
def eG.few{ys:List π}(h:ys.length<=3):eG ys:=Ph λn=>by let l:=ZI (xs:=z17z) (ys:=ys) LL λc H=>Ph λm=>n #[c,H,m];let l:4<=ys.length:=l;omega
def Eg{A S:π}{d5:Int}{c x:Nat}(h:Sh A S d5 c #[(ι [x])]):x=c:=by
 let a:∀{R T:π},(#[(ι [x])]:π)=R++(#[(ι [c])]:π)++T->x=c:=λ{R T} e=>by
  let e:=NK (λz:π=>z.cps.toList) e;let e:[x]=(R++(#[(ι [c])]:π)++T).cps.toList:=e;rw[jU,jU]at e;let m:c∈[x]:=by rw[e];exact Nb _$ MF _ MM
  exact(ρ.mp m).symm
 let E:∀{R:π},(#[(ι [x])]:π)=R++(#[(ι [c])]:π)->x=c:=λ{R} e=>by
  let e:=NK (λz:π=>z.cps.toList) e;let e:[x]=(R++(#[(ι [c])]:π)).cps.toList:=e;rw[jU]at e;let m:c∈[x]:=by rw[e];exact MF _ MM
  exact(ρ.mp m).symm
 unfold Sh at h;split at h
 .let⟨R,e⟩:=h;exact E e
 .rcases h with e |e |e
  .exact a e
  .let e:=NK (λz:π=>z.cps.toList) e;let e:[x]=(A++(#[(ι [c])]:π)++S++("z":π)).cps.toList:=e;rw[jU,jU,jU]at e;let m:c∈[x]:=by rw[e];exact Nb _$ Nb _$ MF _ MM
   exact(ρ.mp m).symm
  .exact E e
def pX{d:Int}(H:0<=d)(a:d < 26):∃x∈[97,98,99,100],∀j,j < 8->lN d j≠x:=by
 obtain⟨n,rfl⟩:∃n:Nat,d=n:=#[d.toNat,(RC H).symm];let h:∀n:Nat,n < 26->∃x∈[97,98,99,100],∀j,j < 8->lN (n:Int) j≠x:=by decide+kernel
 exact h n LN
def AH{A S:π}{d d5:Int}{Y:List π}(H:0<=d)(a:d < 26)(h:∀j y,Y[j]?=δ y->Sh A S d5 (lN d j) y):eG (Y.take 8):=by
 let⟨x,b,c⟩:=pX H a;erw[#[#[(ι [x])],?_,λm=>?_]]
 .let t:∀x∈[97,98,99,100],(#[(ι [x])]:π)∈(z17z:List π):=by decide+kernel
  exact t x b
 .let⟨j,f,e⟩:=kv.mp m;rw[M1]at f;rw[List.getElem_take]at e;erw[c j LN (Eg (A:=A) (S:=S) (d5:=d5) (x:=x) ?_).symm];exact h j _ (by rw[<- e];exact Mw LN)
def eG.set{y:List π}{n:Nat}{a:π}(h:eG (y.take 8))(b:a∉(z17z:List π)):eG ((y.set n a).take 8):=by
 let⟨c,H,d⟩:=h;erw[#[c,H,λm=>?_]];rw[List.take_set]at m;rcases SJ m with m |m
 .exact d m
 .exact b$ m▸H
def ZJ{y:List π}(h:iK (.str a) (y.map ti)=μ):a∉y:=λm=>by unfold iK at h;rw[Ua]at h;exact h (.str a) (bS.mpr #[a,m,Z]) (by simp [lr])
def xY{ss:List π}{d1 d2:Int}(h:ss.length=(1+d1).toNat)(a:0<=d2)(b:d2 < 1+d1):(bf ss ζ$ δ d2).length+(bf ss (δ$ d2+1) ζ).length<=d1.toNat:=by
 obtain⟨k,rfl⟩:∃k:Nat,d2=k:=#[d2.toNat,(RC a).symm];obtain⟨n,rfl⟩:∃n:Nat,d1=n:=#[d1.toNat,(RC LN).symm];let H:k<=n:=by omega
 let h:ss.length=n+1:=by rw[h];omega
 clear a b;unfold bf;rw[show((k:Int)+1)=((k+1:Nat):Int) from Z,HT.sIx_nat,HT.sIx_nat,M1,M1,Og,h,OG$ NF H,OG$ Nat.le_succ_of_le H];erw[MT (Nat.add_le_add (Ro _ _)$ Ro _ _) ?_];show k - 0+(n+1 - (k+1))<=n;rw[RQ,Nat.add_sub_add_right,TU H];exact Mx _
def IL{S:π}:Sh A S d c ("qqqqqqq"++#[(ι [c])]):=by
 unfold Sh;split
 .exact#[_,Z]
 .exact .inr$ .inr Z
def IM{A S:π}{d:Int}{c:Nat}{w:π}(h:if d=2 then ∃R:π,w=R++#[(ι [c])] else w=A++#[(ι [c])]++S∨w=A++#[(ι [c])]++S++"z"):Sh A S d c w:=by
 unfold Sh;split at h
 .rename_i e;rw[MQ e];exact h
 .rename_i e;rw[MS e];exact h.elim .inl λz=>.inr (.inl z)
def pre(s:List π)(d:Int):π:=Txt.join "" (bf s ζ$ δ d)
def gu(s:List π)(d:Int):π:=Txt.join "" (bf s (δ$ d+1) ζ)
inductive ff(b:List V)(H:Hp)(Q:VK)(a:XK):Prop
 |mk(p:ε)(n:Int)(_:b=[.ref p,.int n])(_:ar H p)(_:1<=n)(_:n<=20)(_:∀(r:ε) (ys:List π) (H':Hp),H r=ζ->H' r=δ (.lst (ys.map ti))->(ys.length:Int)=n->(∀y∈ys,y.length<=20)/\ys.Nodup/\eG (ys.take 8)->ar H' p->ay p H H'->Q (.ref r) H')
def a9:ak z33z z25z (ae iP):=bQ
def QM:hJ:=#[.function,[(".0",.local),("_law_k",.local),("_law_take",.globalImplicit),("_law_box_here",.free),("_law_letters",.free)],μ,μ,[]]
def Ze:(z34z:List π).Nodup:=by decide+kernel
def Zf:aV z33z (ae iP) QM z34z 1 [0,2]:=nS
def QN:hJ:=#[.function,[(".0",.local),("_law_j",.local),("_law_take",.globalImplicit),("_law_box_here",.free),("_law_letters",.free)],μ,μ,[]]
def Zg:(z35z:List π).Nodup:=by decide+kernel
def Zh:aV z33z (ae iP) QN z35z 1 [0,2]:=nS
def JR{p:ε}{Q:List V->Hp->Prop}(o:n<=20)(B:ar f p)
  (q:∀(S:List π) (H:Hp),S.length=n->(∀s∈S,s.length<=1)->ar H p->(∀b,b≠p->H b=f b)->Q (S.map ti) H):
  fq (xJ 0 n) 1 [↑p,δ$ .str dC] (bn 0) ny (eh Ag (a5 2)$ dR aY [] E0$ al (a5 1)$ al (tC$ .int 26) aK) Q f:=by
 refine Yo (λi y H=>∃S:List π,y=S.map ti/\S.length=i/\(∀s∈S,s.length<=1)/\ar H p/\∀b,b≠p->H b=f b)
  #[[],Z,Z,(λ_ h=>nomatch h),B,λ_ _=>Z] (MT o LO) (λi y H #[S,e,l,_]=>by rw[e,Mv,l];exact Mx _) ?_ ?_
 .intro i y H x a;let⟨S,rfl,g,j,m,E⟩:=a;erw[#[_,Z,_,Z,p,26,Z,m,LO,LO,λd A D r t u=>?_]];let⟨c,v⟩:=wC (z:=dC) D (by rw[Kk];exact r);erw[#[_,_,c,Z,Z,LO,v,S++[#[(ι [c])]],by rw[M0];rfl,by rw[Mz,g];rfl,λs hs=>?_,t,λb N=>(u b N).trans (E b N)]];rcases γ.mp hs with hs |hs
  .exact j s hs
  .rw[ρ.mp hs];exact Mx 1
 .intro y H a;let⟨S,rfl,g,j,m,E⟩:=a;exact q S H g j m E
def Rw(p g r:ε)(n d D b e:Int)(i c:Nat)(s y:List π)(H:Hp)(L:Nat)(Z:π->Prop):_L.St->Hp->Prop:=λa h=>∃W:π,(W.length<=L/\Z W)/\
 a=[↑p,δ$ .int n,δ$ .str dC,δ$ .int (1+d),δ$ .int D,↑g,δ$ .int b,δ$ .int e,↑r,δ$ .int (0+(i:Int)),δ$ .str #[(ι [c])],δ$ .str W,ζ,ζ]/\
 h g=δ (.lst$ s.map ti)/\h r=δ (.lst$ y.map ti)/\ar h p/\ay p H h
def Rf(p r:ε)(n:Int)(H:Hp):_L.St->Hp->Prop:=λa h=>a[8]?=δ (↑r)/\∃Y:List π,h r=δ (.lst$ Y.map ti)/\(Y.length:Int)=n/\((∀y∈Y,y.length<=20)/\Y.Nodup/\eG (Y.take 8))/\ar h p/\ay p H h
def qt(Y:List π):(Y.map ti).all cj=ν:=by rw[Um];intro v h;let⟨y,_,rfl⟩:=bS.mp h;rfl
def wg(Y:List π)(j:Nat)(y:π):(Y.map ti).set j (ti y)=(Y.set j y).map ti:=(U1 ..).symm
inductive NI(p g r:ε)(n b c d e:Int)(v:List π)(H:Hp)(i:Nat)(x:_L.St)(a:Hp):Prop
 |mk(s t u:Option V)(w:List π)(f:x=[↑p,δ (.int n),δ (.str dC),δ (.int (1+b)),δ (.int c),↑g,δ (.int d),δ (.int e),↑r,s,t,u,ζ,ζ])(h:a g=δ (.lst (v.map ti)))(k:a r=δ (.lst (w.map ti)))(l:w.length=i)(m:(∀y∈w,y.length<=20)/\∀j y,w[j]?=δ y->Sh (pre v c) (gu v c) e (lN d j) y)(o:ar a p)(q:ay p H a)
def uP(F:xa K "_law_names" iP f fd)(GT:⇑1 fT f4 z0z aY)(x:au K f4 z0z [])(C:fx K (.ref fT)=ν)
  (M:mg "_law_take"=↑fT) (mr:mg "range"=ζ):⇑2 f fd z25z ff:=by
 erw[F.ok a9 λc1 A o1 s H vs Q E D h=>?_]
 symm;let⟨p,n,rfl,B,b1,b2,q⟩:=h;erw[#[_,(@jd _ _ _ _ _ (@ze _ _ (2) _ _ _ _ a9.nd Z (hL Z) (@jj _ _ _ _) LK$ .inl Z)$ @jd _ _ _ _ _ (@ze _ _ (3) _ _ _ _ a9.nd Z (Δ Z) (@jw _ _ _ _ _ _ _ _ jS (@jf _ _ _ _)$ @kf _ _ _ _ _ _ _ _ _ _ _ _ _ _ _ _ GT D Z M C x .nil bu (@ja _ _ _ _ _ (@pv _ 0 _ _ LK (.inr$ .inl Z) LO LO) (@ja _ _ _ _ _ (@jf _ _ _ _) (@jb _) LK) LK) LO LK LK) LK$ .inl Z)$ @jd _ _ _ _ _ (@ze _ _ (4) _ _ _ _ a9.nd Z (Δ Z) (@kf _ _ _ _ _ _ _ _ _ _ _ _ _ _ _ _ GT D Z M C x .nil bu (@ja _ _ _ _ _ (@pv _ 0 _ _ LK (.inr$ .inl Z) LO LO) (@ja _ _ _ _ _ (@pv _ 3 _ _ LK (.inl Z) LO LO) (@jb _) LK) LK) LO LK LK) LK$ .inl Z)$ @jd _ _ _ _ _ (@ZC _ _ _ _ _ _ _ _ _ _ (5) (z34z) (1) ([0,2]) _ _ _ _ a9.nd Z (Δ Z) Z (@zr _ _ _ _ _ _ Z mr (@ja _ _ _ _ _ (@pv _ 3 _ _ LK (by first |exact Δ Z |exact hL (Δ Z) |exact hL$ hL Z) LO LO) (@jb _) LK) LK) Zf (λ_ _ _ _ _=>(@ju _ _ (0) _ Ze Z (Δ Z) (by first |exact .inl Z |exact .inr Z))) (λ_ _ _ _ _=>(@zR _)) (λ_ _ _ _ _=>(@jr _ _ _ _ _ _ _ KN (@pv _ 2 _ _ LK (by first |exact Δ Z |exact hL (Δ Z) |exact hL$ hL Z) LO LO) (@kf _ _ _ _ _ _ _ _ _ _ _ _ _ _ _ _ GT D Z M C x .nil bu (@ja _ _ _ _ _ (@pv _ 1 _ _ LK (by first |exact Δ Z |exact hL (Δ Z) |exact hL$ hL Z) LO LO) (@ja _ _ _ _ _ (@jf _ _ _ _) (@jb _) LK) LK) LO LK LK) (λ_ _=>Z))) LK (by first |exact .inl Z |exact .inr Z) (by intro _;rfl))$ @jd _ _ _ _ _ (@ze _ _ (6) _ _ _ _ a9.nd Z (Δ Z) (@kf _ _ _ _ _ _ _ _ _ _ _ _ _ _ _ _ GT D Z M C x .nil bu (@ja _ _ _ _ _ (@pv _ 0 _ _ LK (.inr$ .inl Z) LO LO) (@ja _ _ _ _ _ (@jf _ _ _ _) (@jb _) LK) LK) LO LK LK) LK$ .inl Z)$ @jd _ _ _ _ _ (@ze _ _ (7) _ _ _ _ a9.nd Z (Δ Z) (@kf _ _ _ _ _ _ _ _ _ _ _ _ _ _ _ _ GT D Z M C x .nil bu (@ja _ _ _ _ _ (@pv _ 0 _ _ LK (.inr$ .inl Z) LO LO) (@ja _ _ _ _ _ (@jf _ _ _ _) (@jb _) LK) LK) LO LK LK) LK$ .inl Z)$ @jd _ _ _ _ _ (@ze _ _ (8) _ _ _ _ a9.nd Z (Δ Z) (@jD _ _ _ _$ @jb _) LK$ .inl Z)$ @jd _ _ _ _ _ (@kP _ _ _ _ _ _ _ _ Ni Z (@zr _ _ _ _ _ _ Z mr (@ja _ _ _ _ _ (@pv _ 1 _ _ LK (.inl Z) LO LO) (@jb _) LK) LK) (@ju _ _ (9) _ a9.nd Z (Δ Z)$ .inl Z) (@jd _ _ _ _ _ (@ze _ _ (10) _ _ _ _ a9.nd Z (Δ Z) (@jr _ _ _ _ _ _ _ KN (@pv _ 2 _ _ LK (.inr$ .inl Z) LO LO) (@jw _ _ _ _ _ _ _ _ zk (@jw _ _ _ _ _ _ _ _ jS (@pv _ 6 _ _ LK (.inl Z) LO LO)$ @jw _ _ _ _ _ _ _ _ zH (@jf _ _ _ _)$ @pv _ 9 _ _ LK (.inl Z) LO LO)$ @jf _ _ _ _) (λ_ _=>Z)) LK$ .inl Z)$ @jd _ _ _ _ _ (@j5 _ _ _$ @ze _ _ (11) _ _ _ _ a9.nd Z (Δ Z) (@jw _ _ _ _ _ _ _ _ zg (@jw _ _ _ _ _ _ _ _ zg (@zh _ _ _ _ _ _ _ _ _ _ _ _ OX PV PU XA (@jj _ _ _ _) (@ja _ _ _ _ _ (@jK _ _ _ _ _ _ _ _ _ _ kX (@pv _ 5 _ _ LK (.inl Z) LO LO) (@ki _)$ @jI _ _ _$ @pv _ 4 _ _ LK (.inl Z) LO LO) (@jb _) LK) LK LK LK LK LK)$ @pv _ 10 _ _ LK (.inl Z) LO LO)$ @zh _ _ _ _ _ _ _ _ _ _ _ _ OX PV PU XA (@jj _ _ _ _) (@ja _ _ _ _ _ (@jK _ _ _ _ _ _ _ _ _ _ kX (@pv _ 5 _ _ LK (.inl Z) LO LO) (@jI _ _ _$ @jw _ _ _ _ _ _ _ _ jS (@pv _ 4 _ _ LK (.inl Z) LO LO)$ @jf _ _ _ _)$ @ki _) (@jb _) LK) LK LK LK LK LK) LK$ .inl Z)$ @jd _ _ _ _ _ (@j5 _ _ _$ @jx _ _ _ _ _ _ _ _ (@PW.pt _ _ _$ @KK _ _ _ _ _ _ _ (zo$ @pv _ 7 _ _ LK (.inl Z) LO LO)$ @Jz _ _ _ _$ zo$ @jw _ _ _ _ _ _ _ _ zk (@pv _ 9 _ _ LK (.inl Z) LO LO)$ @jf _ _ _ _) (@jg _ _ _$ @ze _ _ (11) _ _ _ _ a9.nd Z (Δ Z) (@jw _ _ _ _ _ _ _ _ zg (@pv _ 11 _ _ LK (.inl Z) LO LO)$ @jj _ _ _ _) LK$ .inl Z)$ @jo _)$ @jd _ _ _ _ _ (@j5 _ _ _$ @jx _ _ _ _ _ _ _ _ (zo$ @pv _ 7 _ _ LK (.inl Z) LO LO) (@jg _ _ _$ @ze _ _ (11) _ _ _ _ a9.nd Z (Δ Z) (@jw _ _ _ _ _ _ _ _ zg (@zh _ _ _ _ _ _ _ _ _ _ _ _ OX PV PU XA (@jj _ _ _ _) (@ja _ _ _ _ _ (@kY _ _ _ _ _ _ _ (z35z) (1) ([0,2]) _ _ _ _ Z (@zr _ _ _ _ _ _ Z mr (@ja _ _ _ _ _ (@kf _ _ _ _ _ _ _ _ _ _ _ _ _ _ _ _ GT D Z M C x .nil bu (@ja _ _ _ _ _ (@pv _ 0 _ _ LK (by first |exact Δ Z |exact hL (Δ Z) |exact hL$ hL Z) LO LO) (@ja _ _ _ _ _ (@jf _ _ _ _) (@jb _) LK) LK) LO LK LK) (@jb _) LK) LK) Zh (λ_ _ _ _ _=>(@ju _ _ (0) _ Zg Z (Δ Z) (by first |exact .inl Z |exact .inr Z))) (λ_ _ _ _ _=>(@zR _)) (λ_ _ _ _ _=>(@jr _ _ _ _ _ _ _ KN (@pv _ 2 _ _ LK (by first |exact Δ Z |exact hL (Δ Z) |exact hL$ hL Z) LO LO) (@kf _ _ _ _ _ _ _ _ _ _ _ _ _ _ _ _ GT D Z M C x .nil bu (@ja _ _ _ _ _ (@pv _ 1 _ _ LK (by first |exact Δ Z |exact hL (Δ Z) |exact hL$ hL Z) LO LO) (@ja _ _ _ _ _ (@jf _ _ _ _) (@jb _) LK) LK) LO LK LK) (λ_ _=>Z))) (by intro _;rfl)) (@jb _) LK) LK LK LK LK LK)$ @pv _ 10 _ _ LK (.inl Z) LO LO) LK$ .inl Z)$ @jo _)$ @jd _ _ _ _ _ (@j5 _ _ _$ @jx _ _ _ _ _ _ _ _ (@jB _ _ _ _ _ _ _ _ zO (@pv _ 11 _ _ LK (.inl Z) LO LO) (@jh _ _ _ _ _$ @Kr _ _ LK) Z) (@jg _ _ _$ @ze _ _ (11) _ _ _ _ a9.nd Z (Δ Z) (@jw _ _ _ _ _ _ _ _ zg (@jj _ _ _ _)$ @pv _ 10 _ _ LK (.inl Z) LO LO) LK$ .inl Z)$ @jo _)$ @jg _ _ _$ @jT _ _ _ _ (@zh _ _ _ _ _ _ _ _ _ _ _ _ M4 M7 M6 jQ (@pv _ 8 _ _ LK (.inl Z) LO LO) (@ja _ _ _ _ _ (@pv _ 11 _ _ LK (.inl Z) LO LO) (@jb _) LK) LK LK LK LK LK) LK) (by intro _;rfl))$ @jd _ _ _ _ _ (@j5 _ _ _$ @jx _ _ _ _ _ _ _ _ (@jB _ _ _ _ _ _ _ _ zJ (@kf _ _ _ _ _ _ _ _ _ _ _ _ _ _ _ _ GT D Z M C x .nil bu (@ja _ _ _ _ _ (@pv _ 0 _ _ LK (.inr$ .inl Z) LO LO) (@ja _ _ _ _ _ (@jf _ _ _ _) (@jb _) LK) LK) LO LK LK) (@jf _ _ _ _)$ ax _) (@jd _ _ _ _ _ (@ze _ _ (12) _ _ _ _ a9.nd Z (Δ Z) (@jD _ _ _ _$ @Kr _ _ LK) LK$ .inl Z)$ @jd _ _ _ _ _ (@ze _ _ (13) _ _ _ _ a9.nd Z (Δ Z) (@jr _ _ _ _ _ _ _ jp (@pv _ 12 _ _ LK (.inl Z) LO LO) (@kf _ _ _ _ _ _ _ _ _ _ _ _ _ _ _ _ GT D Z M C x .nil bu (@ja _ _ _ _ _ (@pv _ 0 _ _ LK (.inr$ .inl Z) LO LO) (@ja _ _ _ _ _ (@jf _ _ _ _) (@jb _) LK) LK) LO LK LK) (λ_ _=>Z)) LK$ .inl Z)$ @jg _ _ _$ @jx _ _ _ _ _ _ _ _ (@jB _ _ _ _ _ _ _ _ qC (@pv _ 13 _ _ LK (.inl Z) LO LO) (@pv _ 8 _ _ LK (.inl Z) LO LO) Z) (@jg _ _ _$ @zd _ _ _ _ _ _ (@pv _ 13 _ _ LK (.inl Z) LO LO) (@Jm _ _ _ _ _ _ _ (@pv _ 8 _ _ LK (.inl Z) LO LO) (@kf _ _ _ _ _ _ _ _ _ _ _ _ _ _ _ _ GT D Z M C x .nil bu (@ja _ _ _ _ _ (@pv _ 0 _ _ LK (.inr$ .inl Z) LO LO) (@ja _ _ _ _ _ (@pv _ 1 _ _ LK (.inl Z) LO LO) (@jb _) LK) LK) LO LK LK) zU (by intro _;rfl)) LK LK LK)$ @jo _)$ @jo _)$ @jg _ _ _$ @jm _ _ _ _$ @pv _ 8 _ _ LK (.inl Z) LO LO),?_]];sleep 9;erw[gr λE0 f0=>f0 _ _ ?_];erw[gr λG a=>#[_,Z,p,6,Z,B,LO,LO,λd1 H1 b3 b4 U e1=>#[_,_,Z,Z,a _ _ ?_]]];erw[gr λE2 f2=>#[_,Z,_,Z,p,_,Z,U,LN,LN,λd2 H2 b5 b7 B2 e2=>f2 _ _ ?_]];clear f0 a f2;erw[gr λG a=>#[_,Z,_,Z,LN,LN,?_]];erw[JR (p:=p) LN B2 λss H3 b0 e B3 e3 g hg=>a _ _ ?_];clear a;left;let k3:ay p H H3:=(ay.of_eq e1).trans ((ay.of_eq e2).trans$ ay.of_eq e3);let v:g≠p:=B3.ne hg;erw[gr λG a=>#[_,Z,p,26,Z,B3.upd_new hg,LO,LO,λW H4 d0 d3 B4 e4=>a _ _ ?_]];erw[gr λE2 f2=>#[_,Z,p,3,Z,B4,LO,LO,λI H5 b9 b' B5 e5=>f2 _ _ ?_]];clear a f2;let h2:H5 g=δ (.lst$ ss.map ti):=by rw[e5 g v,e4 g v];exact jc
 let k5:ay p H H5:=(k3.upd_new hg).trans ((ay.of_eq e4).trans$ ay.of_eq e5);erw[gr λG a=>#[LO,λr u=>a _ _ ?_]];clear a;left;let m:r≠p:=B5.ne u;let h5:g≠r:=jk h2 u;let n3:H g=ζ:=by
  cases z:H g with
  |none=>rfl
  |some o=>have:=k3 g o v z;rw[hg]at this;symm;cases this
 let X:H r=ζ:=by
  cases z:H r with
  |none=>rfl
  |some o=>have:=k5 r o m z;rw[u]at this;symm;cases this
 let c2:=zV;erw[gr λG a=>gn λJ j=>#[_,Z,_,Z,LN,LN,j _ _ ?_]];clear j;erw[qA (lo:=0) (NI p g r n d1 d2 W I ss H) #[ζ,ζ,ζ,[],Z,am h2 u,jc,Z,#[(λ_ h=>nomatch h),(λ_ _ h=>nomatch h)],B5.upd_new u,k5.upd_new u] ?_ ?_]
 .intro E0 _ i σ H' hi fE Gq T b;symm;let⟨ok,oo,ow,ys,rfl,L,Y,h0,d,B',k'⟩:=b;clear a;left;symm;let⟨c,hc⟩:=wC (z:=dC) (k:=(W+5*(0+(i:Int))) % 26) (NB _ LO) (by rw[Kk];exact Nl _ LO);erw[T ?_];clear T;show cy (dy _ _) _ E0 _ _;sleep 5;erw[gr λG a=>#[_,Z,_,Z,_,Z,_,_,Z,Z,.inl #[LO,LO],_,_,Z,Z,_,_,Z,Z,(by show(0:Int) < 26;decide),_,_,c,Z,Z,LO,hc,a _ _ ?_]];clear a;left;let c3:(#[(ι [c])]:π).length=1:=rfl;let h6:c=lN W i:=Dc (NB _ LO) (Nl _ LO) hc;refine gr λG a=>dN (Rw p g r n d1 d2 W I i c ss ys H 13 (·=pre ss d2++#[(ι [c])]++gu ss d2)) (λE2 _ t=>?_) λO H1 b=>?_
  .clear a fE;erw[#[Z,_,Z,_,Z,_,Z,g,_,Z,aF.of L,λs1 n1=>?_]];let z1:=JB (ys:=bf ss ζ (δ d2)) λy d=>e y (qp d);let z2:=qV ss ζ (δ d2);erw[#[_,s1,bf ss ζ$ δ d2,Z,Z,aF.of (by rw[jc,zW]),LO,LN,?_]];let j1:=JC (z:="") (ys:=bf ss ζ (δ d2)) LL λy d=>e y (qp d);erw[#[_,Z,_,_,Z,Z,LN,?_]];erw[#[Z,_,Z,_,Z,_,_,Z,Z,_,Z,g,_,Z,aF.of$ am L n1,λs2 n2=>?_]];let z3:=JB (ys:=bf ss (δ$ d2+1) ζ) λy d=>e y (qp d);let z4:=qV ss (δ$ d2+1) ζ;erw[#[_,s2,bf ss (δ$ d2+1) ζ,Z,Z,aF.of (by rw[jc,zW]),LO,LN,?_]];let j2:=JC (z:="") (ys:=bf ss (δ$ d2+1) ζ) LL λy d=>e y (qp d);erw[#[_,_,Z,Z,by rw[oq];omega,?_]];exact t _ _ #[_,#[by show(Txt.join ("":π) (bf ss ζ$ δ d2)++(#[(ι [c])]:π)++Txt.join ("":π) (bf ss (δ$ d2+1) ζ)).length<=13;rw[oq,oq];omega,Z],Z,am (am L n1) n2,am (am Y n1) n2,(B'.upd_new n1).upd_new n2,(k'.upd_new n1).upd_new n2]
  symm;obtain⟨w1,⟨c4,z1⟩,rfl,g1,r1,U,k1⟩:=b;erw[a _ _ ?_];clear a;left;erw[gr λG a=>dN (Rw p g r n d1 d2 W I i c ss ys H 14 (λw=>w=pre ss d2++#[(ι [c])]++gu ss d2∨w=pre ss d2++#[(ι [c])]++gu ss d2++"z")) (λE2 _ t=>?_) λO H2 b=>?_]
  .clear a fE;erw[#[_,Z,Z,_,Z,?_]];refine b8 (λS=>?_) (λS=>?_)
   .erw[#[_,Z,_,_,Z,Z,(by show(0:Int) < 2;decide),Z,_,Z,?_]];refine b8 (λcb=>?_) (λcb=>?_)
    .let hz:(Str.ofString "z").length=1:=by decide+kernel
     erw[#[_,Z,_,_,Z,Z,by rw[hz];omega,?_]];exact t _ _ #[_,#[by rw[oq,hz];omega,.inr (by rw[z1])],Z,g1,r1,U,k1]
    .exact t _ _ #[w1,#[LN,.inl z1],Z,g1,r1,U,k1]
   .exact yk$ t _ _ #[w1,#[LN,.inl z1],Z,g1,r1,U,k1]
  symm;obtain⟨w2,⟨c5,z2⟩,rfl,g2,r2,B2,k2⟩:=b;erw[a _ _ ?_];clear a;left;erw[gr λG a=>dN (Rw p g r n d1 d2 W I i c ss ys H 14 (λw=>if I=2 then ∃R:π,w=R++#[(ι [c])] else w=pre ss d2++#[(ι [c])]++gu ss d2∨w=pre ss d2++#[(ι [c])]++gu ss d2++"z")) (λE2 _ t=>?_) λO H3 b=>?_]
  .clear a fE;erw[#[_,Z,Z,_,Z,?_]];refine b8 (λS=>?_) (λS=>?_)
   .erw[#[Z,_,Z,p,8,Z,B2,LO,LO,λd6 H6 d' a0 B6 e6=>?_]];erw[#[_,Z,LN,LN,?_]];erw[JR (p:=p) LN B6 λtt H7 c6 h3 B7 e7 g7 n7=>?_];let jt:=JC (z:="") (ys:=tt) LL h3;let zt:=JB h3;erw[#[_,g7,tt,Z,Z,aF.of jc,LO,LN,?_]];erw[#[_,Z,_,_,Z,Z,LN,?_]];let g8:H7 g=δ (.lst$ ss.map ti):=by rw[e7 g v,e6 g v];exact g2
    let r8:H7 r=δ (.lst$ ys.map ti):=by rw[e7 r m,e6 r m];exact r2
    let e5:I=2:=by injection Nu S
    exact t _ _ #[_,#[by rw[oq];omega,(MQ e5).mpr #[_,Z]],Z,am g8 n7,am r8 n7,B7.upd_new n7,(k2.trans ((ay.of_eq e6).trans$ ay.of_eq e7)).upd_new n7]
   .let e5:I≠2:=λz=>S (by rw[z];exact Ng Z);exact t _ _ #[w2,#[LN,(MS e5).mpr z2],Z,g2,r2,B2,k2]
  symm;obtain⟨w3,⟨c9,z3⟩,rfl,g3,r3,B3,k3⟩:=b;erw[a _ _ ?_];clear a;left;erw[gr λG a=>dN (Rw p g r n d1 d2 W I i c ss ys H 14$ Sh (pre ss d2) (gu ss d2) I c) (λE2 _ t=>?_) λO H4 b=>?_]
  .clear a fE;erw[#[_,Z,LO,λt0 N=>?_]];erw[#[t0,_,Z,.inr$ aB.of jc,Z,pV LK,_,Z,?_]];refine b8 (λS=>?_) (λS=>?_)
   .let hq:(Str.ofString "qqqqqqq").length=7:=by decide+kernel
    erw[#[_,Z,_,_,Z,Z,by rw[hq];omega,?_]];exact t _ _ #[_,#[by rw[oq,hq];omega,IL],Z,am g3 N,am r3 N,B3.upd_new N,k3.upd_new N]
   .exact t _ _ #[w3,#[LN,IM z3],Z,am g3 N,am r3 N,B3.upd_new N,k3.upd_new N]
  symm;obtain⟨w4,⟨c',z4⟩,rfl,g4,r4,B4,k4⟩:=b;erw[a _ _ ?_];clear a;left;erw[#[_,Z,.inl #[Z,_,aF.of r4],_,Z,r,_,_,Z,Z,r4,by rw[Mv];omega,?_]];erw[fE _ _ #[_,_,_,ys++[w4],Z,by rw[ji h5];exact g4,by rw[jc,M0];rfl,by rw[Mz,h0];rfl,#[λy hm=>?_,λj y hj=>?_],B4.eq$ ji$ MU m,k4.upd_own X]]
  .symm;rcases γ.mp hm with hm |hm
   .exact d.1 y hm
   .right;rw[ρ.mp hm];omega
  .symm;by_cases h7:j < ys.length
   .right;rw[Oq h7]at hj;exact d.2 j y hj
   .let lj:=(χ.mp hj).1;right;rw[Mz,On]at lj;let ej:j=ys.length:=by omega
    rw[ej,NZ$ Mx _,Pn]at hj;symm;injection hj with hj;right;rw[<- hj,ej,h0,<- h6];exact z4
 .intro σ H' b;symm;let⟨ok,oo,ow,ys,rfl,L,Y,h0,d,B',k'⟩:=b;let h1:(ys.length:Int)=n:=by omega
  let f5:=xY (ss:=ss) (d1:=d1) (d2:=d2) LN LN LN;let j1:(pre ss d2).length<=_:=JC (z:="") (ys:=bf ss ζ (δ d2)) LL λy d=>e y (qp d);let j2:(gu ss d2).length<=_:=JC (z:="") (ys:=bf ss (δ$ d2+1) ζ) LL λy d=>e y (qp d);let nd:=wm LN LN d.2;let fr:=AH d0 d3 d.2;let d:=d.1;erw[a _ _ ?_];clear a;left;erw[ah λF1 a=>dN (Rf p r n H) (λE2 _ t=>?_) λO H1 b=>?_]
  .clear a;left;erw[oK λG' g'=>#[_,Z,p,6,Z,B',LO,LO,λd6 H6 d' a0 B6 e6=>#[Z,_,Z,g' _ _ ?_]]];clear g';let r6:H6 r=δ (.lst$ ys.map ti):=by rw[e6 r m];exact Y
   let k6:ay p H H6:=k'.trans (ay.of_eq e6);erw[b8 (λS=>?_) (λS=>?_)]
   .sleep 2;erw[gr λE3 f3=>#[LO,λt0 N=>f3 _ _ ?_]];clear f3;left;let t1:t0≠p:=B6.ne N;erw[gr λE4 f3=>#[_,Z,_,Z,p,13,Z,B6.upd_new N,LO,LO,λd7 H7 a1 a2 B7 e7=>?_]];let t7:H7 t0=δ (.lst ((z30z:List π).map ti)):=((e7 t0 t1).trans jc).trans (NK (λl=>δ (HO.lst l)) LL);let r7:H7 r=δ (.lst$ ys.map ti):=by rw[e7 r m];exact am r6 N
    let k7:ay p H H7:=(k6.upd_new N).trans (ay.of_eq e7);symm;let⟨od,h4,h8⟩:=KP (ys:=(z30z:List π)) a1 (by simpa using a2);erw[#[t0,_,_,_,Z,Z,aF.of t7,h8,f3 _ _ ?_]];clear f3;left;let h':od.length<=20:=by
     let:∀y∈(z30z:List π),y.length<=20:=by decide+kernel
     exact this od h4
    let a3:od∉(z17z:List π):=by
     let:∀y∈(z30z:List π),y∉(z17z:List π):=by decide+kernel
     exact this od h4
    erw[oK λG' g'=>#[_,Z,_,Z,r,_,Z,.inl$ aF.of r7,Z,qt _,_,Z,g' _ _ ?_]];clear g';erw[b8 (λcb=>?_) (λcb=>?_)]
    .erw[#[_,Z,_,Z,_,Z,_,Z,p,n,Z,B7,LN,LN,λd8 H8 a4 e0 B8 e8=>?_]];let r8:H8 r=δ (.lst$ ys.map ti):=by rw[e8 r m];exact r7
     let k8:ay p H H8:=k7.trans (ay.of_eq e8);erw[#[r,_,d8,d8.toNat,Z,Z,r8,?_,?_]]
     .unfold nK;rw[MQ a4,Mv,MQ LN]
     erw[t _ _ #[Z,ys.set d8.toNat od,by rw[jc,wg],by rw[Rj];exact h1,#[λy hm=>?_,rj nd$ ZJ (by let c0:(!iK (.str od) (ys.map ti))=ν:=cb;rw[Ud]at c0;exact c0),fr.set a3],B8.eq$ ji$ MU m,k8.upd_own X]];symm;rcases SJ hm with hm |hm
     .exact d y hm
     .right;rw[hm];exact h'
    .exact t _ _ #[Z,ys,r7,h1,#[d,nd,fr],B7,k7]
   .exact t _ _ #[Z,ys,r6,h1,#[d,nd,fr],B6,k6]
  symm;let⟨a',y0,r1,l1,y1,U,k1⟩:=b;erw[a _ _ ?_];left;exact#[_,a',q r y0 H1 X r1 l1 y1 U k1]
def aj(H h:Hp):Prop:=∀b x,H b=δ (.tup x)->h b=δ (.tup x)
def af.tm(a:af H c):aj H c:=λb x h=>a b _ h
def je{H:Hp}{o:HO}(n:H p=ζ):af H (upd H p o):=λb u e=>am e n
def bJ{b:Bool}{A B:Prop}(h:b=ν)(x:A):if b=ν then A else B:=by rw[MQ h];exact x
def aI{b:Bool}{A B:Prop}(h:b=μ)(x:B):if b=ν then A else B:=by rw[h,MS MJ];exact x
def aJ:τ=16777216:=by rw[O3]
def ar.same(B:ar H p)(s:af H c):ar c p:=by let⟨a,b,d,e,f,h⟩:=B.ob;exact#[a,b,d,e,f,s _ _ h]
def ay.of_same(s:af H h):ay p H h:=λb o _ e=>s _ _ e
def ay.tm(k:ay p H h)(B:ar H p):aj H h:=λb x e=>by let⟨a,c,_,_,_,f⟩:=B.ob;exact k b _ (jE e f (by intro w;cases w)) e
def ay.none(k:ay p H h)(B:ar h p)(n:h r=ζ):H r=ζ:=by
 cases z:H r with
 |none=>rfl
 |some o=>have:=k _ _ (B.ne n) z;rw[n]at this;cases this
def pR{K:Ω}{a:ε}{xs:List V}{t:TE}{Q:List V->Hp->Prop}(u:xs.length<=τ)(Pv:Nat->List V->Hp->Prop)(l:Pv 0 [] H)
  (n:∀i Y h,Pv i Y h->aF K h a xs/\Y.length<=i) (o:∀i x Y h,xs[i]?=δ x->Pv i Y h->t (δ x::d) h λy c=>Pv (i+1) (Y++[y]) c) (q:∀Y h,Pv xs.length Y h->Q Y h):
  fq (xp K a) 1 d (bn 0) ny t Q H:=by
 erw[#[λi m Y h=>m=xs.length - i/\i<=xs.length/\Pv i Y h,#[xs.length,LM,MH _,l],?_]];intro i m Y h f;let⟨rfl,z,p⟩:=f;let⟨g,A⟩:=n i Y h p;by_cases b:i < xs.length
 .erw[.inr #[#[xs,xs[i],g,Mw b],LN,Pv$ i+1,λr c s=>#[xs.length - (i+1),LN,Z,b,s],λv c T j y=>?_]];let⟨e,y⟩:=y;subst e;let⟨w,rfl⟩:=uo j;exact#[#[[δ _],Z,Z],o i v Y c (y xs g) p]
 .let e:i=xs.length:=by omega
  subst e;exact .inl #[#[xs,g,Mx _],q Y h p]
def zP{K:Ω}{xs:List V}{t:TE}{Q:List V->Hp->Prop}(u:xs.length<=τ)(Pv:Nat->List V->Hp->Prop)(l:Pv 0 [] H)
  (n:∀i Y h,Pv i Y h->aB K h a xs/\Y.length<=i) (o:∀i x Y h,xs[i]?=δ x->Pv i Y h->t (δ x::d) h λy c=>Pv (i+1) (Y++[y]) c) (q:∀Y h,Pv xs.length Y h->Q Y h):
  fq (xq K a) 1 d (bn 0) ny t Q H:=by
 erw[#[λi m Y h=>m=xs.length - i/\i<=xs.length/\Pv i Y h,#[xs.length,LM,MH _,l],?_]];intro i m Y h f;let⟨rfl,z,p⟩:=f;let⟨g,A⟩:=n i Y h p;by_cases b:i < xs.length
 .erw[.inr #[#[xs,xs[i],g,Mw b],LN,Pv$ i+1,λr c s=>#[xs.length - (i+1),LN,Z,b,s],λv c T j y=>?_]];let⟨e,y⟩:=y;subst e;let⟨w,rfl⟩:=uo j;exact#[#[[δ _],Z,Z],o i v Y c (y xs g) p]
 .let e:i=xs.length:=by omega
  subst e;exact .inl #[#[xs,g,Mx _],q Y h p]
abbrev lW:da:=top 53
abbrev oX:da:=top 55
inductive Tm where
 |num (n:Int) |var (x:π) |op (i:Nat) (a b:Tm)
def Tm.depth:Tm->Nat
 | .num _ | .var _=>0
 | .op _ a b=>max a.depth b.depth+1
def md:π:="+-*/<="
def wj:md.length=6:=by decide+kernel
def IK(i:Nat):π:=#[(ι [md.cps.toList.getD i 0])]
def Ed(H:0<=d)(a:d < 6):dM md.cps.toList d=δ (md.cps.toList.getD d.toNat 0):=by
 let b:md.cps.toList.length=6:=by decide+kernel
 let h:d.toNat < md.cps.toList.length:=by omega
 let e:d=((d.toNat:Nat):Int):=by omega
 let q:dM md.cps.toList ((d.toNat:Nat):Int)=δ (md.cps.toList.getD d.toNat 0):=jP (by rw[OM,Mw h];rfl);rw[<- e]at q;exact q
def Tm.Good(y:List π):Tm->Prop
 | .num n=>0<=n/\n < 1000000000000000000
 | .var x=>x∈y
 | .op i a b=>i < 6/\a.Good y/\b.Good y
def aR(H:Hp):Tm->ε->Prop
 | .num n,p=>H p=δ (.tup [.str "num",.int n])
 | .var x,p=>H p=δ (.tup [.str "var",.str x])
 | .op i a b,p=>∃q r,H p=δ (.tup [.str "op",.str (IK i),.ref q,.ref r])/\aR H a q/\aR H b r
theorem aR.mono{H a:Hp}(h:∀b x,H b=δ (.tup x)->a b=δ (.tup x)):∀{t:Tm} {p:ε},aR H t p->aR a t p
 | .num _,_,e | .var _,_,e=>h _ _ e
 | .op _ _ _,_,z=>by let⟨q,r,e,E,c⟩:=z;exact #[q,r,h _ _ e,aR.mono h E,aR.mono h c]
def aR.same(h:af H a)(e:aR H t p):aR a t p:=e.mono λb x z=>h b _ z
def aR.but(B:ar H p)(k:ay p H h)(e:aR H t a):aR h t a:=e.mono λb X z=>by let⟨x,y,_,_,_,d⟩:=B.ob;exact k b _ (jE z d (by intro q;cases q)) z
def aR.new{H:Hp}{o:HO}(n:H r=ζ)(e:aR H t a):aR (upd H r o) t a:=e.mono λb x z=>am z n
inductive iY(c:List V)(H:Hp)(Q:VK)(a:XK):Prop
 |mk(p:ε)(_:c=[.ref p])(_:ar H p)(_:∀(d:Int) (H':Hp),0<=d->d < 1000000000000000000->ar H' p->(∀b,b≠p->H' b=H b)->Q (.int d) H')
inductive c8(n:Nat)(b:List V)(H:Hp)(Q:VK)(a:XK):Prop
 |mk(p g:ε)(d:Int)(c:List π)(_:b=[.ref p,.ref g,.int d])(_:ar H p)(_:H g=δ (.lst (c.map ti)))(_:1<=c.length)(_:c.length<=20)(_:0<=d)(_:d < (n:Int))(_:∀(r:ε) (T:Tm) (H':Hp),aR H' T r->(T.depth:Int)<=d->T.Good c->ar H' p->ay p H H'->Q (.ref r) H')
def qK{Y:List π}(B:ar H p)(h:H g=δ (.lst$ Y.map ti)):g≠p:=by
 let⟨x,y,_,_,_,b⟩:=B.ob;erw[jE h b λz=>?_];injection z with z
 match Y,z with
 |a::r,z=>injection z with c _;cases c
def vY:ak z2z z2z (ae lW):=bQ
def rJ(F:xa K "_law_number" lW f t)(C:Cl P w K mg base 1 I u z0z aY "_law_take"):⇑2 f t z2z iY:=by
 erw[F.ok vY (λx A o s H v Q E a h=>?_)]
 let⟨p,rfl,B,q⟩:=h;erw[#[_,(jd (jx (zo$ C.e a$ ja (pv 0)$ ja jf jb) (jg$ jm$ C.e a$ ja (pv 0)$ ja (jw JU jf jf) jb) jo)$ jg$ jm$ C.e a$ ja (pv 0)$ ja jf jb),?_]];erw[#[_,Z,p,4,Z,B,LO,LO,λL M y G m r=>#[Z,_,Z,?_]]];erw[b8 (λc=>?_) (λc=>?_)]
 .erw[#[_,Z,_,_,Z,Z,#[LO,LO,LO],p,_,Z,m,LO,LO,λD g d i j k=>?_]];let z:=lH;exact q D g d LN j λb n=>(k b n).trans (r b n)
 .erw[#[_,Z,p,9,Z,m,LO,LO,λD g d i j k=>?_]];exact q D g d LN j λb n=>(k b n).trans (r b n)
def on:ak ["_law_box_here","_law_names_here","_law_deep","_law_kind","_law_one"] z10z (ae oX):=bQ
def yS(F:xa K "_law_term" oX f fd)(cF:Cl P w K mg base (n+2) f fd z10z (c8 n) "_law_term")(S:Cl P w K mg base 1 fT f0 z0z aY "_law_take")(cN:Cl P w K mg base 2 fN f2 z2z iY "_law_number")(ml:mg "len"=ζ):⇑(n+3) f fd z10z (c8$ n+1):=by
 erw[F.ok on λc0 A T s H vs Q E u h=>?_]
 let⟨p,g,d,ys,rfl,B,hg,v,x,h1,h2,q⟩:=h;erw[#[_,(jd (jz 3 on.nd$ S.e u.m$ ja (pv 0)$ ja jf jb)$ jd (j5$ jx (PW.pt$ Zr (jB Kz (pv 3) jf$ ax _)$ Xo$ PW.pt$ KK (jB J9 (pv 3) jf$ ax _)$ Jz$ zo$ pv 2) (jg$ jm$ jh$ ja jj$ ja (cN.e u.m$ ja (pv 0) jb) jb) jo)$ jd (jx (jB Kz (pv 3) jf$ ax _) (jg$ jm$ jh$ ja jj$ ja (jr jp (pv 1) (S.e u.m$ ja (pv 0)$ ja (jF jL Z ml NQ$ ja (pv 1) jb) jb) (λ_ _=>Z)) jb) jo)$ jd (jz 4 on.nd$ cF.e u$ ja (pv 0)$ ja (pv 1)$ ja (jw kQ (pv 2) jf) jb)$ jg$ jm$ jh$ ja jj$ ja (jr KN jj (S.e u.m$ ja (pv 0)$ ja jf jb) (λ_ _=>Z))$ ja (pv 4)$ ja (cF.e u$ ja (pv 0)$ ja (pv 1)$ ja (jw kQ (pv 2) jf) jb) jb),?_]];let b0:=zV;let j:g≠p:=qK B hg;erw[ah λF1 l=>#[_,Z,p,6,Z,B,LO,LO,λM O k0 k1 R e1=>l _ _ ?_]];clear l;let k:O g=δ (.lst$ ys.map ti):=by rw[e1 g j];exact hg
 let U:ay p H O:=ay.of_eq e1;let num:∀(D:Int) (a:Hp) (r:ε),0<=D->D < 1000000000000000000->ar a p->(∀b,b≠p->a b=O b)->a r=ζ->Q (.ref r) (upd a r$ .tup [.str "num",.int D]):=λD a r C I i o N=>
  q r (.num D) _ jc (by show((0:Nat):Int)<=d;omega) #[C,I] (i.upd_new N) ((U.trans$ ay.of_eq o).upd_new N)
 erw[ah λF1 l=>dN (λJ H'=>J=[↑p,↑g,δ$ .int d,δ$ .int M,ζ]/\H'=O/\(M<=3∨d≠0)) (λE2 eR fm=>?_) λJ H' W=>?_]
 .clear l;erw[oK λG' G=>#[_,Z,_,_,Z,Z,_,Z,?_]];refine b8 (λc=>?_) (λc=>?_)
  .erw[G _ _$ C4 ?_];show iw _ E2 _ _;unfold iw;rw[eR];exact#[_,Z,p,Z,R,λD a C I i o=>#[bg,λr N=>num D a r C I i o N]]
  erw[#[_,Z,_,_,Z,Z,_,Z,?_]];erw[b8 (λc2=>?_) (λc2=>?_)]
  .erw[#[_,Z,Z,_,Z,G _ _ ?_]];refine b8 (λc3=>?_) (λc3=>?_)
   .show iw _ E2 _ _;unfold iw;rw[eR];exact#[_,Z,p,Z,R,λD a C I i o=>#[bg,λr N=>num D a r C I i o N]]
   .exact fm _ _ #[Z,Z,.inr λz=>c3 (by rw[z];rfl)]
  .let c1:¬(3:Int) < M:=Rm (kc.mpr c2);exact G _ _$ yk$ fm _ _ #[Z,Z,.inl LN]
 let⟨rfl,eH,hk⟩:=W;rw[eH];erw[l _ _ ?_];clear l;erw[ah λF1 l=>oK λG' G=>#[_,Z,_,_,Z,Z,_,Z,G _ _ ?_]];clear G;erw[b8 (λc=>?_) (λc=>l _ _ ?_)]
 .-- a variable
  erw[#[_,Z,_,Z,_,Z,g,_,Z,.inl$ aF.of k,p,_,Z,R,by rw[Mv];omega,by rw[Mv];omega,λD a X L i o=>?_]];rw[Mv]at L;let⟨y,hy,Y⟩:=KP (ys:=ys) X L;let t:a g=δ (.lst$ ys.map ti):=by rw[o g j];exact k
  erw[#[g,_,_,_,Z,Z,aF.of t,Y,bg,λr N=>?_]];exact q r (.var y) _ jc (by show((0:Nat):Int)<=d;omega) hy (i.upd_new N) ((U.trans$ ay.of_eq o).upd_new N)
 .let c':¬M < (4:Int):=Rm (kc.mpr c);let hd:d≠0:=hk.resolve_left LN;erw[#[_,Z,_,Z,_,Z,_,_,Z,Z,p,g,d - 1,ys,Z,R,k,v,x,LN,LN,λr1 T1 a t1 d3 g0 i k2=>?_]];let t:a g=δ (.lst$ ys.map ti):=k2 g _ j k;erw[#[_,Z,p,6,Z,i,LO,LO,λs3 H3 s0 s1 B3 e3=>?_]];let h0:H3 g=δ (.lst$ ys.map ti):=by rw[e3 g j];exact t
  let k3:ay p a H3:=ay.of_eq e3;erw[#[md,_,_,Z,Z,(by rw[wj];omega),Ed s0 s1,?_]];erw[#[_,Z,_,Z,_,Z,_,Z,_,_,Z,Z,p,g,d - 1,ys,Z,B3,h0,v,x,LN,LN,λr2 T2 H4 t2 d4 g1 B4 k4=>?_]];erw[#[wE,λr N=>?_]];let t0:aR H4 T1 r1:=(t1.but i k3).but B3 k4;erw[q r (.op s3.toNat T1 T2) _ #[r1,r2,jc,t0.new N,t2.new N] ?_ #[LN,g0,g1] (B4.upd_new N) (((U.trans k2).trans$ k3.trans k4).upd_new N)];show((max T1.depth T2.depth+1:Nat):Int)<=d;omega
def yB:⇑2 f e z10z (c8 0):=by
 let n:∀v H Q E,¬c8 0 v H Q E:=λv H Q E h=>by let⟨p,g,d,y,_,_,_,_,_,i,b,_⟩:=h;let c:d < ((0:Nat):Int):=b;omega
 exact#[λv H Q E h=>absurd h (n v H Q E),λA o s H a u v Q E _ _ _ _ h=>absurd h (n v H Q E)]
theorem Ca(F:xa K "_law_term" oX f a)(b:au K a z10z [])(m:mg "_law_term"=↑f)(c:Cl P w K mg base 1 g d z0z aY "_law_take")(C:Cl P w K mg base 2 h e z2z iY "_law_number")(M:mg "len"=ζ):
  ∀n:Nat,⇑(n+2) f a z10z (c8 n)
 |0=>yB
 |n+1=>yS F #[(Ca F b m c C M n),b,F.kp,m] c C M
end _K
namespace _K
open PySem PySem.Spec PyProof.Rows _L
variable {P:ψ}{w:bU}{K:Ω}{mg:π->Option η}{base:ef}
local macro_rules|`(‹$n›)=>do{let i:=Lean.mkIdent;`(_K.Cl $(i `P) $(i `w) $(i `K) $(i `mg) $(i `base) $n)}
def Tm.vars:Tm->List π
 | .num _=>[]
 | .var x=>[x]
 | .op _ a b=>a.vars++b.vars
theorem kI:∀{t:Tm},t.Good y->∀x∈t.vars,x∈y
 | .num _,_,_,h=>nomatch h
 | .var _,g,_,h=>by rw[ρ.mp h];exact g
 | .op _ _ _,g,_,h=>(γ.mp h).elim (kI g.2.1 _) (kI g.2.2 _)
theorem j9:∀{l m:List π},l.Nodup->(∀x∈l,x∈m)->l.length<=m.length
 | [],_,_,_=>MH _
 |x::l,m,n,h=>by rw[Ri]at n;let H:=h x MM;let q:=j9 (l:=l) (m:=m.erase x) n.2 λy a=>(TJ (λe=>n.1 (by rw[<- e];exact a))).mpr (h y$ MX _ a);rw[SY H]at q;let:0 < m.length:=Ti H;rw[MZ];omega
theorem Qo:∀{l m:List π},l.Nodup->m.Nodup->(∀x,x∈l↔x∈m)->l.Perm m
 | [],[],_,_,_=>.nil
 | [],y::m,_,_,h=>absurd ((h y).mpr MM) LM
 |x::l,m,n,N,h=>by
  rw[Ri]at n;let a:x∈m:=(h x).mp MM;erw[(List.Perm.cons x$ Qo n.2 (N.erase x) λy=>?_).trans (List.perm_cons_erase a).symm];rw[N.mem_erase_iff];constructor
  .intro H;exact#[λe=>n.1 (by rw[<- e];exact H),(h y).mp$ MX _ H]
  .rintro ⟨b,H⟩;exact(Ψ.mp ((h y).mpr H)).resolve_left b
theorem Xj:∀{p:π} {l:List π},risingS p l=ν->(p::l).Pairwise λa b=>a.cps.toList<=b.cps.toList
 |p,[],_=>by simp
 |p,x::r,h=>by
  let H:(!ltCps x.cps.toList p.cps.toList&&risingS x r)=ν:=h;rw[NE]at H;let i:=Xj H.2;let c:p.cps.toList<=x.cps.toList:=by let z:=H.1;rw[ltCps_eq]at z;simpa using z
  rw[List.pairwise_cons]at i ⊢;erw[#[λy hy=>?_,List.pairwise_cons.mpr i]];rcases Ψ.mp hy with rfl |hy
  .exact c
  .exact UU c$ i.1 y hy
def Xk(h:sortedS l=ν):l.Pairwise λa b=>a.cps.toList<=b.cps.toList:=by
 cases l with
 |nil=>exact .nil
 |cons x r=>exact Xj h
def Yz{l:List π}(p:l.Perm m)(h:sortedS l=ν)(H:sortedS m=ν):l=m:=by erw[List.Perm.eq_of_pairwise (λa b _ _ x y=>?_) (Xk h) (Xk H) p];let e:=List.le_antisymm x y;cases a;cases b;exact NK Str.mk$ Array.toList_inj.mp e
inductive Lf where
 |rd (x:π) (t:ε) (T:Tm)
 |st (x:π) (t:ε) (T:Tm)
 |wr (t u:ε) (T U:Tm)
 |cl (x f:π) (q:ε) (ts:List (ε×Tm))
 |gv (t:ε) (T:Tm)
def xu(H:Hp):Lf->List V->Prop
 | .rd x t T,v=>v=[.str "read",.str x,.ref t]/\aR H T t
 | .st x t T,v=>v=[.str "set",.str x,.ref t]/\aR H T t
 | .wr t u T U,v=>v=[.str "write",.ref t,.ref u]/\aR H T t/\aR H U u
 | .cl x f q a,v=>v=[.str "call",.str x,.str f,.ref q]/\H q=δ (.tup (a.map λc=>vr c.1))/\∀c∈a,aR H c.2 c.1
 | .gv t T,v=>v=[.str "give",.ref t]/\aR H T t
def xu.mono(k:aj H a)(h:xu H l v):xu a l v:=by
 cases l with
 |rd x t T |st x t T |gv t T=>exact#[h.1,h.2.mono k]
 |wr t u T U=>exact#[h.1,h.2.1.mono k,h.2.2.mono k]
 |cl x f q d=>exact#[h.1,k _ _ h.2.1,λc b=>(h.2.2 c b).mono k]
inductive Bd where
 |nil
 |lf (p:ε) (l:Lf) (r:Bd)
 |ite (p t:ε) (T:Tm) (a b r:Bd)
 |loop (p t:ε) (T:Tm) (a r:Bd)
def Bd.app:Bd->Bd->Bd
 | .nil,s=>s
 | .lf p l r,s=>.lf p l (r.app s)
 | .ite p t T a b r,s=>.ite p t T a b (r.app s)
 | .loop p t T a r,s=>.loop p t T a (r.app s)
def Bd.size:Bd->Nat
 | .nil=>0
 | .lf _ _ r=>r.size+1
 | .ite _ _ _ a b r=>a.size+b.size+r.size+1
 | .loop _ _ _ a r=>a.size+r.size+1
def Bd.dep:Bd->Nat
 | .nil=>0
 | .lf _ _ r=>r.dep
 | .ite _ _ _ a b r=>max (max a.dep b.dep+1) r.dep
 | .loop _ _ _ a r=>max (a.dep+1) r.dep
def dj(y:List π)(T:Tm):Prop:=T.Good y/\T.depth < 6
def Lf.Ok(y:List π):Lf->Prop
 | .rd x _ T | .st x _ T=>x∈y/\dj y T
 | .wr _ _ T U=>dj y T/\dj y U
 | .cl x _ _ t=>x∈y/\t.length<=6/\∀c∈t,dj y c.2
 | .gv _ T=>dj y T
def Bd.Ok(y:List π):Bd->Prop
 | .nil=>True
 | .lf _ l r=>l.Ok y/\r.Ok y
 | .ite _ _ T a b r=>dj y T/\a.Ok y/\b.Ok y/\r.Ok y
 | .loop _ _ T a r=>dj y T/\a.Ok y/\r.Ok y
abbrev gi:=List (π×Nat)
def Lf.Cs(F:gi):Lf->Prop
 | .cl _ f _ t=>(f,t.length)∈F
 |_=>True
def Bd.Cs(F:gi):Bd->Prop
 | .nil=>True
 | .lf _ l r=>l.Cs F/\r.Cs F
 | .ite _ _ _ a b r=>a.Cs F/\b.Cs F/\r.Cs F
 | .loop _ _ _ a r=>a.Cs F/\r.Cs F
theorem KQ{F:gi}:∀{a b:Bd},a.Cs F->b.Cs F->(a.app b).Cs F
 | .nil,_,_,h=>h
 | .lf _ _ _,_,h,k=>#[h.1,KQ h.2 k]
 | .ite _ _ _ _ _ _,_,h,k=>#[h.1,h.2.1,KQ h.2.2 k]
 | .loop _ _ _ _ _,_,h,k=>#[h.1,KQ h.2 k]
theorem kJ{F:gi}(k:∀f∈F,f∈G):∀{a:Bd},a.Cs F->a.Cs G
 | .nil,_=>trivial
 | .lf _ l _,h=>#[by cases l<;>first |exact k _ h.1 |trivial,kJ k h.2]
 | .ite _ _ _ _ _ _,h=>#[kJ k h.1,kJ k h.2.1,kJ k h.2.2]
 | .loop _ _ _ _ _,h=>#[kJ k h.1,kJ k h.2]
def Lf.calls:Lf->gi
 | .cl _ f _ t=>[(f,t.length)]
 |_=>[]
def Bd.calls:Bd->gi
 | .nil=>[]
 | .lf _ l r=>l.calls++r.calls
 | .ite _ _ _ a b r=>a.calls++(b.calls++r.calls)
 | .loop _ _ _ a r=>a.calls++r.calls
theorem zE:∀b:Bd,b.Cs b.calls
 | .nil=>trivial
 | .lf _ l r=>#[by cases l<;>first |exact mS _ List.mem_cons_self |trivial,kJ (λ_ h=>ir _ h) (zE r)]
 | .ite _ _ _ a b r=>#[kJ (λ_ h=>mS _ h) (zE a),kJ (λ_ h=>ir _ (mS _ h)) (zE b),kJ (λ_ h=>ir _ (ir _ h)) (zE r)]
 | .loop _ _ _ a r=>#[kJ (λ_ h=>mS _ h) (zE a),kJ (λ_ h=>ir _ h) (zE r)]
theorem zX{F:gi}:∀{b:Bd},b.Cs F->∀f∈b.calls,f∈F
 | .nil,_,_,h=>nomatch h
 | .lf _ l r,k,f,h=>(γ.mp h).elim (λh=>by cases l<;>first | (rw[ρ.mp h];exact k.1) |exact nomatch h) (zX k.2 f)
 | .ite _ _ _ a b r,k,f,h=>(γ.mp h).elim (zX k.1 f) λh=>(γ.mp h).elim (zX k.2.1 f) (zX k.2.2 f)
 | .loop _ _ _ a r,k,f,h=>(γ.mp h).elim (zX k.1 f) (zX k.2 f)
theorem jX:∀(a b:Bd),(a.app b).size=a.size+b.size
 | .nil,b=>by show b.size=0+b.size;omega
 | .lf _ _ r,b=>by let:=jX r b;show(r.app b).size+1=r.size+1+b.size;omega
 | .ite _ _ _ x y r,b=>by let:=jX r b;show x.size+y.size+(r.app b).size+1=x.size+y.size+r.size+1+b.size;omega
 | .loop _ _ _ x r,b=>by let:=jX r b;show x.size+(r.app b).size+1=x.size+r.size+1+b.size;omega
theorem zL:∀(a b:Bd),(a.app b).dep=max a.dep b.dep
 | .nil,b=>(Nat.zero_max b.dep).symm
 | .lf _ _ r,b=>zL r b
 | .ite _ _ _ x y r,b | .loop _ _ _ x r,b=>by show max _ (r.app b).dep=max (max _ r.dep) b.dep;rw[zL r b,UZ]
theorem KR:∀{a b:Bd},a.Ok y->b.Ok y->(a.app b).Ok y
 | .nil,_,_,h=>h
 | .lf _ _ _,_,g,h=>#[g.1,KR g.2 h]
 | .ite _ _ _ _ _ _,_,g,h=>#[g.1,g.2.1,g.2.2.1,KR g.2.2.2 h]
 | .loop _ _ _ _ _,_,g,h=>#[g.1,g.2.1,KR g.2.2 h]
def de(H:Hp):Bd->List V->Prop
 | .nil,x=>x=[]
 | .lf p l r,x=>∃v y,x= .ref p::y/\H p=δ (.tup v)/\xu H l v/\de H r y
 | .ite p t T a b r,x=>∃q Q A B y,x= .ref p::y/\H p=δ (.tup [.str "if",.ref t,.ref q,.ref Q])/\aR H T t/\H q=δ (.tup A)/\H Q=δ (.tup B)/\de H a A/\de H b B/\de H r y
 | .loop p t T a r,x=>∃q A y,x= .ref p::y/\H p=δ (.tup [.str "while",.ref t,.ref q])/\aR H T t/\H q=δ (.tup A)/\de H a A/\de H r y
def de.mono(k:aj H m):∀{x:List V},de H a x->de m a x:=by
 induction a with
 |nil=>exactλh=>h
 |lf p l r n=>rintro x ⟨v,y,e,c,d,f⟩;exact#[v,y,e,k _ _ c,d.mono k,n f]
 |ite p t T a b r i o I=>rintro x ⟨q,Q,A,B,y,e,c,g,d,f,j,s,u⟩;exact#[q,Q,A,B,y,e,k _ _ c,g.mono k,k _ _ d,k _ _ f,i j,o s,I u]
 |loop p t T a r i I=>rintro x ⟨q,A,y,e,c,g,d,f,j⟩;exact#[q,A,y,e,k _ _ c,g.mono k,k _ _ d,i f,I j]
def de.app(k:de H b y):∀{x:List V},de H a x->de H (a.app b) (x++y):=by
 induction a with
 |nil=>intro x h;let e:x=[]:=h;rw[e];exact k
 |lf p l r I=>rintro x ⟨v,z,e,c,d,f⟩;exact#[v,z++y,by rw[e];rfl,c,d,I f]
 |ite p t T a b r _ _ i=>rintro x ⟨q,Q,A,B,z,e,c,g,d,f,j,m,n⟩;exact#[q,Q,A,B,z++y,by rw[e];rfl,c,g,d,f,j,m,i n]
 |loop p t T a r _ i=>rintro x ⟨q,A,z,e,c,g,d,f,j⟩;exact#[q,A,z++y,by rw[e];rfl,c,g,d,f,i j]
def de.len:∀{x:List V},de H a x->x.length<=a.size:=by
 induction a with
 |nil=>intro x h;let e:x=[]:=h;rw[e];exact Mx 0
 |lf p l r I=>rintro x ⟨v,y,e,d,f,c⟩;rw[e];exact NF (I c)
 |ite p t T a b r _ _ i=>rintro x ⟨q,Q,A,B,y,e,d,j,f,c,g,m,k⟩;rw[e];exact NF (MT (i k) (UF _ _))
 |loop p t T a r _ i=>rintro x ⟨q,A,y,e,d,j,f,c,g⟩;rw[e];exact NF (MT (i g) (UF _ _))
inductive iA(H:Hp):V->Bd->Prop
 |lf (p:ε) (l:Lf) (vs:List V) (h1:H p=δ (.tup vs)) (h2:xu H l vs):iA H (.ref p) (.lf p l .nil)
 |ite (p t:ε) (T:Tm) (a b:Bd) (qa qb:ε) (as bs:List V) (h1:H p=δ (.tup [.str "if",.ref t,.ref qa,.ref qb])) (h0:aR H T t) (h2:H qa=δ (.tup as)) (h3:H qb=δ (.tup bs)) (h4:de H a as) (h5:de H b bs):iA H (.ref p) (.ite p t T a b .nil)
 |loop (p t:ε) (T:Tm) (a:Bd) (qa:ε) (as:List V) (h1:H p=δ (.tup [.str "while",.ref t,.ref qa])) (h0:aR H T t) (h2:H qa=δ (.tup as)) (h3:de H a as):iA H (.ref p) (.loop p t T a .nil)
def iA.bd(h:iA H v s):de H s [v]:=by
 cases h with
 |lf p l V c d=>exact#[V,[],Z,c,d,Z]
 |ite p t T a b q Q A B c e d f g i=>exact#[q,Q,A,B,[],Z,c,e,d,f,g,i,Z]
 |loop p t T a q A c e d f=>exact#[q,A,[],Z,c,e,d,f,Z]
def iA.mono(k:aj H g)(h:iA H v s):iA g v s:=by
 cases h with
 |lf p l V c d=>exact .lf p l V (k _ _ c) (d.mono k)
 |ite p t T a b q Q A B c e d f i j=>exact .ite p t T a b q Q A B (k _ _ c) (e.mono k) (k _ _ d) (k _ _ f) (i.mono k) (j.mono k)
 |loop p t T a q A c e d f=>exact .loop p t T a q A (k _ _ c) (e.mono k) (k _ _ d) (f.mono k)
def de.last:∀{x:List V},de H a x->x=[]/\a= .nil∨∃z v b s,x=z++[v]/\a=b.app s/\de H b z/\iA H v s:=by
 induction a with
 |nil=>exactλh=>.inl #[h,Z]
 |lf p l r i=>
  rintro x ⟨u,y,e,f,g,n⟩;rcases i n with ⟨E,d⟩ | ⟨z,v,b,s,E,d,j,k⟩
  .exact .inr #[[],.ref p,.nil,.lf p l .nil,by rw[e,E];rfl,by rw[d];rfl,Z,.lf p l u f g]
  .exact .inr #[.ref p::z,v,.lf p l b,s,by rw[e,E];rfl,by rw[d];rfl,#[u,z,Z,f,g,j],k]
 |ite p t T a b r _ _ i=>
  rintro x ⟨q,Q,A,B,y,e,f,m,g,n,G,C,o⟩;rcases i o with ⟨E,d⟩ | ⟨z,v,c,s,E,d,j,k⟩
  .exact .inr #[[],.ref p,.nil,.ite p t T a b .nil,by rw[e,E];rfl,by rw[d];rfl,Z,.ite p t T a b q Q A B f m g n G C]
  .exact .inr #[.ref p::z,v,.ite p t T a b c,s,by rw[e,E];rfl,by rw[d];rfl,#[q,Q,A,B,z,Z,f,m,g,n,G,C,j],k]
 |loop p t T a r _ i=>
  rintro x ⟨q,A,y,e,f,m,g,G,o⟩;rcases i o with ⟨E,d⟩ | ⟨z,v,c,s,E,d,j,k⟩
  .exact .inr #[[],.ref p,.nil,.loop p t T a .nil,by rw[e,E];rfl,by rw[d];rfl,Z,.loop p t T a q A f m g G]
  .exact .inr #[.ref p::z,v,.loop p t T a c,s,by rw[e,E];rfl,by rw[d];rfl,#[q,A,z,Z,f,m,g,G,j],k]
theorem qh:∀{a b:Bd},(a.app b).Ok y->a.Ok y/\b.Ok y
 | .nil,_,h=>#[trivial,h]
 | .lf _ _ _,_,h=>#[#[h.1,(qh h.2).1],(qh h.2).2]
 | .ite _ _ _ _ _ _,_,h=>#[#[h.1,h.2.1,h.2.2.1,(qh h.2.2.2).1],(qh h.2.2.2).2]
 | .loop _ _ _ _ _,_,h=>#[#[h.1,h.2.1,(qh h.2.2).1],(qh h.2.2).2]
structure Nm(ss:List π)(M:π->Prop):Prop where
 nd:ss.Nodup
 so:sortedS ss=ν
 mem:∀x,x∈ss↔M x
def Nm.uniq(h:Nm a M)(g:Nm s M):a=s:=Yz (Qo h.nd g.nd λx=>(h.mem x).trans (g.mem x).symm) h.so g.so
open Classical in
def canon(M:π->Prop):List π:=if h:∃s,Nm s M then Classical.choose h else []
def Nm.canon(h:Nm s M):s=canon M:=by let e:∃s,Nm s M:=#[s,h];unfold _K.canon;rw[dif_pos e];exact h.uniq$ Sy e
def Nm.len{s y:List π}{M:π->Prop}(h:Nm s M)(H:∀x,M x->x∈y):s.length<=y.length:=j9 h.nd λx a=>H x ((h.mem x).mp a)
def Lf.use(M:π->Prop):Lf->π->Prop
 | .rd x _ T,y | .st x _ T,y=>(M y/\y≠x)∨y∈T.vars
 | .wr _ _ T U,y=>M y∨y∈T.vars∨y∈U.vars
 | .cl x _ _ t,y=>(M y/\y≠x)∨∃c∈t,y∈c.2.vars
 | .gv _ T,y=>y∈T.vars
def Bd.use:Bd->(π->Prop)->π->Prop
 | .nil,M=>M
 | .lf _ l r,M=>l.use (r.use M)
 | .ite _ _ T a b r,M=>λy=>(a.use (r.use M) y∨b.use (r.use M) y)∨y∈T.vars
 | .loop _ _ T a r,M=>λy=>(a.use (λ_=>False) y∨r.use M y)∨y∈T.vars
theorem Ku:∀(a b:Bd) (M:π->Prop),(a.app b).use M=a.use (b.use M)
 | .nil,_,_=>rfl
 | .lf _ l r,b,M=>by show l.use ((r.app b).use M)=l.use (r.use (b.use M));rw[Ku r b M]
 | .ite _ _ T x y r,b,M=>by show(λz=>(x.use ((r.app b).use M) z∨y.use ((r.app b).use M) z)∨z∈T.vars)=λz=>(x.use (r.use (b.use M)) z∨y.use (r.use (b.use M)) z)∨z∈T.vars;rw[Ku r b M]
 | .loop _ _ T x r,b,M=>by show(λz=>(x.use (λ_=>False) z∨(r.app b).use M z)∨z∈T.vars)=λz=>(x.use (λ_=>False) z∨r.use (b.use M) z)∨z∈T.vars;rw[Ku r b M]
def Lf.use_in{M:π->Prop}{l:Lf}(h:l.Ok Y)(a:∀x,M x->x∈Y):∀y,l.use M y->y∈Y:=by
 intro y H;cases l with
 |rd x t T |st x t T=>exact H.elim (λz=>a y z.1) (kI h.2.1 y)
 |wr t u T U=>exact H.elim (a y) λz=>z.elim (kI h.1.1 y) (kI h.2.1 y)
 |cl x f q d=>exact H.elim (λz=>a y z.1) λ#[c,b,z]=>kI (h.2.2 c b).1 y z
 |gv t T=>exact kI h.1 y H
theorem Bd.use_in:∀{b:Bd} {M:π->Prop},b.Ok Y->(∀x,M x->x∈Y)->∀y,b.use M y->y∈Y
 | .nil,_,_,H,y,c=>H y c
 | .lf _ l r,_,h,H,y,c=>Lf.use_in h.1 (Bd.use_in h.2 H) y c
 | .ite _ _ T a b r,_,h,H,y,c=>c.elim (λz=>z.elim (Bd.use_in h.2.1 (Bd.use_in h.2.2.2 H) y) (Bd.use_in h.2.2.1 (Bd.use_in h.2.2.2 H) y)) (kI h.1.1 y)
 | .loop _ _ T a r,_,h,H,y,c=>c.elim (λz=>z.elim (Bd.use_in h.2.1 (λ_ w=>w.elim) y) (Bd.use_in h.2.2 H y)) (kI h.1.1 y)
abbrev eV:da:=top 4
abbrev D1:da:=top 35
abbrev vP:da:=top 36
abbrev Aq:da:=top 37
abbrev Ap:da:=top 38
inductive dq(n:Nat)(c:List V)(H:Hp)(Q:VK)(b:XK):Prop
 |mk(a:ε)(T:Tm)(d:List π)(_:c=[.ref a])(_:aR H T a)(_:T.depth < n)(_:T.Good d)(_:d.length<=21)(_:∀(r:ε) (ss:List π) (H':Hp),H r=ζ->H' r=δ (.lst (ss.map ti))->ss.Nodup->(∀x,x∈ss↔x∈T.vars)->sortedS ss=ν->af H H'->Q (.ref r) H')
def vX:ak z1z z1z (ae eV):=bQ
def yK{f:ε}{o:Φ}(F:xa K "names_in" eV f o){n:Nat}(C:‹n+1› f o z1z (dq n) "names_in")(M:mg "set"=ζ)(p:mg "sorted"=ζ):⇑(n+2) f o z1z (dq$ n+1):=by
 erw[F.ok vX (λc0 A O s H vs Q E v h=>?_)]
 let⟨a,T,Y,rfl,t,dp,g,j,q⟩:=h;erw[#[_,(jd (jx (jZ$ jy$ pv 0) (jg$ jm$ jD jb) jo)$ jd (jx (jZ$ jy$ pv 0) (jg$ jm$ jD$ ja (jy$ pv 0) jb) jo)$ jg$ jm$ jF (qF Z) Z p SQ$ ja (jC (Jv Z) Z M VE$ ja (jw qw (C.e v$ ja (jy$ pv 0) jb)$ C.e v$ ja (jy$ pv 0) jb) jb) jb),?_]];cases T with
 |num m=>have b:H a=δ (.tup [.str "num",.int m]):=t;erw[(jq b Z #[Z,_,Z,bJ LL ?_])];exact#[LO,λr N=>q r [] _ N jc Rr (λx=>Sw) Z (je N)]
 |var x=>have b:H a=δ (.tup [.str "var",.str x]):=t;erw[(jq b Z #[Z,_,Z,aI LL ?_])];erw[(jq b Z #[Z,_,Z,bJ LL ?_])];exact(jq b Z #[fg,λr N=>q r [x] _ N jc LM (λy=>Sw) Z (je N)])
 |op i B D=>let⟨p1,p2,b,h1,h2⟩:=t;let d0:max B.depth D.depth+1 < n+1:=dp;erw[(jq b Z #[Z,_,Z,aI LL ?_])];erw[(jq b Z #[Z,_,Z,aI LL ?_])];erw[(jq b Z #[p1,B,Y,Z,h1,LN,g.2.1,j,λr1 S H1 n1 e1 d1 G o1 u=>?_])];erw[(jq (u _ _ b) Z #[p2,D,Y,Z,h2.same u,LN,g.2.2,j,λr2 k H2 n2 e2 d2 I o2 J=>?_])];let l1:S.length<=21:=MT (j9 d1 λx d=>kI g.2.1 x ((G x).mp d)) j;let l2:k.length<=21:=MT (j9 d2 λx d=>kI g.2.2 x ((I x).mp d)) j;let b0:=zV;erw[#[r1,r2,_,_,Z,Z,J _ _ e1,e2,(by rw[Mv,Mv];omega),λc nc=>?_]];erw[#[c,S++k,Z,aF.of (by rw[jc,M0]),(λL nd hs=>N5 (NF$ j9 nd hs) (by rw[Mz];show S.length+k.length+1 < 4096;omega)),λl L nl dL R=>?_]];let lL:=j9 dL λx d=>(R x).mp d;rw[Mz]at lL;erw[#[l,L,Z,jc,LN,λz ss U W dz oz=>?_]];let X:af H (upd (upd H2 c$ .lst$ S.map ti++k.map ti) l$ HM P w l L):=(u.trans J).trans ((je nc).trans$ je nl);erw[q z ss _ (X.free U) jc (W.nodup_iff.mpr dz) (λx=>?_) oz$ X.trans$ je U];rw[W.mem_iff,R x,OS,G x,I x];exact γ.symm
def yA:⇑1 f d z1z (dq 0):=by
 let n:∀v H Q E,¬dq 0 v H Q E:=λv H Q E h=>by let⟨a,T,y,_,_,c,_⟩:=h;exact absurd c$ OU _
 exact#[λv H Q E h=>absurd h (n v H Q E),λA o s H b u v Q E _ _ _ _ h=>absurd h (n v H Q E)]
theorem BC(F:xa K "names_in" eV f a)(b:au K a z1z [])(c:mg "names_in"=↑f)(m:mg "set"=ζ)(M:mg "sorted"=ζ):
  ∀n:Nat,⇑(n+1) f a z1z (dq n)
 |0=>yA
 |n+1=>yK F #[(BC F b c m M n),b,F.kp,c] m M
def Lf.own:Lf->List (ε×Tm)
 | .rd _ t T | .st _ t T=>[(t,T)]
 | .wr t u T U=>[(t,T),(u,U)]
 | .cl _ _ _ a=>a
 | .gv t T=>[(t,T)]
def Bd.own:Bd->List (ε×Tm)
 | .nil=>[]
 | .lf _ l _=>l.own
 | .ite _ t T _ _ _ | .loop _ t T _ _=>[(t,T)]
def rT(c:ε×Tm):V:=.ref c.1
inductive nj(b:List V)(H:Hp)(Q:VK)(a:XK):Prop
 |mk(v:V)(s:Bd)(_:b=[v])(_:iA H v s)(_:∀(r:ε) (H':Hp),H' r=δ (.tup (s.own.map rT))->af H H'->Q (.ref r) H')
def ZK:aX (a::b::r) (δ 1) (δ 2)=[b]:=by
 unfold aX;let e:(1:Int)=((1:Nat):Int):=rfl;let E:(2:Int)=((2:Nat):Int):=rfl;rw[E,e,HT.sIx_nat,HT.sIx_nat,MZ,MZ];let c:min 1 (r.length+1+1)=1:=by omega
 let d:min 2 (r.length+1+1) - 1=1:=by omega
 rw[c,d];rfl
def BQ:ak ["statement","word"] z5z (ae D1):=bQ
def Dy{f:ε}{j:Φ}(F:xa K "own_terms" D1 f j):⇑1 f j z5z nj:=by
 erw[F.ok BQ λC A o s H V Q E d h=>?_]
 let⟨v,st,rfl,m,q⟩:=h;erw[#[_,(jd (jz 1 BQ.nd$ jy$ pv 0)$ jd (jx (jB zO (pv 1) (jh$ ja jj$ ja jj jb) Z) (jg$ jm$ jK qx (pv 0) (jI jf) ki) jo)$ jd (jx (jZ$ pv 1) (jg$ jm$ jK qx (pv 0) (jI jf) ki) jo)$ jd (jx (jZ$ pv 1) (jg$ jm$ jy$ pv 0) jo)$ jg$ jm$ jK qx (pv 0) (jI jf)$ jI jf),?_]];cases m with
 |lf p l V c g=>
  cases l with
  |rd x t T |st x t T=>let⟨rfl,i⟩:=g;erw[(jq c Z #[_,Z,bg,λl n=>#[l,_,Z,.inr$ aB.of jc,Z,Z,_,Z,bJ LL ?_]])];exact#[_,Z,_,Z,p,_,Z,am c n,λr e d s=>q r e d ((je n).trans s)]
  |wr t u T U=>let⟨rfl,i,L⟩:=g;erw[(jq c Z #[_,Z,bg,λl n=>#[l,_,Z,.inr$ aB.of jc,Z,Z,_,Z,aI LL ?_]])];erw[#[_,Z,Z,_,Z,bJ LL ?_]];exact#[_,Z,_,Z,p,_,Z,am c n,λr e d s=>q r e d ((je n).trans s)]
  |cl x M y N=>let⟨rfl,z,i⟩:=g;erw[(jq c Z #[_,Z,bg,λl n=>#[l,_,Z,.inr$ aB.of jc,Z,Z,_,Z,aI LL ?_]])];erw[#[_,Z,Z,_,Z,aI LL ?_]];erw[#[_,Z,Z,_,Z,bJ LL ?_]];exact(jq (am c n) Z$ q y _ (am z n)$ je n)
  |gv t T=>let⟨rfl,i⟩:=g;erw[(jq c Z #[_,Z,bg,λl n=>#[l,_,Z,.inr$ aB.of jc,Z,Z,_,Z,aI LL ?_]])];erw[#[_,Z,Z,_,Z,aI LL ?_]];erw[#[_,Z,Z,_,Z,aI LL ?_]];exact#[_,Z,_,Z,_,Z,p,_,Z,am c n,λr e d s=>q r e (by rw[ZK]at d;exact d) ((je n).trans s)]
 |ite p t T a b B O D R c G g I S W |loop p t T a B D c G g I=>erw[(jq c Z #[_,Z,bg,λl n=>#[l,_,Z,.inr$ aB.of jc,Z,Z,_,Z,aI LL ?_]])];erw[#[_,Z,Z,_,Z,aI LL ?_]];erw[#[_,Z,Z,_,Z,aI LL ?_]];exact#[_,Z,_,Z,_,Z,p,_,Z,am c n,λr e d s=>q r e (by rw[ZK]at d;exact d) ((je n).trans s)]
def Jw{K:Ω}{a:ε}{Y:List π}{t:TT}{T:TE}{q:List V->Hp->Prop}{b:_L.St}{H:Hp}(f:π->Bool)(L:Y.length<=1000)(A:H a=δ (.lst$ Y.map ti))
  (B:∀y g (Q:Bool->Hp->Prop),y∈Y->af H g->(∀j,af g j->Q (f y) j)->t (δ (.str y)::b) g Q)
  (C:∀y g (Q:VK),y∈Y->Q (.str y) g->T (δ (.str y)::b) g Q) (D:∀c,af H c->q ((Y.filter f).map ti) c):fq (xp K a) 1 b (bn 0) t T q H:=by
 let F:=zV;erw[#[λi m n c=>m=Y.length - i/\i<=Y.length/\n=((Y.take i).filter f).map ti/\af H c,#[Y.length,LM,MH _,LM,af.refl H],?_]];rintro i m n c ⟨rfl,M,rfl,k⟩;let d:aF K c a (Y.map ti):=aF.of (k _ _ A);by_cases h:i < Y.length
 .let o:(Y.map ti)[i]?=δ (.str Y[i]):=by rw[MK,Mw h];rfl
  erw[.inr #[#[_,_,d,o],?_,λz j=>z=((Y.take$ i+1).filter f).map ti/\af H j,λz j #[G,I]=>#[Y.length - (i+1),LN,Z,h,G,I],λv j N l y=>?_]]
  .rw[Mv];let:=O5 f (Y.take i);rw[M1]at this;omega
  let⟨e,y⟩:=y;subst e;let p:=y _ d;rw[o]at p;cases p;let⟨w,rfl⟩:=uo l;let r:Y[i]∈Y:=N4 h;let s:Y.take (i+1)=Y.take i++[Y[i]]:=by rw[Ou,Mw h];rfl
  erw[#[#[[δ _],Z,Z],B Y[i] _ _ r k λJ u=>?_]];cases x:f Y[i] with
  |true=>
   erw[bJ Z$ C Y[i] J _ r #[?_,k.trans u]];rw[s,RE,M0];let E:[Y[i]].filter f=[Y[i]]:=by simp [x]
   rw[E];rfl
  |false=>
   erw[aI Z #[?_,k.trans u]];rw[s,RE,M0];let E:[Y[i]].filter f=[]:=by simp [x]
   rw[E];simp
 .let e:i=Y.length:=by omega
  subst e;erw[.inl #[#[_,d,LM],?_]];rw[Nq$ Mx _];exact D c k
def Lf.bt(M:π->Prop):Lf->π->Prop
 | .rd x _ _,y | .st x _ _,y=>M y/\y≠x
 | .wr _ _ _ _,y=>M y
 | .cl x _ _ _,y=>M y/\y≠x
 | .gv _ _,_=>False
def Bd.bt(M:π->Prop):Bd->π->Prop
 | .nil,y=>M y
 | .lf _ l _,y=>l.bt M y
 | .ite _ _ _ a b _,y=>a.use M y∨b.use M y
 | .loop _ _ _ a _,y=>a.use (λ_=>False) y∨M y
def wV(h:iA H v s)(M:π->Prop)(y:π):s.use M y↔s.bt M y∨∃c∈s.own,y∈c.2.vars:=by
 cases h with
 |lf p l V _ _=>
  cases l with
  |rd x t T |st x t T=>exact#[λz=>z.elim .inl λw=>.inr #[_,ρ.mpr Z,w],λz=>z.elim .inl λ#[c,hc,w]=>.inr (by rw[ρ.mp hc]at w;exact w)]
  |wr t u T U=>
   erw[#[λz=>z.elim .inl λw=>.inr (w.elim (λw=>#[_,MM ..,w]) λw=>#[_,MX _$ ρ.mpr Z,w]),λz=>z.elim .inl λ#[c,hc,w]=>.inr ?_]];rcases Ψ.mp hc with e |hc
   .rw[e]at w;exact .inl w
   .rw[ρ.mp hc]at w;exact .inr w
  |cl x f q d=>exact Sw
  |gv t T=>exact#[λw=>.inr #[_,ρ.mpr Z,w],λz=>z.elim False.elim λ#[c,hc,w]=>by rw[ρ.mp hc]at w;exact w]
 |ite p t T a b Q g A B _ _ _ _ _ _ |loop p t T a Q A _ _ _ _=>exact#[λz=>z.elim .inl λw=>.inr #[_,ρ.mpr Z,w],λz=>z.elim .inl λ#[c,hc,w]=>.inr (by rw[ρ.mp hc]at w;exact w)]
structure NL(H:Hp)(g:ε)(ss:List π)(M:π->Prop)(ys:List π):Prop where
 at':H g=δ (.lst$ ss.map ti)
 nm:Nm ss M
 sub:∀x,M x->x∈ys
 y20:ys.length<=21
def NL.len{H:Hp}{g:ε}{s:List π}{M:π->Prop}{y:List π}(h:NL H g s M y):s.length<=21:=MT (h.nm.len h.sub) h.y20
def NL.same(h:NL H g a M y)(s:af H b):NL b g a M y:=#[s _ _ h.at',h.nm,h.sub,h.y20]
structure NU(H:Hp)(g:ε)(ss:List π)(M:π->Prop)(ys:List π):Prop where
 at':H g=δ (.lst$ ss.map ti)
 nd:ss.Nodup
 mem:∀x,x∈ss↔M x
 sub:∀x,M x->x∈ys
 y20:ys.length<=21
def NL.nu(h:NL H g s M y):NU H g s M y:=#[h.at',h.nm.nd,h.nm.mem,h.sub,h.y20]
inductive ww(n:Nat)(c:List V)(H:Hp)(Q:VK)(a:XK):Prop
 |mk(v:V)(g:ε)(s:Bd)(b:List π)(M:π->Prop)(d:List π)(_:c=[v,.ref g])(_:iA H v s)(_:NL H g b M d)(_:s.Ok d)(_:s.dep < n+1)(_:s.size<=10000000)(_:∀(r:ε) (zs:List π) (H':Hp),H' r=δ (.lst (zs.map ti))->(∀y,y∈zs↔s.bt M y)->zs.length<=50->af H H'->Q (.ref r) H')
inductive hV(n:Nat)(c:List V)(H:Hp)(Q:VK)(a:XK):Prop
 |mk(v:V)(g:ε)(s:Bd)(b:List π)(M:π->Prop)(d:List π)(_:c=[v,.ref g])(_:iA H v s)(_:NL H g b M d)(_:s.Ok d)(_:s.dep < n+1)(_:s.size<=10000000)(_:∀(r:ε) (zs:List π) (H':Hp),H r=ζ->NL H' r zs (s.use M) d->af H H'->Q (.ref r) H')
inductive i7(n:Nat)(e:List V)(H:Hp)(Q:VK)(c:XK):Prop
 |mk(a g:ε)(b:Bd)(f:List V)(d:List π)(M:π->Prop)(h:List π)(_:e=[.ref a,.ref g])(_:H a=δ (.tup f))(_:de H b f)(_:NU H g d M h)(_:b.Ok h)(_:b.dep < n)(_:b.size<=10000000)(_:∀(r:ε) (zs:List π) (H':Hp),H r=ζ->NL H' r zs (b.use M) h->af H H'->Q (.ref r) H')
def Nm.empty:Nm [] (λ_=>False):=#[Rr,Z,λx=>#[λh=>absurd h MO,False.elim]]
def BS:ak ["statement","behind","word"] z3z (ae vP):=bQ
def wf:hJ:=#[.function,[(".0",.local),("name",.local),("statement",.free)],μ,μ,[]]
def FR:(["name","statement"]:List π).Nodup:=by decide+kernel
def Fg:aV ["statement","behind","word"] (ae vP) wf ["name","statement"] 1 [0]:=nS
def uT{L n:Nat}(F:xa K "used_behind_terms" vP f fd)(J:‹L› fA f0 z18z (i7 n) "used_ahead"):⇑(L+1) f fd z3z (ww n):=by
 erw[F.ok BS λc0 A O s H vs Q E R h=>?_]
 let⟨v,g,st,G,M,Y,rfl,hs,c,W,hd,hz,q⟩:=h;erw[#[_,(jd (jz 2 BS.nd$ jy$ pv 0)$ jd (jx (jB zO (pv 2) (jh$ ja jj$ ja jj$ ja jj jb) Z) (jg$ jm$ @kY _ _ _ _ _ _ _ (["name","statement"]) (1) ([0]) _ _ _ _ Z (qd$ pv 1) Fg (λ_ _ _ _ _=>(ju (i:=0) FR Z$ Δ Z)) (λ_ _ _ _ _=>(@Xr _ _ _$ jB Jx (pv 0) (jr (r:=fj K) j6 (pv 1) jf (λ_ _=>Z))$ ax _)) (λ_ _ _ _ _=>(pv 0)) (by intro _;rfl)) jo)$ jd (jx (jZ$ pv 2) (jg$ jm$ jw qw (J.e R.m$ ja (jy$ pv 0)$ ja (pv 1) jb)$ J.e R.m$ ja (jy$ pv 0)$ ja (pv 1) jb) jo)$ jd (jx (jZ$ pv 2) (jg$ jm$ jw qw (J.e R.m$ ja (jy$ pv 0)$ ja (jD jb) jb)$ pv 1) jo)$ jd (jx (jZ$ pv 2) (jg$ jm$ jD jb) jo)$ jg$ jm$ pv 1),?_]];let g0:=c.len;cases hs with
 |lf p l vs d B=>
  cases l with
  |rd x t T |st x t T=>
   let⟨rfl,X⟩:=B;erw[(jq d Z #[_,Z,eJ,λl N=>#[l,_,Z,.inr$ aB.of jc,Z,Z,_,Z,bJ LL ?_]])];let S:af H (upd H l$ .tup [.str "set",.str "read",.str "call"]):=je N;erw[#[_,Z,g,Z,#[_,aF.of$ S _ _ c.at'],Jw (λy=>!decide (ti y=ti x)) LN (S _ _ c.at') (λy I Q' hy k C=>?_) (λy I Q' hy C=>#[_,Z,C]) λH' k r j=>?_]]
   .exact#[_,Z,jq (k _ _$ S _ _ d) Z #[Z,_,Z,C _$ af.refl _]]
   .erw[q r _ _ jc (λy=>?_) (MT (O5 ..) LN) ((S.trans k).trans$ je j)];rw[Uy,c.nm.mem y];exact and_congr_right λ_=>by simp
  |wr t u T U=>let⟨rfl,X,hU⟩:=B;erw[(jq d Z #[_,Z,eJ,λl N=>#[l,_,Z,.inr$ aB.of jc,Z,Z,_,Z,aI LL ?_]])];erw[#[_,Z,Z,_,Z,aI LL ?_]];erw[#[_,Z,Z,_,Z,aI LL ?_]];erw[#[_,Z,Z,_,Z,aI LL ?_]];exact#[_,Z,q g G _ (am c.at' N) c.nm.mem LN$ je N]
  |cl x f' q' ts=>
   let⟨rfl,h8,X⟩:=B;erw[(jq d Z #[_,Z,eJ,λl N=>#[l,_,Z,.inr$ aB.of jc,Z,Z,_,Z,bJ LL ?_]])];let S:af H (upd H l$ .tup [.str "set",.str "read",.str "call"]):=je N;erw[#[_,Z,g,Z,#[_,aF.of$ S _ _ c.at'],Jw (λy=>!decide (ti y=ti x)) LN (S _ _ c.at') (λy I Q' hy k C=>?_) (λy I Q' hy C=>#[_,Z,C]) λH' k r j=>?_]]
   .exact#[_,Z,jq (k _ _$ S _ _ d) Z #[Z,_,Z,C _$ af.refl _]]
   .erw[q r _ _ jc (λy=>?_) (MT (O5 ..) LN) ((S.trans k).trans$ je j)];rw[Uy,c.nm.mem y];exact and_congr_right λ_=>by simp
  |gv t T=>let⟨rfl,X⟩:=B;erw[(jq d Z #[_,Z,eJ,λl N=>#[l,_,Z,.inr$ aB.of jc,Z,Z,_,Z,aI LL ?_]])];erw[#[_,Z,Z,_,Z,aI LL ?_]];erw[#[_,Z,Z,_,Z,aI LL ?_]];erw[#[_,Z,Z,_,Z,bJ LL ?_]];exact#[pC,λr j=>q r [] _ jc (λy=>#[λh=>absurd h MO,λh=>(show False from h).elim]) (MH _) ((je N).trans$ je j)]
 |ite p t T a b qa qb as bs d h0 B h3 h4 h5=>erw[(jq d Z #[_,Z,eJ,λl N=>#[l,_,Z,.inr$ aB.of jc,Z,Z,_,Z,aI LL ?_]])];erw[#[_,Z,Z,_,Z,bJ LL ?_]];let S:af H (upd H l$ .tup [.str "set",.str "read",.str "call"]):=je N;let h6:max (max a.dep b.dep+1) 0 < n+1:=hd;let h7:a.size+b.size+0+1<=10000000:=hz;erw[(jq (S _ _ d) Z #[_,Z,qa,g,a,as,G,M,Y,Z,S _ _ B,h4.mono$ af.tm S,(c.same S).nu,W.2.1,LN,LN,λr1 z1 I _ D k1=>?_])];let z:=S.trans k1;erw[(jq (z _ _ d) Z #[_,Z,qb,g,b,bs,G,M,Y,Z,z _ _ h3,h5.mono$ af.tm z,(c.same z).nu,W.2.2.1,LN,LN,λr2 z2 H2 _ n2 k2=>?_])];let l1:=D.len;let l2:=n2.len;let b0:=zV;erw[#[r1,r2,_,_,Z,Z,k2 _ _ D.at',n2.at',by rw[Mv,Mv];omega,λr j=>q r (z1++z2) _ (by rw[jc,M0]) (λy=>?_) (by rw[Mz];omega) ((z.trans k2).trans$ je j)]];rw[OS,D.nm.mem y,n2.nm.mem y];exact Sw
 |loop p t T a qa as d h0 B h3=>erw[(jq d Z #[_,Z,eJ,λl N=>#[l,_,Z,.inr$ aB.of jc,Z,Z,_,Z,aI LL ?_]])];erw[#[_,Z,Z,_,Z,aI LL ?_]];erw[#[_,Z,Z,_,Z,bJ LL ?_]];let S:af H (upd H l$ .tup [.str "set",.str "read",.str "call"]):=je N;let h6:max (a.dep+1) 0 < n+1:=hd;let h7:a.size+0+1<=10000000:=hz;erw[(jq (S _ _ d) Z #[pC,λe ne=>?_])];let z:=S.trans (je (o:=.lst []) ne);erw[#[qa,e,a,as,[],λ_=>False,Y,Z,z _ _ B,h3.mono$ af.tm z,(NL.nu #[jc,Nm.empty,λ_ w=>w.elim,c.y20]),W.2.1,LN,LN,λr1 z1 I _ D k1=>?_]];let l1:=D.len;let s3:=z.trans k1;let b0:=zV;erw[#[_,Z,r1,g,_,_,Z,Z,D.at',s3 _ _ c.at',by rw[Mv,Mv];omega,λr j=>q r (z1++G) _ (by rw[jc,M0]) (λy=>?_) (by rw[Mz];omega) (s3.trans$ je j)]];rw[OS,D.nm.mem y,c.nm.mem y];exact Sw
def DI(h:iA H v s):∀c∈s.own,aR H c.2 c.1:=by
 cases h with
 |lf p l V _ d=>
  cases l with
  |rd x t T |st x t T |gv t T=>intro c hc;rw[ρ.mp hc];exact d.2
  |wr t u T U=>
   intro c hc;rcases Ψ.mp hc with e |hc
   .rw[e];exact d.2.1
   .rw[ρ.mp hc];exact d.2.2
  |cl x f q i=>exact d.2.2
 |ite p t T a b Q j A B _ g _ _ _ _ |loop p t T a Q A _ g _ _=>intro c hc;rw[ρ.mp hc];exact g
def DJ(h:iA H v s)(o:s.Ok y):s.own.length<=100/\∀c∈s.own,dj y c.2:=by
 let O:∀(t:ε) (T:Tm),dj y T->[(t,T)].length<=100/\∀c∈[(t,T)],dj y c.2:=λt T h=>#[by show 1<=100;omega,λc hc=>by rw[ρ.mp hc];exact h];cases h with
 |lf p l V _ g=>
  cases l with
  |rd x t T |st x t T=>exact O t T o.1.2
  |wr t u T U=>
   erw[#[by show 2<=100;omega,λc hc=>?_]];rcases Ψ.mp hc with e |hc
   .rw[e];exact o.1.1
   .rw[ρ.mp hc];exact o.1.2
  |cl x f q i=>exact#[MT o.1.2.1 LO,o.1.2.2]
  |gv t T=>exact O t T o.1
 |ite p t T a b Q j A B _ d _ _ _ _ |loop p t T a Q A _ d _ _=>exact O t T o.1
theorem qu:∀(a b c:Bd),(a.app b).app c=a.app (b.app c)
 | .nil,_,_=>rfl
 | .lf p l r,b,c=>by show Bd.lf p l ((r.app b).app c)=_;rw[qu r b c];rfl
 | .ite p t T x y r,b,c=>by show Bd.ite p t T x y ((r.app b).app c)=_;rw[qu r b c];rfl
 | .loop p t T x r,b,c=>by show Bd.loop p t T x ((r.app b).app c)=_;rw[qu r b c];rfl
theorem q9:∀(a:Bd),a.app .nil=a
 | .nil=>rfl
 | .lf p l r=>by show Bd.lf p l (r.app .nil)=_;rw[q9 r]
 | .ite p t T x y r=>by show Bd.ite p t T x y (r.app .nil)=_;rw[q9 r]
 | .loop p t T x r=>by show Bd.loop p t T x (r.app .nil)=_;rw[q9 r]
inductive OI(v:V)(g r k:ε)(s:Bd)(M:π->Prop)(b:Hp)(i:Nat)(n:_L.St)(a:Hp):Prop
 |mk(l:Option V)(m:List π)(d:n=[δ v,↑g,↑k,l])(e:a k=δ (.lst (m.map ti)))(f:∀y,y∈m↔s.bt M y∨∃c∈s.own.take i,y∈c.2.vars)(h:m.length<=50+21*i)(j:ay k b a)
def wb:ak ["statement","behind","names","term"] z3z (ae Aq):=bQ
def uU{L:Nat}(F:xa K "used_ahead_of" Aq f fd)(cB:‹L+9› fB f0 z3z (ww n) "used_behind_terms")(cO:‹1› fO f2 z5z nj "own_terms")(cN:‹7› fN f3 z1z (dq 6) "names_in")(m0:mg "list"=ζ)(m2:mg "set"=ζ)(m3:mg "sorted"=ζ):⇑(L+10) f fd z3z (hV n):=by
 erw[F.ok wb λc0 A o1 s H vs Q E t h=>?_]
 let⟨v,g,st,ss,M,Y,rfl,j,u,U,hd,hz,q⟩:=h;erw[#[_,(jd (jz 2 wb.nd$ jC JN Z m0 boot_list$ ja (cB.e t.m$ ja (pv 0)$ ja (pv 1) jb) jb)$ jd (kP Ni Z (zp$ cO.e t.m$ ja (pv 0) jb) (ju (i:=3) wb.nd Z$ Δ Z)$ jg$ jT$ zh M4 Sm Sl re (pv 2)$ ja (cN.e t.m$ ja (pv 3) jb) jb)$ jg$ jm$ jF (qF Z) Z m3 SQ$ ja (jC (Jv Z) Z m2 VE$ ja (pv 2) jb) jb),?_]];erw[ah λF1 C=>#[_,Z,_,Z,v,g,st,ss,M,Y,Z,j,u,U,hd,hz,λr1 G H1 e1 m1 l1 k1=>#[r1,_,Z,.inl$ aF.of e1,λN I=>C _ _ ?_]]];clear C;let s2:af H (upd H1 N$ .lst$ G.map ti):=k1.trans (je I);let J:=j.mono (af.tm s2);let⟨o2,O⟩:=DJ j U;let a:upd H1 N (.lst$ G.map ti) N=δ (.lst$ G.map ti):=jc;let h0:H N=ζ:=k1.free I;generalize upd H1 N (.lst$ G.map ti)=H2 at s2 J a;erw[ah λF1 C=>?_];erw[gn λF kF=>#[_,Z,v,st,Z,J,λr H3 t W=>#[r,Z,#[_,aB.of t],kF _ _ ?_]]];clear kF;let r0:r≠N:=jE t (W _ _ a) (by intro z;cases z);let s3:=s2.trans W;let b0:=zV;erw[qU (K:=K) (xs:=st.own.map rT) (OI v g r N st M H3) #[_,G,Z,W _ _ a,λy=>?_,LN,ay.refl] (λi σ H' hi h=>?_) ?_ (λσ H' h=>C _ _ ?_)]
 .rw[m1 y];exact#[.inl,λz=>z.elim (λw=>w) λ#[c,p,_]=>absurd p MO]
 .let⟨_,_,_,_,_,_,k⟩:=h;exact aB.of$ k _ _ r0 t
 .clear C;intro E _ i x σ H4 B fE Gq D h;let⟨o3,X,rfl,h1,R,h3,k4⟩:=h;rw[MK]at B;cases p:st.own[i]? with
  |none=>rw[p]at B;cases B
  |some c=>
   rw[p]at B;cases B;erw[D ?_];clear D;let cm:=ML p;let hi:i < st.own.length:=by
    rcases Rg i st.own.length with z |z
    .exact z
    .rw[NG z]at p;cases p
   let tm:aj H3 H4:=λb xs e=>k4 b _ (jE e (W _ _ a) (by intro z;cases z)) e;show pF _ E [δ v,↑g,↑N,δ$ .ref c.1] H4;erw[#[_,Z,.inl #[Z,_,aF.of h1],_,Z,c.1,c.2,Y,Z,((DI j c cm).mono$ af.tm s3).mono tm,(O c cm).2,(O c cm).1,u.y20,λr5 s5 H5 n5 e5 d5 m5 o5 k5=>?_]];let l5:s5.length<=21:=MT (j9 d5 λx B=>kI (O c cm).1 x ((m5 x).mp B)) u.y20;erw[#[N,r5,_,_,Z,Z,k5 _ _ h1,e5,by rw[Mv,Mv];omega,fE _ _ #[_,X++s5,Z,by rw[jc,M0],λy=>?_,by rw[Mz];omega,λb o nb e=>?_]]]
   .rw[OS,R y,m5 y,Ou,p];erw[#[λz=>z.elim (λz=>z.elim .inl λ#[d,hd,w]=>.inr #[d,Nb _ hd,w]) λw=>.inr #[c,MF _$ ρ.mpr Z,w],λz=>z.elim (λw=>.inl (.inl w)) λ#[d,hd,w]=>?_]];rcases γ.mp hd with hd |hd
    .exact .inl$ .inr #[d,hd,w]
    .let ed:d=c:=ρ.mp hd;rw[ed]at w;exact .inr w
   .rw[ji nb];exact k5 _ _$ k4 b o nb e
 .let⟨o3,X,rfl,h1,R,h3,k4⟩:=h;clear C;rw[Mv]at R h3;let s4:af H H':=λb o e=>k4 b o (jk e h0) (s3 _ _ e);erw[#[_,Z,N,X,Z,aF.of h1,(λL nd j=>N5 (NF$ j9 nd j) (by show X.length+1 < 4096;omega)),λl L S h4 hm=>?_]];let sub:∀y∈L,y∈Y:=λy hy=>Bd.use_in U u.sub y ((wV j M y).mpr (by let:=(R y).mp ((hm y).mp hy);rwa [NC]at this));let lL:=MT (j9 h4 sub) u.y20;erw[#[l,L,Z,jc,LN,λr' s0 T pm nd so=>?_]];erw[q r' s0 _ ((s4.trans$ je S).free T) #[jc,#[pm.nodup_iff.mpr nd,so,λy=>?_],Bd.use_in U u.sub,u.y20] ((s4.trans$ je S).trans$ je T)];rw[pm.mem_iff,hm y,R y,wV j M y,NC]
def none_of(s:af H h)(n:h r=ζ):H r=ζ:=by
 cases z:H r with
 |none=>rfl
 |some o=>have:=s _ _ z;rw[n]at this;cases this
inductive UI(a g:ε)(b:Bd)(p:List V)(M:π->Prop)(q:List π)(H:Hp)(i:Nat)(s:_L.St)(d:Hp):Prop
 |mk(m:ε)(o:Option V)(c n:Bd)(r:List π)(e:s=[↑a,↑g,↑m,o])(f:b=c.app n)(h:de H c (p.take (p.length - i)))(j:NL d m r (n.use M) q)(k:af H d)(l:H m=ζ)
def pe:ak ["body","behind","names","statement"] z18z (ae Ap):=bQ
def DC{L:Nat}(F:xa K "used_ahead" Ap f fd)(cU:‹L+10› fU f0 z3z (hV n) "used_ahead_of")(J:mg "sorted"=ζ)(N:mg "reversed"=ζ):⇑(L+11) f fd z18z (i7$ n+1):=by
 erw[F.ok pe λc0 A O s H vs Q E hr h=>?_]
 let⟨a,g,b,xs,R,M,Y,rfl,ha,hb,d,ho,hd,hz,q⟩:=h;erw[#[_,(jd (jz 2 pe.nd$ jF XS Z J SQ$ ja (pv 1) jb)$ jd (kP Ni Z (@vg _ _ _ _ _ _ _ Z N TM (pv 0) LO LO LK LK) (ju (i:=3) pe.nd Z$ Δ Z)$ jg$ jz 2 pe.nd$ cU.e hr.m$ ja (pv 3)$ ja (pv 2) jb)$ jg$ jm$ pv 2),?_]];let g0:R.length<=21:=MT (j9 d.nd λx o=>d.sub x ((d.mem x).mp o)) d.y20;let b0:=aJ;erw[ah λF1 t=>#[_,Z,g,R,Z,aF.of d.at',LN,λl c nl pm so=>t _ _ ?_]];clear t;let T:Nm c M:=#[pm.nodup_iff.mpr d.nd,so,λx=>pm.mem_iff.trans (d.mem x)];let U:af H (upd H l$ .lst$ c.map ti):=je nl;let u:NL (upd H l$ .lst$ c.map ti) l c M Y:=#[jc,T,d.sub,d.y20];generalize upd H l (.lst$ c.map ti)=H1 at U u;let xl:=hb.len;erw[ah λF1 t=>?_];erw[gn λF kF=>#[_,Z,a,xs,Z,aB.of$ U _ _ ha,kF _ _ ?_]];clear kF;erw[Yb (K:=K) (xs:=xs) (UI a g b xs M Y H) #[l,_,b,.nil,c,Z,(q9 b).symm,by rw[RQ,NC];exact hb,u,U,nl] (λi σ H' hi h=>?_) ?_ (λσ H' h=>t _ _ ?_)]
 .let⟨_,_,_,_,_,_,_,_,_,k,_⟩:=h;exact aB.of$ k _ _ ha
 .clear t;intro E _ i x σ H2 o fE Gq p h;let⟨I,o3,pre,gu,W,rfl,j,y,X,B,n2⟩:=h;let hi:i < xs.length:=by
   rcases Rg i xs.length with z |z
   .exact z
   .rw[NG (by simpa using z)]at o;cases o
  rw[OH hi]at o;let et:xs.take (xs.length - i)=xs.take (xs.length - (i+1))++[x]:=by
   let C:xs.length - i=(xs.length - 1 - i)+1:=by omega
   let e2:xs.length - (i+1)=xs.length - 1 - i:=by omega
   rw[C,e2,Ou,o];rfl
  rw[et]at y;rcases y.last with ⟨e,_⟩ | ⟨ws,v,D,S,C,e2,h4,h5⟩
  .exact absurd e LM
  let⟨ew,ev⟩:=Uk C Z;cases ev;subst e2;let h0:=qh (j▸ho);let G:=qh h0.1;let a1:b.dep=max (D.app S).dep gu.dep:=by rw[j,zL]
  let a2:(D.app S).dep=max D.dep S.dep:=zL ..;let h6:S.dep<=b.dep:=by rw[a1,a2];exact MT (Uv ..)$ UE ..
  clear a1 a2;let h7:S.size<=b.size:=by rw[j,jX,jX];omega
  erw[p ?_];clear p;show dy _ _ E [↑a,↑g,↑I,δ x] H2;erw[#[_,Z,_,Z,x,I,S,W,gu.use M,Y,Z,h5.mono$ af.tm B,X,G.2,LN,LN,λr z H3 nr n3 k3=>fE _ _ #[r,_,D,S.app gu,z,Z,by rw[j,qu],?_,by rw[Ku];exact n3,B.trans k3,none_of B nr]]];rw[ew];exact h4
 .let⟨I,o3,pre,gu,W,rfl,j,y,X,B,n2⟩:=h;rw[Pn]at y;let ep:pre= .nil:=by
   rcases y.last with ⟨_,e⟩ | ⟨ws,v,D,S,C,_⟩
   .exact e
   .exact absurd C LM
  rw[ep]at j;erw[#[_,Z,q I W H' n2 ?_ B]];rw[j];exact X
def Dn:⇑k f e z18z (i7 0):=by
 let n:∀v H Q E,¬i7 0 v H Q E:=λv H Q E h=>by let⟨a,g,b,x,S,M,y,_,_,_,_,_,d,_⟩:=h;exact absurd d$ OU _
 exact#[λv H Q E h=>absurd h (n v H Q E),λA o s H c u v Q E _ _ _ _ h=>absurd h (n v H Q E)]
theorem Hu(F:xa K "used_ahead" Ap f e)(FB:xa K "used_behind_terms" vP r g)(d:xa K "used_ahead_of" Aq o b)
  (B:au K e z18z []) (i:mg "used_ahead"=↑f) (j:au K g z3z []) (k:mg "used_behind_terms"=↑r) (p:au K b z3z []) (q:mg "used_ahead_of"=↑o) (C:‹1› u s z5z nj "own_terms") (l:‹7› v t z1z (dq 6) "names_in") (M:mg "list"=ζ) (a:mg "set"=ζ) (m:mg "sorted"=ζ) (c:mg "reversed"=ζ):
  ∀n:Nat,⇑(3*n+8) f e z18z (i7 n)/\⇑(3*n+10) o b z3z (hV n)
 |0=>by let h:⇑8 f e z18z (i7 0):=Dn;let H:=uT (L:=8) (n:=0) FB #[h,B,F.kp,i];exact#[h,uU (L:=0) d #[H,j,FB.kp,k] C l M a m]
 |n+1=>by
  let I:=(Hu F FB d B i j k p q C l M a m c n).2;let h:=DC (L:=3*n) F #[I,p,d.kp,q] m c;let E:3*n+11=3*(n+1)+8:=by omega
  rw[E]at h;let H:=uT (L:=3*(n+1)+8) (n:=n+1) FB #[h,B,F.kp,i];exact#[h,uU (L:=3*(n+1)) d #[H,j,FB.kp,k] C l M a m]
abbrev DW:da:=top 40
abbrev vG:da:=top 43
abbrev vC:da:=top 44
abbrev l9:da:=top 45
abbrev vI:da:=top 46
def Lf.cut:Lf->Nat
 | .st _ _ _ | .gv _ _=>0
 |_=>1
def Bd.cuts:Bd->Nat
 | .nil=>0
 | .lf _ l r=>l.cut+r.cuts
 | .ite _ _ _ a b r=>1+a.cuts+b.cuts+r.cuts
 | .loop _ _ _ a r=>1+a.cuts+r.cuts
def Bd.inn:Bd->Bd
 | .ite _ _ _ a b _=>a.app b
 | .loop _ _ _ a _=>a
 |_=>.nil
theorem qr:∀(a b:Bd),(a.app b).cuts=a.cuts+b.cuts
 | .nil,b=>by show b.cuts=0+b.cuts;omega
 | .lf _ l r,b=>by let:=qr r b;show l.cut+(r.app b).cuts=l.cut+r.cuts+b.cuts;omega
 | .ite _ _ _ x y r,b=>by let:=qr r b;show 1+x.cuts+y.cuts+(r.app b).cuts=1+x.cuts+y.cuts+r.cuts+b.cuts;omega
 | .loop _ _ _ x r,b=>by let:=qr r b;show 1+x.cuts+(r.app b).cuts=1+x.cuts+r.cuts+b.cuts;omega
inductive mW(b:List V)(H:Hp)(Q:VK)(a:XK):Prop
 |mk(v:V)(s:Bd)(_:b=[v])(_:iA H v s)(_:s.size<=10000000)(_:∀(r:ε) (xs:List V) (H':Hp),H' r=δ (.tup xs)->de H' s.inn xs->af H H'->Q (.ref r) H')
inductive ij(d:List V)(H:Hp)(Q:VK)(c:XK):Prop
 |mk(a:ε)(b:Bd)(e:List V)(_:d=[.ref a])(_:H a=δ (.tup e))(_:de H b e)(_:b.size<=10000000)(_:∀H',af H H'->Q (.int (b.cuts:Int)) H')
def GY:ak z5z z5z (ae DW):=bQ
def Dr(F:xa K "bodies_in" DW f y):⇑1 f y z5z mW:=by
 erw[F.ok GY λC A o s H V Q E j h=>?_]
 let⟨v,st,rfl,z,B,q⟩:=h;erw[#[_,(jd (jx (jZ$ jy$ pv 0) (jg$ jm$ jw zb (jy$ pv 0)$ jy$ pv 0) jo)$ jd (jx (jZ$ jy$ pv 0) (jg$ jm$ jy$ pv 0) jo)$ jg$ jm$ jh jb),?_]];let D:=aJ;cases z with
 |lf p l V c d=>
  cases l with
  |rd x t T |st x t T |wr t u T U |cl x f R S |gv t T=>let⟨rfl,_⟩:=d;erw[(jq c Z #[Z,_,Z,aI LL ?_])];erw[(jq c Z #[Z,_,Z,aI LL ?_])];exact#[pC,λr N=>q r [] _ jc Z (je N)]
 |ite p t T a b e G g I c J d i m n=>erw[(jq c Z #[Z,_,Z,bJ LL ?_])];let L:a.size+b.size+0+1<=10000000:=B;let W:=m.len;let X:=n.len;exact(jq c Z$ jq c Z #[e,G,g,I,Z,Z,d,i,LN,λr M j s=>q r _ M j ((n.mono$ af.tm s).app$ m.mono$ af.tm s) s])
 |loop p t T a e g c J d i=>erw[(jq c Z #[Z,_,Z,aI LL ?_])];erw[(jq c Z #[Z,_,Z,bJ LL ?_])];exact(jq c Z$ q e g H d i$ af.refl H)
def AS(h:iA H v s):s.inn.size < s.size/\∃(p:ε) (w:π) (r:List V),v= .ref p/\H p=δ (.tup (.str w::r))/\s.cuts=(if iK (.str w) [.str "set",.str "give"]=ν then 0 else 1)+s.inn.cuts:=by
 cases h with
 |lf p l i c d=>
  erw[#[Nat.zero_lt_succ _,?_]];cases l with
  |rd x t T |wr t u T U |cl x f Q j=>let⟨rfl,_⟩:=d;exact#[p,_,_,Z,c,by rw[MS LL];rfl]
  |st x t T |gv t T=>let⟨rfl,_⟩:=d;exact#[p,_,_,Z,c,by rw[MQ LL];rfl]
 |ite p t T a b q k A B c e d g m n=>erw[#[by show(a.app b).size < a.size+b.size+0+1;rw[jX];omega,p,_,_,Z,c,?_]];rw[MS LL];show 1+a.cuts+b.cuts+0=1+(a.app b).cuts;rw[qr];omega
 |loop p t T a q A c e d g=>erw[#[by show a.size < a.size+0+1;omega,p,_,_,Z,c,?_]];rw[MS LL];show 1+a.cuts+0=1+a.cuts;omega
def io:dM (v::y) 0=δ v:=jP (j:=0) Z
inductive MI(a n:ε)(b:Bd)(H:Hp)(m:Nat)(p:_L.St)(c:Hp):Prop
 |mk(l:Option V)(W:Bd)(o:List V)(k:Nat)(d:m=W.size)(e:p=[↑a,δ (.int (k:Int)),↑n,l])(f:c n=δ (.lst o))(g:de c W o)(h:k+W.cuts=b.cuts)(i:W.size<=10000000)(j:ay n H c)
def iQ:ak ["body","many","todo","statement"] ["body"] (ae vG):=bQ
def yJ(F:xa K "many_cuts" vG f fd)(cB:‹1› fB f0 z5z mW "bodies_in")(m0:mg "list"=ζ):⇑2 f fd ["body"] ij:=by
 erw[F.ok iQ λc0 A o1 s H vs Q E hr h=>?_]
 let⟨a,b,xs,rfl,ha,hb,hz,q⟩:=h;erw[#[_,(jd (jz 1 iQ.nd jf)$ jd (jz 2 iQ.nd$ jC JN Z m0 boot_list$ ja (pv 0) jb)$ jd (K8 Ni (@vm _ _ _ (pv 2) (λ_=>Z))$ jd (jz 3 iQ.nd$ DN M4 PySem.F.slot_list_pop PySem.F.type_list_pop Dh$ pv 2)$ jd (j5$ jx (jB qC (jy$ pv 3) (jh$ ja jj$ ja jj jb) Z) (jg$ DQ (i:=1) iQ.nd Z (Δ Z) jf C2) jo)$ jg$ jT$ zh M4 Sm Sl Y9 (pv 2)$ ja (cB.e hr.m$ ja (pv 3) jb) jb)$ jg$ jm$ pv 1),?_]];let b0:=aJ;erw[ah λU d=>d _ _ ?_];clear d;erw[ah λU d=>#[_,Z,a,_,Z,.inr$ aB.of ha,λt C=>d _ _ ?_]];clear d;let s0:af H (upd H t$ .lst xs):=je C;erw[ah λU d=>?_];erw[oC (MI a t b H) b.size #[_,b,xs,0,Z,Z,jc,hb.mono$ af.tm s0,LN,hz,λc o N e=>s0 _ _ e] ?_];intro m σ D E _ fE F X Y Gq y h;let⟨o3,W,zs,k,rfl,rfl,x,h2,h3,h4,h5⟩:=h;erw[y #[_,Z,!zs.isEmpty,.inl #[zs,aF.of x,Z],?_]];clear y;rcases h2.last with ⟨e1,e2⟩ | ⟨g,v,B,n,e1,e2,g1,g2⟩
 .rw[e1];erw[Y _$ d _ _ #[_,Z,?_]];rw[e2]at h3;let e3:k=b.cuts:=by let:k+0=b.cuts:=h3;omega
  rw[e3];exact q _ λc o e=>h5 c o (jk e C) e
 .rw[e1];let ne:(!(g++[v]).isEmpty)=ν:=by cases g<;>rfl
  rw[ne];erw[X _ ?_];clear Y X d;let h6:W.size=B.size+n.size:=by rw[e2,jX]
  let h7:W.cuts=B.cuts+n.cuts:=by rw[e2,qr]
  let⟨h8,p,w',r,rfl,hp,hc⟩:=AS g2;rw[e1]at x;erw[ah λU d=>#[_,Z,.inl #[Z,_,aF.of x],t,_,.ref p,Z,Z,x,LM,d _ _ ?_]];clear d;rw[List.dropLast_concat];let T:aj D (upd D t$ .lst g):=λc ys e=>by rw[ji$ jE e x (by intro z;cases z)];exact e
  let t2:upd D t (.lst g) t=δ (.lst g):=jc;let u:=g1.mono T;let I:=g2.mono T;let J:=T _ _ hp;let k2:ay t H (upd D t$ .lst g):=λc o N e=>by rw[ji N];exact h5 c o N e
  generalize upd D t (.lst g)=H2 at t2 u I J k2;clear T x h2 h5 g1 g2 hp;let R:∀(j:Nat) (H3:Hp),af H2 H3->j+B.cuts+n.inn.cuts=b.cuts->pF (IP K "list" (iM K) (a5 2)$ al (dR mW [] E0$ al (a5 3) aK) aK) E [↑a,δ$ .int (j:Int),↑t,↑p] H3:=λj H3 L hk=>by
   let g0:=I.mono (af.tm L);erw[#[_,Z,.inl #[Z,_,aF.of$ L _ _ t2],_,Z,.ref p,n,Z,g0,LN,λr' ys H4 h0 hy s4=>?_]];let S:=L.trans s4;let l1:=u.len;let l2:=hy.len;erw[#[t,r',g,ys,Z,Z,S _ _ t2,aB.of h0,LN,fE (B.app n.inn).size _ _ (by rw[jX];omega) #[_,B.app n.inn,g++ys,j,Z,Z,jc,?_,by rw[qr];omega,by rw[jX];omega,λc o N e=>?_]]]
   .let M:aj H4 (upd H4 t$ .lst$ g++ys):=λc z0 e=>by rw[ji$ jE e (S _ _ t2) (by intro z;cases z)];exact e
    exact(hy.mono M).app ((u.mono$ af.tm S).mono M)
   .rw[ji N];exact S _ _$ k2 c o N e
  erw[ah λU d=>dN (λO H'=>∃j:Nat,O=[↑a,δ$ .int (j:Int),↑t,↑p]/\af H2 H'/\j+B.cuts+n.inn.cuts=b.cuts) (λE2 _ fm=>?_) λO H' h=>?_]
  .clear d fE;erw[oJ λG X Y=>(jq J io #[bg,λl nl=>#[l,_,Z,.inr$ aB.of jc,Z,Z,_,Z,?_]])];cases hv:iK (.str w') [.str "set",.str "give"] with
   |true=>rw[hv,MQ Z]at hc;exact Y _$ fm _ _ #[k,Z,je nl,LN]
   |false=>rw[hv,MS MJ]at hc;erw[X _ #[_,Z,_,_,Z,Z,fm _ _ #[k+1,?_,je nl,LN]]];show [_,δ$ tT ((k:Int)+1),_,_]=[_,δ$ tT ((k+1:Nat):Int),_,_];rfl
  .let⟨j,rfl,L,hk⟩:=h;exact d _ _$ R j H' L hk
inductive HG where
 |go (n:Int) |give (t:ε)
structure Wy where
 sets:List (π×ε)
 goal:HG
inductive Dd where
 |st (p:ε) |ask (t:ε)
structure Ct where
 M:π->Prop
 d:Dd
 ws:List Wy
structure Pc where
 M:π->Prop
 w:Wy
def bh(H:Hp):Tr->V->List V->Prop
 | .lf v,x,_=>x=v/\Ls v=ν
 | .tp l,x,_=>l.isL=ν/\∃a X,x= .ref a/\H a=δ (.tup X)/\bh H l .non X
 | .nil,_,X=>X=[]
 | .cons h t,_,X=>h.isL=μ/\t.isL=ν/\∃y Y,X=y::Y/\bh H h y []/\bh H t .non Y
def bh.mono(k:aj H d):∀{t:Tr} {x:V} {X:List V},bh H t x X->bh d t x X:=by
 intro t;induction t with
 |lf v |nil=>exactλh=>h
 |tp l f=>rintro x X ⟨h,a,Y,e,b,c⟩;exact#[h,a,Y,e,k _ _ b,f c]
 |cons h t i I=>rintro x X ⟨E,g,y,Y,e,b,c⟩;exact#[E,g,y,Y,e,i b,I c]
def aU:List Tr->Tr
 | []=>.nil
 |t::T=>.cons t (aU T)
def Xl:∀t:List Tr,(aU t).isL=ν
 | [] |_::_=>rfl
def cp(t:List Tr):Tr:=.tp (aU t)
def dt(x:π):Tr:=.lf (.str x)
def rS(a:ε):Tr:=.lf (.ref a)
def dH(n:Int):Tr:=.lf (.int n)
section
variable {H:Hp}
def jJ:bh H (aU []) .non []:=rfl
def jv{t:Tr}(h:t.isL=μ)(a:bh H t y [])(b:bh H (aU T) .non Y):bh H (aU (t::T)) .non (y::Y):=#[h,Xl T,y,Y,Z,a,b]
def jN(h:H a=δ (.tup x))(b:bh H (aU t) .non x):bh H (cp t) (.ref a) []:=#[Xl t,a,x,Z,h,b]
def zf:bh H (dt x) (.str x) []:=#[Z,Z]
def JV:bh H (rS a) (.ref a) []:=#[Z,Z]
def Jo:bh H (dH n) (.int n) []:=#[Z,Z]
theorem Kv(a:bh H (aU s) .non Y):∀{T:List Tr} {x:List V},bh H (aU T) .non x->bh H (aU$ T++s) .non (x++Y)
 | [],x,h=>by let e:x=[]:=h;rw[e];exact a
 |t::T,x,h=>by let⟨E,_,y,z,e,b,c⟩:=h;rw[e];exact jv E b (Kv a c)
theorem zM:∀{T:List Tr} {x:List V},bh H (aU T) .non x->x.length=T.length
 | [],x,h=>by let e:x=[]:=h;rw[e];rfl
 |t::T,x,h=>by let⟨_,_,y,z,e,_,a⟩:=h;rw[e,MZ,MZ,zM a]
theorem Ye:∀(S:List π),bh H (aU$ S.map dt) .non (S.map ti)
 | []=>rfl
 |s::S=>jv Z zf (Ye S)
theorem ZL:∀{T:List Tr} {x:List V},bh H (aU T) .non x->bh H (aU T.reverse) .non x.reverse
 | [],x,h=>by let e:x=[]:=h;rw[e];rfl
 |t::T,x,h=>by let⟨E,_,y,z,e,a,b⟩:=h;rw[e,Pu,Pu];exact Kv (jv E a jJ)$ ZL b
theorem JW:∀{T:List Tr} {X:List V},bh H (aU T) .non X->∀(i:Nat) (x:V),X[i]?=δ x->∃t,T[i]?=δ t/\bh H t x []
 | [],X,h,i,x,a=>by let e:X=[]:=h;rw[e]at a;simp at a
 |t::T,X,h,0,x,a=>by let⟨_,_,y,z,e,b,c⟩:=h;rw[e]at a;cases a;exact#[t,Z,b]
 |t::T,X,h,i+1,x,a=>by let⟨_,_,y,z,e,b,c⟩:=h;rw[e]at a;simpa using JW c i x (by simpa using a)
end
def Hc(s:π×ε):Tr:=cp [dt s.1,rS s.2]
def yi:HG->Tr
 | .go n=>cp [dt "go",dH n]
 | .give t=>cp [dt "give",rS t]
def iz(w:Wy):Tr:=cp [cp$ w.sets.map Hc,yi w.goal]
def HQ:Dd->Tr
 | .st p=>rS p
 | .ask t=>cp [dt "ask",rS t]
def Fh(c:Ct):Tr:=cp [cp ((canon c.M).map dt),HQ c.d,cp$ c.ws.map iz]
def CZ(g:HG):(yi g).isL=μ:=by cases g<;>rfl
def Fj(d:Dd):(HQ d).isL=μ:=by cases d<;>rfl
def nH(H:Hp)(p:Pc)(v:V)(g:ε)(y:List π):Prop:=∃(r:ε) (s:List π) (W:V),v= .ref r/\H r=δ (.tup [.ref g,W])/\NL H g s p.M y/\bh H (iz p.w) W []
def nH.same(h:nH H p v g y)(s:af H a):nH a p v g y:=by let⟨r,S,W,e,b,c,d⟩:=h;exact#[r,S,W,e,s _ _ b,c.same s,d.mono$ af.tm s]
def nH.but(h:nH H p v g y)(k:ay f H c)(d:H f=δ (.lst C))(n:g≠f):nH c p v g y:=by let⟨r,s,W,e,i,a,j⟩:=h;let t:aj H c:=λb x e=>k b _ (jE e d (by intro z;cases z)) e;exact#[r,s,W,e,t _ _ i,#[k _ _ n a.at',a.nm,a.sub,a.y20],j.mono t]
def Lf.isCut:Lf->Bool
 | .st _ _ _ | .gv _ _=>μ
 |_=>ν
def Bd.deed:Bd->Dd
 | .lf p _ _=>.st p
 | .ite _ t _ _ _ _ | .loop _ t _ _ _=>.ask t
 | .nil=>.st 0
inductive iV(b:List V)(H:Hp)(Q:VK)(a:XK):Prop
 |mk(v:V)(s:Bd)(_:b=[v])(_:iA H v s)(_:∀(d:V) (H':Hp),bh H' (HQ s.deed) d []->af H H'->Q d H')
inductive hG(b:List V)(H:Hp)(Q:VK)(a:XK):Prop
 |mk(t:ε)(T:Tm)(c:List π)(_:b=[.ref t])(_:aR H T t)(_:dj c T)(_:c.length<=21)(_:∀(v:V) (g:ε) (H':Hp),nH H' #[λx=>x∈T.vars,#[[],.give t]] v g c->H g=ζ->af H H'->Q v H')
inductive pp(K:Ω)(c:List V)(H:Hp)(Q:VK)(b:XK):Prop
 |mk(a:ε)(_:c=[.ref a])(_:aB K H a [.str "num",.int 0])(_:∀(r:ε),H r=ζ->Q (.ref r) (upd H r (.lst [])))
inductive pq(K:Ω)(b:List V)(H:Hp)(Q:VK)(a:XK):Prop
 |mk(t:ε)(c:List π)(_:b=[.ref t])(_:aB K H t [.str "num",.int 0])(_:c.length<=21)(_:∀(v:V) (g:ε) (H':Hp),nH H' #[λx=>x∈(Tm.num 0).vars,#[[],.give t]] v g c->H g=ζ->af H H'->Q v H')
open Classical in
def gX(x:π)(t:ε)(p:Pc):Wy:=if p.M x then #[(x,t)::p.w.sets,p.w.goal] else p.w
inductive iZ(d:List V)(H:Hp)(Q:VK)(a:XK):Prop
 |mk(v b:V)(p t:ε)(x:π)(T:Tm)(c:Pc)(g:ε)(e:List π)(_:d=[v,b])(_:iA H v (.lf p (.st x t T) .nil))(_:nH H c b g e)(_:x∈e)(_:dj e T)(_:c.w.sets.length<=10000000)(_:∀(v':V) (g':ε) (H':Hp),nH H' #[(Lf.st x t T).use c.M,gX x t c] v' g' e->H g'=ζ->af H H'->Q v' H')
def D5:ak z5z z5z (ae vC):=bQ
def yH(F:xa K "deed_of" vC f e):⇑1 f e z5z iV:=by
 erw[F.ok D5 λC A o s H V Q E z h=>?_]
 let⟨v,st,rfl,g,q⟩:=h;erw[#[_,(jd (jx (jB zO (jy$ pv 0) (jh$ ja jj$ ja jj jb) Z) (jg$ jm$ jh$ ja jj$ ja (jy$ pv 0) jb) jo)$ jg$ jm$ pv 0),?_]];cases g with
 |lf p l V c d=>
  cases l with
  |rd x t T |st x t T |wr t u T U |cl x f B D |gv t T=>let⟨rfl,_⟩:=d;erw[(jq c Z #[bg,λl n=>#[l,_,Z,.inr$ aB.of jc,Z,Z,_,Z,aI LL ?_]])];exact#[_,Z,q _ _ JV$ je n]
 |ite p t T a b i I j J c m d y L M |loop p t T a i j c m d y=>erw[(jq c Z #[bg,λl n=>#[l,_,Z,.inr$ aB.of jc,Z,Z,_,Z,bJ LL ?_]])];erw[(jq (am c n) Z #[bg,λr N=>?_])];exact q _ _ (jN jc$ jv Z zf$ jv Z JV jJ) ((je n).trans$ je N)
def Dx{fN:ε}{fdN:Φ}(F:xa K "names_in" eV f b)(c:‹n+1› f b z1z (dq n) "names_in")(m:mg "set"=ζ)(M:mg "sorted"=ζ):⇑(n+2) f b z1z (pp K):=by
 erw[F.ok vX (λC A o s H v Q E d h=>?_)]
 let⟨a,rfl,g,q⟩:=h;erw[#[_,(jd (jx (jZ$ jy$ pv 0) (jg$ jm$ jD jb) jo)$ jd (jx (jZ$ jy$ pv 0) (jg$ jm$ jD$ ja (jy$ pv 0) jb) jo)$ jg$ jm$ jF (qF Z) Z M SQ$ ja (jC (Jv Z) Z m VE$ ja (jw qw (c.e d$ ja (jy$ pv 0) jb)$ c.e d$ ja (jy$ pv 0) jb) jb) jb),?_]];erw[#[_,Z,a,_,_,_,Z,Z,g,Z,Z,_,Z,bJ LL ?_]];exact#[pC,λr N=>q r N]
def o0:ak z1z z1z (ae l9):=bQ
def uQ(F:xa K "place_of_give" l9 f d)(C:‹7› U i z1z (dq 6) "names_in"):⇑8 f d z1z hG:=by
 erw[F.ok o0 λj A o s H V Q E l h=>?_]
 let⟨t,T,y,rfl,p,O,b,q⟩:=h;erw[#[_,(jg$ jm$ jh$ ja (C.e l.m$ ja (pv 0) jb)$ ja (jh$ ja (jh jb)$ ja (jh$ ja jj$ ja (pv 0) jb) jb) jb),?_]];erw[#[_,Z,t,T,y,Z,p,O.2,O.1,b,λg v a z B D M G I=>?_]];let J:NL a g v (λx=>x∈T.vars) y:=#[B,#[D,G,M],kI O.1,b];erw[#[pC,λe L=>#[_,Z,bg,λu c=>#[bg,λx N=>#[bg,λr n=>?_]]]]];let S:af a (upd (upd (upd (upd a e$ .tup []) u$ .tup [.str "give",.ref t]) x$ .tup [.ref e,.ref u]) r$ .tup [.ref g,.ref x]):=(((je L).trans$ je c).trans$ je N).trans (je n);erw[q _ g _ #[r,_,.ref x,Z,jc,J.same S,?_] z (I.trans S)];exact jN (am jc n)$ jv Z (jN (am (am (am jc c) N) n) jJ)$ jv Z (jN (am (am jc N) n)$ jv Z zf$ jv Z JV jJ) jJ
def DA(F:xa K "place_of_give" l9 f j)(C:‹7› G l z1z (pp K) "names_in"):⇑8 f j z1z (pq K):=by
 erw[F.ok o0 λp A o s H V Q E v h=>?_]
 let⟨t,y,rfl,z,B,q⟩:=h;erw[#[_,(jg$ jm$ jh$ ja (C.e v.m$ ja (pv 0) jb)$ ja (jh$ ja (jh jb)$ ja (jh$ ja jj$ ja (pv 0) jb) jb) jb),?_]];erw[#[_,Z,t,Z,z,λg a=>?_]];let b:af H (upd H g$ .lst []):=je a;let c:NL (upd H g$ .lst []) g [] (λx=>x∈(Tm.num 0).vars) y:=#[jc,#[Rr,Z,λx=>Sw],λx h=>absurd h MO,B];generalize upd H g (.lst [])=d at b c;erw[#[pC,λe D=>#[_,Z,bg,λu i=>#[bg,λx N=>#[bg,λr n=>?_]]]]];let S:af d (upd (upd (upd (upd d e$ .tup []) u$ .tup [.str "give",.ref t]) x$ .tup [.ref e,.ref u]) r$ .tup [.ref g,.ref x]):=(((je D).trans$ je i).trans$ je N).trans (je n);erw[q _ g _ #[r,_,.ref x,Z,jc,c.same S,?_] a (b.trans S)];exact jN (am jc n)$ jv Z (jN (am (am (am jc i) N) n) jJ)$ jv Z (jN (am (am jc N) n)$ jv Z zf$ jv Z JV jJ) jJ
def yj{Y:List π}:iK (.str x) (Y.map ti)=decide (x∈Y):=by
 by_cases h:x∈Y
 .rw[Ng h];unfold iK;rw[Ul];exact#[.str x,bS.mpr #[x,h,Z],by simp [lr]]
 .rw[MY h];unfold iK;rw[kc];intro z;rw[Ul]at z;let⟨v,a,e⟩:=z;let⟨y,H,rfl⟩:=bS.mp a;let E:x=y∨y=x:=by
   first
    |exact .inl (by simpa [lr] using e)
    |exact .inr (by simpa [lr] using e)
  rcases E with rfl |rfl
  .exact h H
  .exact h H
def EC{H:Hp}{w:Wy}{v:V}(h:bh H (iz w) v []):∃(W s:ε) (S:List V) (y:V),v= .ref W/\H W=δ (.tup [.ref s,y])/\H s=δ (.tup S)/\bh H (aU$ w.sets.map Hc) .non S/\bh H (yi w.goal) y []:=by obtain⟨_,W,x,rfl,a,_,_,l,b,e,⟨_,s,S,c,d,f⟩,_,_,g,Y,E,i,j⟩:=h;let k:Y=[]:=j;rw[k]at E;rw[E]at e;rw[e,c]at a;exact#[W,s,S,g,Z,a,d,f,i]
def om:ak ["statement","behind","way"] z3z (ae vI):=bQ
def yN(F:xa K "place_of_set" vI f fd)(cU:‹10› fU f0 z3z (hV 0) "used_ahead_of"):⇑11 f fd z3z iZ:=by
 erw[F.ok om λc0 A O s H vs Q E hr h=>?_]
 let⟨v,bv,p,t,x,T,C,g,Y,rfl,X,hp,hx,ok,hl,q⟩:=h;erw[#[_,(jd (jz 2 om.nd$ jy$ pv 1)$ jd (j5$ jx (jB zO (jy$ pv 0) (jy$ pv 1) Z) (jg$ jz 2 om.nd$ jh$ ja (jw zb (jh$ ja (jK qx (pv 0) (jI jf) ki) jb)$ jy$ pv 2)$ ja (jy$ pv 2) jb) jo)$ jg$ jm$ jh$ ja (cU.e hr.m$ ja (pv 0)$ ja (jy$ pv 1) jb)$ ja (pv 2) jb),?_]];let b0:=aJ;let⟨r,ss,wv,rfl,b,B,hW⟩:=hp;let h0:=X;cases X with
 |lf _ _ vs h1 h2=>
  let⟨rfl,hT⟩:=h2;let⟨wa,sa,sx,y,rfl,i,D,j,hy⟩:=EC hW;erw[ah λF1 d=>(jq b Z$ d _ _ ?_)];clear d;let sl:=zM j;rw[Mv]at sl;erw[ah λF1 d=>dN (λl I=>∃W:V,l=[↑p,↑r,δ W]/\bh I (iz$ gX x t C) W []/\af H I) (λE2 _ fm=>?_) λl I h=>?_]
  .clear d;erw[oJ λG kT kF=>(jq h1 Z$ jq b Z #[g,_,Z,.inl$ aF.of B.at',Z,qt _,_,Z,?_])];rw[yj];by_cases a:x∈ss
   .rw[Ng a];erw[kT _ #[_,Z,_,Z,p,_,Z,h1,λs1 H1 J k1=>#[fg,λu nu=>?_]]];let L:=k1.trans (je (o:=.tup [.ref s1]) nu);erw[(jq (L _ _ i) Z #[u,sa,_,_,Z,Z,jc,L _ _ D,by show 1+sx.length<=_;omega,λc H2 hc z=>?_])];let R:=L.trans z;erw[(jq (R _ _ i) Z #[bg,λnw n=>fm _ _ #[.ref nw,Z,?_,R.trans$ je n]])];let tm:=af.tm (R.trans$ je (o:=.tup [.ref c,y]) n);unfold gX;rw[MQ ((B.nm.mem x).mp a)];erw[jN jc$ jv Z (jN (am hc n)$ jv Z ?_$ j.mono tm)$ jv (CZ _) (hy.mono tm) jJ];exact jN (am (z _ _$ am J nu) n)$ jv Z zf$ jv Z JV jJ
   .rw[MY a];erw[kF _$ fm _ _ #[_,Z,?_,af.refl _]];unfold gX;rw[MS λw=>a ((B.nm.mem x).mpr w)];exact hW
  .let⟨W,rfl,S,k⟩:=h;erw[d _ _ ?_];clear d;erw[#[_,Z,jq (k _ _ b) Z #[.ref p,g,.lf p (.st x t T) .nil,ss,C.M,Y,Z,h0.mono$ af.tm k,B.same k,#[#[hx,ok],trivial],(by show 0 < 1;decide),(by show 0+1<=10000000;decide),λg' zs H3 n3 N3 z=>?_]]];erw[#[_,Z,bg,λr' N=>q _ g' _ #[r',zs,W,Z,jc,N3.same$ je N,S.mono$ af.tm$ z.trans$ je N] (k.free n3) ((k.trans z).trans$ je N)]]
abbrev Ak:da:=bP (top 47) 1
abbrev Ao:da:=bP (top 47) 2
abbrev Al:da:=bP (top 47) 3
abbrev Ar:da:=bP (top 47) 4
abbrev vF:da:=bP (top 47) 0
def pL(m:Int)(p:ε)(l:Lf)(q:Pc×List Ct):Pc×List Ct:=match l with
 | .gv t T=>(#[λx=>x∈T.vars,#[[],.give t]],q.2)
 | .st x t T=>(#[(Lf.st x t T).use q.1.M,gX x t q.1],q.2)
 | .rd x t T=>(#[(Lf.rd x t T).use q.1.M,#[[],.go (m - (q.2.length:Int) - 1)]],q.2++[#[(Lf.rd x t T).use q.1.M,.st p,[q.1.w]]])
 | .wr t u T U=>(#[(Lf.wr t u T U).use q.1.M,#[[],.go (m - (q.2.length:Int) - 1)]],q.2++[#[(Lf.wr t u T U).use q.1.M,.st p,[q.1.w]]])
 | .cl x f a b=>(#[(Lf.cl x f a b).use q.1.M,#[[],.go (m - (q.2.length:Int) - 1)]],q.2++[#[(Lf.cl x f a b).use q.1.M,.st p,[q.1.w]]])
def pB(m:Int):Bd->Pc->List Ct->Pc×List Ct
 | .nil,c,f=>(c,f)
 | .lf p l r,c,f=>pL m p l (pB m r c f)
 | .ite p t T a b r,c,f=>
  let q:=pB m r c f
  let o:=pB m b q.1 q.2
  let s:=pB m a q.1 o.2
  (#[(Bd.ite p t T a b .nil).use q.1.M,#[[],.go$ m - (q.2.length:Int) - ((Bd.ite p t T a b .nil).cuts:Int)]],s.2++[#[(Bd.ite p t T a b .nil).use q.1.M,.ask t,[s.1.w,o.1.w]]])
 | .loop p t T a r,c,f=>
  let q:=pB m r c f
  let d:Pc:=#[(Bd.loop p t T a .nil).use q.1.M,#[[],.go$ m - (q.2.length:Int) - ((Bd.loop p t T a .nil).cuts:Int)]]
  let s:=pB m a d q.2
  (d,s.2++[#[(Bd.loop p t T a .nil).use q.1.M,.ask t,[s.1.w,q.1.w]]])
theorem KS(m:Int):∀(a b:Bd) (c:Pc) (f:List Ct),pB m (a.app b) c f=pB m a (pB m b c f).1 (pB m b c f).2
 | .nil,_,_,_=>rfl
 | .lf p l r,b,c,f=>by show pL m p l (pB m (r.app b) c f)=pL m p l (pB m r _ _);rw[KS m r b c f]
 | .ite p t T x y r,b,c,f=>by let e:=KS m r b c f;show pB m (.ite p t T x y$ r.app b) c f=_;unfold pB;rw[e]
 | .loop p t T x r,b,c,f=>by let e:=KS m r b c f;show pB m (.loop p t T x$ r.app b) c f=_;unfold pB;rw[e]
theorem kl(m:Int):∀(b:Bd) (c:Pc) (F:List Ct),(pB m b c F).2.length=F.length+b.cuts
 | .nil,_,_=>rfl
 | .lf p l r,c,F=>by
  let e:=kl m r c F;show(pL m p l$ pB m r c F).2.length=F.length+(l.cut+r.cuts);cases l with
  |rd x t T |wr t u T U |cl x f a d=>show((pB m r c F).2++[_]).length=F.length+(1+r.cuts);rw[Mz,e];show _+1=_;omega
  |st x t T |gv t T=>show(pB m r c F).2.length=F.length+(0+r.cuts);omega
 | .ite p t T x y r,c,F=>by let e:=kl m r c F;show((pB m x _ (pB m y _ _).2).2++[_]).length=_;rw[Mz,kl m x,kl m y,e];show _+1=F.length+(1+x.cuts+y.cuts+r.cuts);omega
 | .loop p t T x r,c,F=>by let e:=kl m r c F;show((pB m x _ _).2++[_]).length=_;rw[Mz,kl m x,e];show _+1=F.length+(1+x.cuts+r.cuts);omega
def Yf(x:π)(t:ε)(p:Pc):(gX x t p).sets.length<=p.w.sets.length+1:=by
 unfold gX;split
 .exact Mx _
 .exact NM _
theorem ZM(m:Int):∀(b:Bd) (a:Pc) (f:List Ct),(pB m b a f).1.w.sets.length<=a.w.sets.length+b.size
 | .nil,_,_=>Mx _
 | .lf p l r,a,f=>by
  let e:=ZM m r a f;show(pL m p l$ pB m r a f).1.w.sets.length<=a.w.sets.length+(r.size+1);cases l with
  |st x t T=>have:=Yf x t (pB m r a f).1;show(gX x t (pB m r a f).1).sets.length<=_;omega
  |_=>exact MH _
 | .ite p t T x y r,a,f | .loop p t T x r,a,f=>MH _
theorem zc:∀b:Bd,b.cuts<=b.size
 | .nil=>Mx _
 | .lf _ l r=>by
  let:=zc r;let h:l.cut<=1:=by cases l<;>first |exact Mx _ |exact MH _
  show l.cut+r.cuts<=r.size+1;omega
 | .ite _ _ _ a b r=>by let:=zc a;let:=zc b;let:=zc r;show 1+a.cuts+b.cuts+r.cuts<=a.size+b.size+r.size+1;omega
 | .loop _ _ _ a r=>by let:=zc a;let:=zc r;show 1+a.cuts+r.cuts<=a.size+r.size+1;omega
structure CK(K:Ω)(C:ε):Prop where
 cl:sw K C
 nm:aW K C "many"
 nf:aW K C "found"
structure Cg(H:Hp)(C ia dx fa:ε)(m:Int)(cts:List Ct)(cs:List V):Prop where
 ins:H ia=δ (.ins C dx [("many",.int m),("found",.ref fa)])
 fd:H fa=δ (.lst cs)
 tr:bh H (aU$ cts.map Fh) .non cs
def Cg.same(h:Cg H C i d f m c a)(s:af H b):Cg b C i d f m c a:=#[s _ _ h.ins,s _ _ h.fd,h.tr.mono$ af.tm s]
def Cg.len(h:Cg H C i d f m c a):a.length=c.length:=by rw[zM h.tr,Mv]
def Cg.tm(h:Cg H C i d f m c g)(k:ay f H a):aj H a:=λb x e=>k b _ (jE e h.fd (by intro z;cases z)) e
structure xI(H:Hp)(C ia dx fa:ε)(m:Int)(cts:List Ct)(cs:List V)(pc:Pc)(bv:V)(g:ε)(ys:List π)(b:Bd):Prop where
 c:Cg H C ia dx fa m cts cs
 p:nH H pc bv g ys
 ng:g≠fa
 ok:b.Ok ys
 sz:cts.length+pc.w.sets.length+b.size<=10000000
def sK(H:Hp)(C i d f:ε)(m:Int)(y:List π)(q:Pc×List Ct)(Q:VK):Prop:=∀(v:V) (g:ε) (c:List V) (h:Hp),nH h q.1 v g y->g≠f->Cg h C i d f m q.2 c->ay f H h->Q v h
inductive nk(C:ε)(n:Nat)(l:List V)(H:Hp)(Q:VK)(c:XK):Prop
 |mk(j h i a g:ε)(m:Int)(d:List Ct)(f o:List V)(k:Pc)(e:V)(p:List π)(b:Bd)(_:l=[.ref j,.ref a,e])(_:xI H C j h i m d f k e g p b)(_:H a=δ (.tup o))(_:de H b o)(_:b.dep < n)(_:sK H C j h i m p (pB m b k d) Q)
inductive Ej(C:ε)(n:Nat)(j:List V)(H:Hp)(Q:VK)(a:XK):Prop
 |mk(h e f g:ε)(m:Int)(b:List Ct)(d:List V)(i:Pc)(v c:V)(k:List π)(s:Bd)(_:j=[.ref h,v,c])(_:xI H C h e f m b d i c g k s)(_:iA H v s)(_:s.dep < n+1)(_:sK H C h e f m k (pB m s i b) Q)
def Bd.isCut:Bd->Bool
 | .lf _ l _=>l.isCut
 | .nil=>μ
 |_=>ν
inductive AR(C:ε)(n:Nat)(j:List V)(H:Hp)(Q:VK)(a:XK):Prop
 |mk(h e f g:ε)(m:Int)(b:List Ct)(d:List V)(i:Pc)(v c:V)(k:List π)(s:Bd)(_:j=[.ref h,v,c])(_:xI H C h e f m b d i c g k s)(_:iA H v s)(_:s.dep < n+1)(_:s.isCut=ν)(_:sK H C h e f m k (pB m s i b) Q)
def ik(m:Int)(c:Pc)(p:Pc)(f:List Ct):Bd->List Wy×List Ct
 | .ite _ _ _ a b _=>([(pB m a p (pB m b p f).2).1.w,(pB m b p f).1.w],(pB m a p (pB m b p f).2).2)
 | .loop _ _ _ a _=>([(pB m a c f).1.w,p.w],(pB m a c f).2)
 |_=>([p.w],f)
inductive Ek(C:ε)(n:Nat)(o:List V)(H:Hp)(Q:VK)(a:XK):Prop
 |mk(i e f g h:ε)(m:Int)(b:List Ct)(d:List V)(j k:Pc)(v c l:V)(p:List π)(s:Bd)(_:o=[.ref i,v,l,c])(_:xI H C i e f m b d j c g p s)(_:nH H k l h p)(_:h≠f)(_:k.w.sets=[])(_:iA H v s)(_:s.dep < n+1)(_:∀(wv:V) (cs':List V) (H':Hp),bh H' (cp ((ik m k j b s).1.map iz)) wv []->Cg H' C i e f m (ik m k j b s).2 cs'->ay f H H'->Q wv H')
def YH(h:iA H v s)(g:s.isCut=ν)(m:Int)(c:Pc)(F:List Ct):
  pB m s c F=(#[s.use c.M,#[[],.go$ m - (F.length:Int) - (s.cuts:Int)]],(ik m #[s.use c.M,#[[],.go$ m - (F.length:Int) - (s.cuts:Int)]] c F s).2++[#[s.use c.M,s.deed,(ik m #[s.use c.M,#[[],.go$ m - (F.length:Int) - (s.cuts:Int)]] c F s).1]]):=by
 cases h with
 |lf p l V d e=>
  cases l with
  |rd x t T |wr t u T U |cl x f a k=>rfl
  |st x t T |gv t T=>cases g
 |ite p t T a b q Q A B d i e j n o |loop p t T a q A d i e j=>rfl
def wY(h:nH H p v g y):∃(r:ε) (W:V),v= .ref r/\H r=δ (.tup [.ref g,W])/\bh H (iz p.w) W []:=by let⟨r,s,W,e,a,c,b⟩:=h;exact#[r,W,e,a,b]
def G7:ak ["self","statement","place","behind","other"] z26z (ae Ar):=bQ
def Gm(F:aM K "ways_of" "Cutting.ways_of" Ar f fd)(X:CK K C)(GB:⇑(4*n+31) fB f0 z11z (nk C n))(bB:au K f0 z11z [])(hB:cq K C "place_of_body" fB):⇑(4*n+32) f fd z26z (Ek C n):=by
 erw[F.ok G7 λc3 A o1 s H vs Q E hr h=>?_]
 let⟨i,D,R,g,g2,m,d,S,y,pl,v,bv,G,Y,st,rfl,I,h6,n0,h7,hs,hd,q⟩:=h;erw[#[_,(jd (jx (jZ$ jy$ pv 1) (jd (jz 4 G7.nd$ zn (pv 0) X.cl hB GB hr.m bB .nil bu$ ja (jy$ pv 1)$ ja (pv 3) jb)$ jg$ jm$ jh$ ja (jr j6 (zn (pv 0) X.cl hB GB hr.m bB .nil bu$ ja (jy$ pv 1)$ ja (pv 3) jb) jf (λ_ _=>Z))$ ja (jy$ pv 4) jb) jo)$ jd (jx (jZ$ jy$ pv 1) (jg$ jm$ jh$ ja (jr j6 (zn (pv 0) X.cl hB GB hr.m bB .nil bu$ ja (jy$ pv 1)$ ja (pv 2) jb) jf (λ_ _=>Z))$ ja (jy$ pv 3) jb) jo)$ jg$ jm$ jh$ ja (jy$ pv 3) jb),?_]];let b0:=aJ;let⟨br,bw,rfl,J,L⟩:=wY I.p;cases hs with
 |lf p l vs e M=>
  let f2:iw (bq$ al (eh (fj K) (a5 3)$ tC$ tT 1) aK) { nx:=λx H'=>Q V.non H',rt:=Q } [↑i,↑p,δ G,↑br,ζ] H:=by erw[(jq J Z #[fg,λr N=>q (.ref r) S _ (jN jc$ jv Z (L.mono$ af.tm$ je N) jJ) (I.c.same$ je N) (ay.of_same$ je N)])]
  cases l with
  |rd x t T |st x t T |wr t u T U |cl x f q2 ts |gv t T=>let⟨rfl,_⟩:=M;erw[(jq e Z #[Z,_,Z,aI LL ?_])];erw[(jq e Z #[Z,_,Z,aI LL ?_])];exact f2
 |ite p t T a b qa qb as bs e h0 M h3 h4 h5=>erw[(jq e Z #[Z,_,Z,bJ LL ?_])];let h8:max (max a.dep b.dep+1) 0 < n+1:=hd;let hz:d.length+y.w.sets.length+(a.size+b.size+0+1)<=10000000:=I.sz;let W:=I.ok;erw[ah λF1 f1=>#[_,Z,i,D,_,Z,I.c.ins,Z,jq e Z #[_,Z,i,D,R,qb,g,m,d,S,bs,y,.ref br,Y,b,Z,#[I.c,I.p,I.ng,W.2.2.1,LN],h3,h5,LN,λv1 g1 j H1 p1 n1 O z=>f1 _ _ ?_]]];clear f1;let B:=I.c.tm z;let lc:=kl m b y d;let cb:=zc b;erw[#[_,Z,i,D,_,Z,O.ins,Z,jq (B _ _ e) Z #[_,Z,i,D,R,qa,g,m,_,j,as,y,.ref br,Y,a,Z,#[O,I.p.but z I.c.fd I.ng,I.ng,W.2.1,LN],B _ _ M,h4.mono B,LN,λv2 g2 c0 H2 p2 n2 c2 k2=>?_]]];let⟨r2,w2,rfl,h',a0⟩:=wY p2;let⟨r1,w1,rfl,k,o⟩:=wY (p1.but k2 O.fd n1);erw[#[r2,_,_,_,Z,Z,aB.of h',Z,jq k Z #[bg,λr N=>q (.ref r) c0 _ (jN jc$ jv Z (a0.mono$ af.tm$ je N)$ jv Z (o.mono$ af.tm$ je N) jJ) (c2.same$ je N) ((z.trans k2).trans$ ay.of_same$ je N)]]]
 |loop p t T a qa as e h0 M h3=>erw[(jq e Z #[Z,_,Z,aI LL ?_])];erw[(jq e Z #[Z,_,Z,bJ LL ?_])];let h8:max (a.dep+1) 0 < n+1:=hd;let hz:d.length+y.w.sets.length+(a.size+0+1)<=10000000:=I.sz;let W:=I.ok;erw[#[_,Z,i,D,_,Z,I.c.ins,Z,jq e Z #[_,Z,i,D,R,qa,g2,m,d,S,as,pl,G,Y,a,Z,#[I.c,h6,n0,W.2.1,by rw[h7];show d.length+0+a.size<=_;omega],M,h3,LN,λv1 g1 j H1 p1 n1 O z=>?_]]];let⟨r1,w1,rfl,k,o⟩:=wY p1;let B:=I.c.tm z;erw[#[r1,_,_,_,Z,Z,aB.of k,Z,jq (B _ _ J) Z #[bg,λr N=>q (.ref r) j _ (jN jc$ jv Z (o.mono$ af.tm$ je N)$ jv Z ((L.mono B).mono$ af.tm$ je N) jJ) (O.same$ je N) (z.trans$ ay.of_same$ je N)]]]
def vQ:ak ["self","statement","behind","n","names","place","ways"] z7z (ae Al):=bQ
def Gf(F:aM K "place_of_cut" "Cutting.place_of_cut" Al f fd)(y:CK K C)(h7:n<=7)(GW:⇑(4*n+32) fW f0 z26z (Ek C n))(bW:au K f0 z26z [])(hW:cq K C "ways_of" fW)(cM:‹2› fM f2 ["body"] ij "many_cuts")(cU:‹31› fU f3 z3z (hV 7) "used_ahead_of")(cD:‹1› fD f4 z5z iV "deed_of")(ml:mg "len"=ζ)(m0:mg "tuple"=ζ):⇑(4*n+33) f fd z7z (AR C n):=by
 erw[F.ok vQ λc0 A o1 s H vs Q E Y h=>?_]
 symm;let⟨z,L,l,g,m,a,cs,j,v,bv,ys,st,rfl,I,B,hd,hc,q⟩:=h;erw[#[_,(jd (jz 3 vQ.nd$ jw kQ (jw kQ (zQ (pv 0) Z)$ jF jL Z ml NQ$ ja (zQ (pv 0) Z) jb)$ cM.e Y.m$ ja (jh$ ja (pv 1) jb) jb)$ jd (jz 4 vQ.nd$ cU.e Y.m$ ja (pv 1)$ ja (jy$ pv 2) jb)$ jd (jz 5 vQ.nd$ jh$ ja (pv 4)$ ja (jh$ ja (jh jb)$ ja (jh$ ja jj$ ja (pv 3) jb) jb) jb)$ jd (jz 6 vQ.nd$ zn (pv 0) y.cl hW GW Y.m bW .nil bu$ ja (pv 1)$ ja (pv 5)$ ja (pv 2) jb)$ jd (jT$ zh M4 M7 M6 jQ (zQ (pv 0) Z)$ ja (jh$ ja (jC jG Z m0 Of$ ja (pv 4) jb)$ ja (cD.e Y.m$ ja (pv 1) jb)$ ja (pv 6) jb) jb)$ jg$ jm$ pv 5),?_]];let b0:=aJ;symm;let⟨br,ss,bw,rfl,h0,hN,h1⟩:=id I.p;let hz:=I.sz;let lc:=I.c.len;sleep 5;erw[ah λF1 i=>#[_,Z,z,C,L,_,_,Z,I.c.ins,y.cl,y.nm,Z,_,Z,z,C,L,_,_,Z,I.c.ins,y.cl,y.nf,Z,l,_,Z,.inl$ aF.of I.c.fd,_,_,Z,Z,_,Z,fg,λu nu=>?_]];let s1:af H (upd H u$ .tup [v]):=je nu;erw[#[u,st,_,Z,jc,(B.mono$ af.tm s1).bd,LN,λH1 k1=>#[_,_,Z,Z,i _ _ ?_]]];clear i;let S:=s1.trans k1;rw[lc];erw[ah λF1 i=>#[_,Z,jq (S _ _ h0) Z #[v,g,st,ss,j.M,ys,Z,B.mono$ af.tm S,hN.same S,I.ok,LN,LN,λG zs H2 n2 N2 k2=>i _ _ ?_]]];clear i;left;let s3:=S.trans k2;let N:G≠l:=λe=>by rw[e,S _ _ I.c.fd]at n2;cases n2
 erw[ah λF1 i=>#[_,Z,pC,λe ne=>#[_,Z,bg,λU O=>#[bg,λx nx=>#[bg,λr nr=>i _ _ ?_]]]]];clear i;left;let s4:af H2 (upd (upd (upd (upd H2 e$ .tup []) U$ .tup [.str "go",.int$ m - (a.length:Int) - (st.cuts:Int)]) x$ .tup [.ref e,.ref U]) r$ .tup [.ref G,.ref x]):=(((je ne).trans$ je O).trans$ je nx).trans (je nr);let P4:nH (upd (upd (upd (upd H2 e$ .tup []) U$ .tup [.str "go",.int$ m - (a.length:Int) - (st.cuts:Int)]) x$ .tup [.ref e,.ref U]) r$ .tup [.ref G,.ref x]) #[st.use j.M,#[[],.go$ m - (a.length:Int) - (st.cuts:Int)]] (.ref r) G ys:=
  #[r,zs,.ref x,Z,jc,N2.same s4,jN (am jc nr)$ jv Z (jN (am (am (am jc O) nx) nr) jJ)$ jv Z (jN (am (am jc nx) nr)$ jv Z zf$ jv Z Jo jJ) jJ]
 generalize upd (upd (upd (upd H2 e$ .tup []) U$ .tup [.str "go",.int$ m - (a.length:Int) - (st.cuts:Int)]) x$ .tup [.ref e,.ref U]) r (.tup [.ref G,.ref x])=H4 at s4 P4;let R:=s3.trans s4;let c5:=I.c.same R;erw[ah λF1 i=>#[_,Z,z,L,_,Z,c5.ins,Z,_,Z,_,Z,_,Z,z,L,l,g,G,m,a,cs,j,_,v,.ref br,.ref r,ys,st,Z,#[c5,I.p.same R,I.ng,I.ok,I.sz],P4,N,Z,B.mono$ af.tm R,hd,λwv D H6 w6 c6 k6=>i _ _ ?_]];clear i;left;let t0:=c5.tm k6;let p6:=P4.but k6 c5.fd N;let z6:H6 G=δ (.lst$ zs.map ti):=k6 _ _ N (s4 _ _ N2.at');let ez:=N2.nm.canon;let l6:=c6.len;let lw:(ik m #[st.use j.M,#[[],.go$ m - (a.length:Int) - (st.cuts:Int)]] j a st).2.length+1=a.length+st.cuts:=by let:=kl m st j a;rw[YH B hc m j a,Mz]at this;exact this
 let cl:=zc st;erw[ah λF1 i=>#[_,Z,z,C,L,_,_,Z,c6.ins,y.cl,y.nf,Z,.inl #[Z,_,aF.of c6.fd],_,Z,G,_,Z,.inl #[aF.of z6,λnt n0=>?_]]];let s7:af H6 (upd H6 nt$ .tup$ zs.map ti):=je n0;erw[#[_,Z,v,st,Z,((B.mono$ af.tm R).mono t0).mono$ af.tm s7,λd H8 d8 k8=>#[_,Z,eJ,λW J=>?_]]];let X:=(s7.trans k8).trans (je (o:=.tup [.ref nt,d,wv]) J);let t:=c6.same X;erw[#[l,D,_,Z,Z,t.fd,LN,i _ _ ?_]];clear i;left;let T9:bh (upd H8 W$ .tup [.ref nt,d,wv]) (Fh #[st.use j.M,st.deed,(ik m #[st.use j.M,#[[],.go$ m - (a.length:Int) - (st.cuts:Int)]] j a st).1]) (.ref W) []:=by erw[jN jc$ jv Z (jN (am (k8 _ _ jc) J) ?_)$ jv (Fj _) (d8.mono$ af.tm$ je J)$ jv Z (w6.mono$ af.tm X) jJ];rw[<- ez];exact Ye zs
 let p9:=p6.same X;generalize upd H8 W (.tup [.ref nt,d,wv])=H9 at X t T9 p9;let k:ay l H9 (upd H9 l$ .lst$ D++[.ref W]):=λb o nb e=>by rw[ji nb];exact e
 let T:=t.tm k;let n1:z≠l:=λe=>by let:=t.ins;rw[e,t.fd]at this;cases this
 erw[#[_,Z,q (.ref r) G (D++[.ref W]) _ ?_ N ?_ (λb o nb e=>k b o nb (X _ _$ k6 b o nb$ R _ _ e))]]
 .rw[YH B hc m j a];exact p9.but k t.fd N
 .rw[YH B hc m j a];erw[#[k _ _ n1 t.ins,jc,?_]];rw[M0];exact Kv (jv Z (T9.mono T) jJ)$ t.tr.mono T
inductive BI(C u j s a:ε)(m:Int)(c:List Ct)(x:Pc)(f:V)(z:List π)(b:Bd)(y:List V)(H:Hp)(i:Nat)(A:_L.St)(e:Hp):Prop
 |mk(d t:Bd)(v:V)(g:ε)(h:List V)(w:Option V)(k:A=[↑u,↑a,δ f,δ v,w])(l:b=d.app t)(n:de H d (y.take (y.length - i)))(o:nH e (pB m t x c).1 v g z)(p:g≠s)(q:Cg e C u j s m (pB m t x c).2 h)(r:ay s H e)
theorem Kw(m:Int):∀(b:Bd) (c:Pc) (F:List Ct),(pB m b c F).2.length+(pB m b c F).1.w.sets.length<=F.length+c.w.sets.length+b.size
 | .nil,_,_=>Mx _
 | .lf p l r,c,F=>by
  let e:=Kw m r c F;show(pL m p l$ pB m r c F).2.length+(pL m p l$ pB m r c F).1.w.sets.length<=F.length+c.w.sets.length+(r.size+1);cases l with
  |st x t T=>have:=Yf x t (pB m r c F).1;show(pB m r c F).2.length+(gX x t (pB m r c F).1).sets.length<=_;omega
  |gv t T=>show(pB m r c F).2.length+0<=_;omega
  |rd x t T |wr t u T U |cl x f a d=>show((pB m r c F).2++[_]).length+0<=_;rw[Mz];show _+1+0<=_;omega
 | .ite p t T x y r,c,F=>by let e:=Kw m r c F;let h:=zc x;let H:=zc y;show((pB m x _ (pB m y _ _).2).2++[_]).length+0<=F.length+c.w.sets.length+(x.size+y.size+r.size+1);rw[Mz,kl m x,kl m y];show _+1+0<=_;omega
 | .loop p t T x r,c,F=>by let e:=Kw m r c F;let h:=zc x;show((pB m x _ _).2++[_]).length+0<=F.length+c.w.sets.length+(x.size+r.size+1);rw[Mz,kl m x];show _+1+0<=_;omega
def IJ:ak z7z z7z (ae Ao):=bQ
def Gk(F:aM K "place_of" "Cutting.place_of" Ao f fd)(ck:CK K C)(GC:⇑(4*n+33) fC D z7z (AR C n))(bC:au K D z7z [])(hC:cq K C "place_of_cut" fC)(cG:‹8› fG f0 z1z hG "place_of_give")(cS:‹11› fS f1 z3z iZ "place_of_set"):⇑(4*n+34) f fd z7z (Ej C n):=by
 erw[F.ok IJ λc0 A O s H vs Q E G h=>?_]
 let⟨r,J,fa,g,m,j,z,L,v,B,y,st,rfl,I,M,hd,q⟩:=h;erw[#[_,(jd (jx (jZ$ jy$ pv 1) (jg$ jm$ cG.e G.m$ ja (jy$ pv 1) jb) jo)$ jd (jx (jZ$ jy$ pv 1) (jg$ jm$ cS.e G.m$ ja (pv 1)$ ja (pv 2) jb) jo)$ jg$ jm$ zn (pv 0) ck.cl hC GC G.m bC .nil bu$ ja (pv 1)$ ja (pv 2) jb),?_]];let hz:=I.sz;let R:=M;let i:st.isCut=ν->iw (wJ C "place_of_cut" (AR C n) [] E0 (a5 0)$ al (a5 1)$ al (a5 2) aK) { nx:=λx k=>Q V.non k,rt:=Q } [↑r,δ v,δ B] H:=λhc=>
  #[_,Z,r,J,_,Z,I.c.ins,Z,_,Z,_,Z,r,J,fa,g,m,j,z,L,v,B,y,st,Z,I,M,hd,hc,q]
 cases M with
 |lf p l vs d o=>
  cases l with
  |rd x t T |wr t u T U |cl x f q2 ts=>let⟨rfl,_⟩:=o;erw[(jq d Z #[Z,_,Z,aI LL ?_])];erw[(jq d Z #[Z,_,Z,aI LL ?_])];exact i Z
  |gv t T=>
   let⟨rfl,hT⟩:=o;erw[(jq d Z #[Z,_,Z,bJ LL ?_])];clear i;let Y:y.length<=21:=by let⟨_,_,_,_,_,hN,_⟩:=I.p;exact hN.y20
   exact(jq d Z #[t,T,y,Z,hT,I.ok.1,Y,λW X k p' N S=>q W X z k p' (λe=>by rw[e,I.c.fd]at N;cases N) (I.c.same S) (ay.of_same S)])
  |st x t T=>let⟨rfl,hT⟩:=o;erw[(jq d Z #[Z,_,Z,aI LL ?_])];erw[(jq d Z #[Z,_,Z,bJ LL ?_])];clear i;exact#[_,Z,_,Z,.ref p,B,p,t,x,T,L,g,y,Z,R,I.p,I.ok.1.1,I.ok.1.2,LN,λW X k p' N S=>q W X z k p' (λe=>by rw[e,I.c.fd]at N;cases N) (I.c.same S) (ay.of_same S)]
 |ite p t T a b qa qb as bs d h0 o h3 h4 h5 |loop p t T a qa as d h0 o h3=>erw[(jq d Z #[Z,_,Z,aI LL ?_])];erw[(jq d Z #[Z,_,Z,aI LL ?_])];exact i Z
def As:ak ["self","body","behind","place","statement"] z11z (ae Ak):=bQ
def Gc(F:aM K "place_of_body" "Cutting.place_of_body" Ak f fd)(ck:CK K C)(GO:⇑(4*n+34) fO T z7z (Ej C n))(bO:au K T z7z [])(hO:cq K C "place_of" fO)(R:mg "reversed"=ζ):⇑(4*n+35) f fd z11z (nk C$ n+1):=by
 erw[F.ok As λc1 A U s H vs Q E hr h=>?_]
 let⟨r,J,V,a,g,m,d,cs,xs,l,L,Y,b,rfl,I,ha,hb,hd,q⟩:=h;erw[#[_,(jd (jz 3 As.nd$ pv 2)$ jd (kP Ni Z (@vg _ _ _ _ _ _ _ Z R TM (pv 1) LO LO LK LK) (ju (i:=4) As.nd Z$ Δ Z)$ jg$ jz 3 As.nd$ zn (pv 0) ck.cl hO GO hr.m bO .nil bu$ ja (pv 4)$ ja (pv 3) jb)$ jg$ jm$ pv 3),?_]];let b0:=aJ;let hz:=I.sz;let xl:=hb.len;erw[ah λF1 u=>#[_,Z,u _ _ ?_]];clear u;erw[ah λF1 u=>?_];erw[gn λF kF=>#[_,Z,a,xs,Z,aB.of ha,kF _ _ ?_]];clear kF;erw[Yb (K:=K) (xs:=xs) (BI C r J V a m d l L Y b xs H) #[b,.nil,L,g,cs,_,Z,(q9 b).symm,by rw[RQ,NC];exact hb,I.p,I.ng,I.c,ay.refl] (λi σ H' hi h=>?_) ?_ (λσ H' h=>u _ _ ?_)]
 .let⟨_,_,_,_,_,_,_,_,_,_,_,_,k⟩:=h;exact aB.of$ I.c.tm k _ _ ha
 .clear u;intro E _ i x σ H2 M fE Gq t h;let⟨pre,gu,v,W,o,o4,rfl,j,y,X,h4,N,O⟩:=h;let hi:i < xs.length:=by
   rcases Rg i xs.length with z |z
   .exact z
   .rw[NG (by simpa using z)]at M;cases M
  rw[OH hi]at M;let et:xs.take (xs.length - i)=xs.take (xs.length - (i+1))++[x]:=by
   let D:xs.length - i=(xs.length - 1 - i)+1:=by omega
   let e2:xs.length - (i+1)=xs.length - 1 - i:=by omega
   rw[D,e2,Ou,M];rfl
  rw[et]at y;rcases y.last with ⟨e,_⟩ | ⟨ws,v',B,S,D,e2,h6,h7⟩
  .exact absurd e LM
  let⟨ew,ev⟩:=Uk D Z;cases ev;subst e2;let h0:=qh (j▸I.ok);let G:=qh h0.1;let a1:b.dep=max (B.app S).dep gu.dep:=by rw[j,zL]
  let a2:(B.app S).dep=max B.dep S.dep:=zL ..;let h8:S.dep<=b.dep:=by rw[a1,a2];exact MT (Uv ..)$ UE ..
  clear a1 a2;let h':b.size=B.size+S.size+gu.size:=by rw[j,jX,jX]
  let hl:=kl m gu l d;let a0:=zc gu;let a3:=ZM m gu l d;let a4:(pB m gu l d).1.w.sets.length+(pB m gu l d).2.length+S.size<=10000000:=by let:=Kw m gu l d;omega
  erw[t ?_];clear t;let tm:=I.c.tm O;show dy _ _ E [↑r,↑a,δ L,δ v,δ x] H2;erw[#[_,Z,r,J,_,Z,N.ins,Z,_,Z,_,Z,r,J,V,W,m,_,o,_,x,v,Y,S,Z,#[N,X,h4,G.2,LN],h7.mono tm,LN,λv3 g3 c0 H3 p3 n3 c3 k3=>fE _ _ #[B,S.app gu,v3,g3,c0,_,Z,by rw[j,qu],?_,by rw[KS];exact p3,n3,by rw[KS];exact c3,O.trans k3]]];rw[ew];exact h6
 .let⟨pre,gu,v,W,o,o4,rfl,j,y,X,h4,N,O⟩:=h;rw[Pn]at y;let ep:pre= .nil:=by
   rcases y.last with ⟨_,e⟩ | ⟨ws,v,B,S,D,_⟩
   .exact e
   .exact absurd D LM
  rw[ep]at j;erw[#[_,Z,q v W o H' ?_ h4 ?_ O]]
  .rw[j];exact X
  .rw[j];exact N
def F8:⇑k f i z11z (nk C 0):=by
 let n:∀v H Q E,¬nk C 0 v H Q E:=λv H Q E h=>by let⟨I,D,F,a,g,m,d,j,x,p,B,y,b,_,_,_,_,e,_⟩:=h;exact absurd e$ OU _
 exact#[λv H Q E h=>absurd h (n v H Q E),λA o s H c u v Q E _ _ _ _ h=>absurd h (n v H Q E)]
theorem Li(c:CK K C)(FB:aM K "place_of_body" "Cutting.place_of_body" Ak g f)(F:aM K "place_of" "Cutting.place_of" Ao A a)(i:aM K "place_of_cut" "Cutting.place_of_cut" Al D b)(j:aM K "ways_of" "Cutting.ways_of" Ar E d)
  (B:au K f z11z []) (H:cq K C "place_of_body" g) (k:au K a z7z []) (l:cq K C "place_of" A) (o:au K b z7z []) (p:cq K C "place_of_cut" D) (q:au K d z26z []) (r:cq K C "ways_of" E)
  (s:‹2› T G ["body"] ij "many_cuts") (t:‹31› U I z3z (hV 7) "used_ahead_of") (u:‹1› Y J z5z iV "deed_of") (v:‹8› fG L z1z hG "place_of_give") (x:‹11› fS N z3z iZ "place_of_set") (y:mg "len"=ζ) (m:mg "tuple"=ζ) (M:mg "reversed"=ζ):
  ∀n:Nat,n<=8->⇑(4*n+31) g f z11z (nk C n)
 |0,_=>F8
 |n+1,h=>by
  let O:=Li c FB F i j B H k l o p q r s t u v x y m M n LN;let Q:=Gm j c O B H;let R:=Gf i c LN Q q r s t u y m;let S:=Gk F c R o p v x;let z:=Gc FB c S k l M;let e:4*n+35=4*(n+1)+31:=by omega
  rw[e]at z;exact z
def y9{X:Cx}{K:Ω}{n:Nat}(a:X.K=K)(b:X.calm=ν)(h:Be X e t)
  (c:(assignEach e X.env).length=n) (H:(assignEach e X.env).findIdx? (·.1)=ζ):PG X (.Tuple e k p) (tU K n t):=by
 subst a;exact qg b h c H
abbrev g3(K:Ω)(i j k:Nat):TG:=tU K 3 (dB (bn i)$ dB (bn j)$ dB (bn k) tS)
def IB{t:_L.St}(h:t.length=3):∃a b c,t=[a,b,c]:=by
 cases t with
 |nil=>cases h
 |cons a r=>
  cases r with
  |nil=>cases h
  |cons b R=>
   cases R with
   |nil=>cases h
   |cons c d=>
    cases d with
    |nil=>exact#[a,b,c,Z]
    |cons _ _=>cases h
abbrev vH:da:=top 48
abbrev oV:da:=top 49
structure Df where
 f:π
 p:ε
 pa:ε
 pb:ε
 b:Bd
def A7(H:Hp)(d:Df)(v:V):Prop:=∃B,v= .ref d.p/\H d.p=δ (.tup [.str d.f,.ref d.pa,.ref d.pb])/\H d.pb=δ (.tup B)/\de H d.b B
def b6(H:Hp):List Df->List V->Prop
 | [],a=>a=[]
 |d::D,a=>∃v r,a=v::r/\A7 H d v/\b6 H D r
def A7.mono(k:aj H a)(h:A7 H d v):A7 a d v:=by let⟨b,e,c,f,g⟩:=h;exact#[b,e,k _ _ c,k _ _ f,g.mono k]
def b6.mono(k:aj H b):∀{a:List V},b6 H D a->b6 b D a:=by
 induction D with
 |nil=>exactλh=>h
 |cons d D i=>rintro a ⟨v,r,e,c,f⟩;exact#[v,r,e,c.mono k,i f]
theorem b6.snoc{d:Df}(a:A7 H d v):∀{D:List Df} {b:List V},b6 H D b->b6 H (D++[d]) (b++[v])
 | [],_,h=>by let e:_=[]:=h;rw[e];exact#[v,[],Z,a,Z]
 |_::_,_,z=>by let⟨u,r,e,c,f⟩:=z;exact #[u,r++[v],by rw[e];rfl,c,b6.snoc a f]
theorem b6.len:∀{d:List Df} {v:List V},b6 H d v->v.length=d.length
 | [],_,h=>by let e:_=[]:=h;rw[e];rfl
 |_::_,_,z=>by let⟨u,r,e,b,a⟩:=z;rw[e,MZ,MZ,b6.len a]
theorem b6.at:∀{D:List Df} {b:List V},b6 H D b->∀(i:Nat) (v:V),b[i]?=δ v->∃d,D[i]?=δ d/\A7 H d v
 | [],_,h,i,v,a=>by let e:_=[]:=h;rw[e]at a;simp at a
 |d::_,_,q,0,v,a=>by let⟨u,r,e,c,f⟩:=q;rw[e]at a;cases a;exact#[d,Z,c]
 |_::D,_,q,i+1,v,a=>by let⟨u,r,e,c,f⟩:=q;rw[e]at a;simpa using b6.at f i v (by simpa using a)
def i'(d:Df):Prop:=(∃y:List π,y.length<=20/\d.b.Ok y)/\d.b.dep < 6/\d.b.size<=400
def IE(n:ε):Pc:=#[λx=>x∈(Tm.num 0).vars,#[[],.give n]]
def gJ(n:ε)(d:Df):Pc×List Ct:=pB (d.b.cuts:Int) d.b (IE n) []
def fX(n:ε)(d:Df):Tr:=cp [dt d.f,rS d.pa,iz (gJ n d).1.w,cp ((gJ n d).2.reverse.map Fh)]
def nO(K:Ω)(n:ε):Prop:=∀H:Hp,aB K H n [.str "num",.int 0]
inductive pj(C:ε)(f:List V)(H:Hp)(Q:VK)(c:XK):Prop
 |mk(e d a:ε)(b:Bd)(g:List V)(_:f=[.ref e,.ref a])(_:H e=δ (.ins C d []))(_:H a=δ (.tup g))(_:de H b g)(_:b.size<=10000000)(_:∀(fa:ε) (H':Hp),H fa=ζ->Cg H' C e d fa (b.cuts:Int) [] []->ay e H H'->Q .non H')
inductive mq(K:Ω)(c:ε)(e:List V)(H:Hp)(Q:VK)(a:XK):Prop
 |mk(d:Df)(b:List V)(_:e=[.str d.f,.ref d.pa,.ref d.pb])(_:H d.pb=δ (.tup b))(_:de H d.b b)(_:i' d)(_:∀(v:V) (H':Hp),bh H' (fX c d) v []->af H H'->Q v H')
inductive mh(K:Ω)(e:ε)(f:List V)(H:Hp)(Q:VK)(b:XK):Prop
 |mk(a:ε)(c:List Df)(g:List V)(_:f=[.ref a])(_:H a=δ (.tup g))(_:b6 H c g)(_:c.length<=1000)(_:∀d∈c,i' d)(_:∀(v:V) (H':Hp),bh H' (cp (c.map (fX e))) v []->af H H'->Q v H')
def pQ{K:Ω}{t:TE}{Q:List V->Hp->Prop}{H:Hp}(x:H a=δ (.tup g))(u:b6 H D g)(R:D.length<=1000)
  (Pv:Nat->List V->Hp->Prop) (z:Pv 0 [] H) (A:∀i Y h,Pv i Y h->af H h/\Y.length<=i)
  (C:∀i d B Y h,D[i]?=δ d->h d.pb=δ (.tup B)->de h d.b B->Pv i Y h->t (δ (.str d.f)::δ (.ref d.pa)::δ (.ref d.pb)::l) h λy j=>Pv (i+1) (Y++[y]) j)
  (E:∀Y h,Pv D.length Y h->Q Y h):fq (xq K a) 3 l (g3 K 0 1 2) ny t Q H:=by
 let F:=aJ;let S:=u.len;erw[#[λi m Y h=>m=D.length - i/\i<=D.length/\Pv i Y h,#[D.length,LM,MH _,z],?_]];intro i m Y h c;let⟨rfl,T,p⟩:=c;let⟨s,U⟩:=A i Y h p;let c:aB K h a g:=aB.of (s _ _ x);by_cases n:i < D.length
 .let I:i < g.length:=by omega
  erw[.inr #[#[g,g[i],c,Mw I],LN,Pv$ i+1,λJ j L=>#[D.length - (i+1),LN,Z,n,L],λv j W o y=>?_]];let⟨e,y⟩:=y;subst e;let q:=y g c;let⟨d,r,B,rfl,M,N,O⟩:=(u.mono$ af.tm s).at i v q;let⟨X,t2,t3,rfl⟩:=IB o;erw[#[d.p,_,Z,aB.of M,Z,_,_,Z,_,_,Z,_,_,Z,Z,#[[δ _,δ _,δ _],Z,Z],?_]];exact C i d B Y j r N O p
 .let e:i=D.length:=by omega
  subst e;exact .inl #[#[g,c,LN],E Y h p]
def GZ:ak ["self","body"] ["self","body"] (ae vF):=bQ
def Dv(F:aM K "__init__" "Cutting.__init__" vF f t)(d:CK K C)(u:‹2› M v ["body"] ij "many_cuts"):⇑3 f t ["self","body"] (pj C):=by
 erw[F.ok GZ λy A O s H V Q E B h=>?_]
 let⟨i,D,a,b,x,rfl,G,I,J,L,q⟩:=h;erw[#[_,(jd (@Jn _ _ _ _ _ _ _ _ (pv 0) (u.e B.m$ ja (pv 1) jb) Z)$ jg$ @Jn _ _ _ _ _ _ _ _ (pv 0) (jD jb) Z),?_]];erw[ah λS l=>#[_,Z,a,b,x,Z,I,J,L,λT k=>#[_,Z,i,C,D,_,Z,k _ _ G,d.cl,d.nm,LO,l _ _ ?_]]];clear l;erw[#[pC,λg n=>#[_,Z,i,C,D,_,Z,am jc n,d.cl,d.nf,(by show 1 < 1000;decide),?_]]];let N:g≠i:=λe=>by rw[e,jc]at n;cases n
 let p:H g=ζ:=by
  cases e:H g with
  |none=>rfl
  |some o=>rw[ji N,k _ _ e]at n;cases n
 erw[q g _ p #[jc,by rw[ji N,jc],Z] λc o r e=>?_];rw[ji r,ji (λz=>by rw[z,p]at e;cases e),ji r];exact k _ _ e
def oj:ak ["name","params","body","cutting","first"] z21z (ae vH):=bQ
def yL(F:xa K "part_made" vH f fd)(t:CK K C)(mk:Mk K C fI)(GI:⇑3 fI u ["self","body"] (pj C))(bI:au K u ["self","body"] [])(mC:mg "Cutting"=↑C)(M:mg "NOUGHT"=↑n)(no:nO K n)(GB:⇑63 fB x z11z (nk C 8))(bB:au K x z11z [])(hB:cq K C "place_of_body" fB)(cG:‹8› fG f0 z1z (pq K) "place_of_give")(y:mg "tuple"=ζ)(z:mg "reversed"=ζ):⇑64 f fd z21z (mq K n):=by
 erw[F.ok oj λc0 A O s H vs Q E B h=>?_]
 let⟨d,G,rfl,hb,a,I,q⟩:=h;erw[#[_,(jd (jz 3 oj.nd$ Zz mk GI B.m Z mC bI .nil bu$ ja (pv 2) jb)$ jd (jz 4 oj.nd$ zn (pv 3) t.cl hB GB B.m bB .nil bu$ ja (pv 2)$ ja (cG.e B.m$ ja (kG (v:=.ref n) Z M Z) jb) jb)$ jg$ jm$ jh$ ja (pv 0)$ ja (pv 1)$ ja (jy$ pv 4)$ ja (@rP _ _ _ _ _ _ _ _ _ Z Z y Of Z z TM (zQ (pv 3) Z) LO LO LO LO LK LK LK LK) jb),?_]];let b0:=aJ;obtain⟨⟨ys,y0,ok⟩,J,hz⟩:=I;erw[ah λF1 j=>#[_,Z,λi D N L n0=>?_]];let S:af H (upd (upd H D$ .own i) i$ .ins C D []):=λc o e=>by rw[ji$ jk e N,ji$ jk e L];exact e
 erw[#[i,D,d.pb,d.b,G,Z,jc,S _ _ hb,a.mono$ af.tm S,LN,λp H1 nf R k1=>#[Z,j _ _ ?_]]];clear j;let s1:af H H1:=λc o e=>k1 c o (jk e N) (S _ _ e);let T:H p=ζ:=S.free nf;erw[ah λF1 j=>#[_,Z,i,D,_,Z,R.ins,Z,_,Z,n,ys,Z,no _,LN,λv g H2 p2 n2 k2=>?_]];let ng:g≠p:=λe=>by rw[e,R.fd]at n2;cases n2
 let U:=s1.trans k2;erw[#[i,D,p,d.pb,g,_,[],[],G,IE n,v,ys,d.b,Z,#[R.same k2,p2,ng,ok,by show 0+0+d.b.size<=_;omega],U _ _ hb,a.mono$ af.tm U,Vd J LO,λv3 g3 k V p3 n3 W k3=>j _ _ ?_]];clear j;let⟨r3,w3,rfl,X,Y⟩:=wY p3;let s3:af H V:=λc o e=>k3 c o (jk e T) (U _ _ e);erw[#[_,Z,_,Z,jq X Z #[_,Z,i,C,D,_,_,Z,W.ins,t.cl,t.nf,Z,p,k,Z,aF.of W.fd,λl nl=>#[wE,λr nr=>?_]]]];let s5:af V (upd (upd V l$ .tup k.reverse) r$ .tup [.str d.f,.ref d.pa,w3,.ref l]):=(je nl).trans (je nr);erw[q (.ref r) _ ?_$ s3.trans s5];erw[jN jc$ jv Z zf$ jv Z JV$ jv Z (Y.mono$ af.tm s5)$ jv Z (jN (am jc nr) ?_) jJ];let e:=ZL (W.tr.mono$ af.tm s5);rw[<- RW]at e;exact e
def D9:ak ["program"] ["program"] (ae oV):=bQ
def we:hJ:=#[.function,[(".0",.local),("name",.local),("params",.local),("body",.local),("part_made",.globalImplicit)],μ,μ,[]]
def uC:(z21z:List π).Nodup:=by decide+kernel
def Ff:aV ["program"] (ae oV) we z21z 3 []:=nS
def yI(F:xa K "made" oV f p)(C:‹64› U t z21z (mq K N) "part_made")(M:mg "tuple"=ζ):⇑65 f p ["program"] (mh K N):=by
 erw[F.ok D9 λu A o s H V Q E x h=>?_]
 let⟨a,D,X,rfl,g,y,B,O,q⟩:=h;erw[#[_,(jg$ jm$ jC jG Z M Of$ ja (@kY _ _ _ _ _ _ _ (z21z) (3) ([]) _ _ _ _ Z (zp$ pv 0) Ff (λ_ _ _ _ _=>(y9 (K:=K) (n:=3) Z Z (jA (ju (i:=0) uC Z$ Δ Z)$ jA (ju (i:=1) uC Z$ Δ Z)$ jA (ju (i:=2) uC Z$ Δ Z) kH) Z Z)) (λ_ _ _ _ _=>(@zR _)) (λ_ _ _ _ _=>(C.e x.m$ ja (pv 0)$ ja (pv 1)$ ja (pv 2) jb)) (by intro _;rfl)) jb),?_]];erw[#[_,Z,a,Z,#[_,aB.of g],?_]];erw[pQ g y B (λi V b=>bh b (aU ((D.take i).map$ fX N)) .non V/\af H b/\i<=D.length) #[Z,af.refl _,MH _] (λi V b h=>#[h.2.1,?_]) (λi d G V b c I J h=>?_) (λV b h l L=>?_)]
 .rw[zM h.1,Mv,M1];exact Ro ..
 .let R:i < D.length:=by
   rcases Rg i D.length with z |z
   .exact z
   .rw[NG z]at c;cases c
  erw[#[_,Z,_,Z,_,Z,d,G,Z,I,J,O d$ ML c,λv Y T j=>#[?_,h.2.1.trans j,R]]];rw[Ou,c,M0];exact Kv (jv Z T jJ)$ h.1.mono$ af.tm j
 .erw[#[l,V,Z,.inl #[aF.of jc,λr S=>?_]]];let s:af b (upd (upd b l$ .lst V) r$ .tup V):=(je L).trans (je S);erw[q (.ref r) _ (jN jc ?_)$ h.2.1.trans s];let e:=h.1;rw[NC]at e;exact e.mono$ af.tm s
abbrev vK:da:=top 56
abbrev vL:da:=top 57
abbrev oR:da:=top 58
def aZ(p q:ε)(H h:Hp):Prop:=∀b o,b≠p->b≠q->H b=δ o->h b=δ o
def aZ.refl:aZ p q H H:=λ_ _ _ _ h=>h
def aZ.trans(a:aZ p q H d)(b:aZ p q d e):aZ p q H e:=λc o n m h=>b c o n m (a c o n m h)
def ay.two(a:ay p H b):aZ p q H b:=λc o n _ h=>a c o n h
def aZ.of_same(a:af H b):aZ p q H b:=λc o _ _ h=>a c o h
def aZ.at:aZ p q H (upd H q o):=λb u _ m e=>by rw[ji m];exact e
def dF(H:Hp)(q:ε):Prop:=∃k:Int,H q=δ (.lst [.int k])
def dF.new{o:HO}(h:dF H q)(n:H r=ζ):dF (upd H r o) q:=let #[k,e]:=h;#[k,am e n]
def dF.ne(h:dF H q)(B:ar H p):q≠p:=by let⟨k,e⟩:=h;let⟨a,b,_,_,_,d⟩:=B.ob;exact jE e d (by intro z;cases z)
def dF.but(h:dF H q)(B:ar H p)(k:ay p H a):dF a q:=by let n:=h.ne B;let⟨z,e⟩:=h;exact#[z,k _ _ n e]
def aZ.tm(k:aZ p q H h)(B:ar H p)(s:dF H q):aj H h:=λb x e=>by let⟨a,c,_,_,_,f⟩:=B.ob;let⟨z,g⟩:=s;exact k b _ (jE e f (by intro w;cases w)) (jE e g (by intro w;cases w)) e
def h9(H:Hp)(q:ε):Int:=match H q with
 |some (.lst [.int k])=>k
 |_=>0
def JX{H:Hp}(e:H q=δ (.lst [.int k])):h9 H q=k:=by unfold h9;rw[e]
def YI{h:Hp}(s:dF H q)(k:∀o,H q=δ o->h q=δ o):h9 h q=h9 H q:=by let⟨z,e⟩:=s;rw[JX e,JX$ k _ e]
def kM(B:ar H p)(s:dF H q)(k:ay p H h):h9 h q=h9 H q:=YI s λo e=>k _ _ (s.ne B) e
def ky(s:dF H q)(k:af H h):h9 h q=h9 H q:=YI s λo e=>k _ _ e
def HI(H:Hp)(c:π×List π)(v:V):Prop:=∃p t,v= .ref p/\H p=δ (.tup [.str c.1,.ref t])/\H t=δ (.tup$ c.2.map ti)
def dU(H:Hp):List (π×List π)->List V->Prop
 | [],a=>a=[]
 |c::C,a=>∃v r,a=v::r/\HI H c v/\dU H C r
theorem dU.mono(k:aj H b):∀{c:List (π×List π)} {a:List V},dU H c a->dU b c a
 | [],_,h=>h
 |_::_,_,z=>by obtain⟨v,r,e,⟨p,t,E,d,f⟩,g⟩:=z;exact #[v,r,e,#[p,t,E,k _ _ d,k _ _ f],dU.mono k g]
theorem dU.snoc(a:HI H c v):∀{C:List (π×List π)} {b:List V},dU H C b->dU H (C++[c]) (b++[v])
 | [],_,h=>by let e:_=[]:=h;rw[e];exact#[v,[],Z,a,Z]
 |_::_,_,z=>by let⟨u,r,e,d,f⟩:=z;exact #[u,r++[v],by rw[e];rfl,d,dU.snoc a f]
theorem dU.len:∀{c:List (π×List π)} {v:List V},dU H c v->v.length=c.length
 | [],_,h=>by let e:_=[]:=h;rw[e];rfl
 |_::_,_,z=>by let⟨u,r,e,b,a⟩:=z;rw[e,MZ,MZ,dU.len a]
theorem dU.at:∀{C:List (π×List π)} {b:List V},dU H C b->∀(i:Nat) (v:V),b[i]?=δ v->∃c,C[i]?=δ c/\HI H c v
 | [],_,h,i,v,a=>by let e:_=[]:=h;rw[e]at a;simp at a
 |c::_,_,q,0,v,a=>by let⟨u,r,e,d,f⟩:=q;rw[e]at a;cases a;exact#[c,Z,d]
 |_::C,_,q,i+1,v,a=>by let⟨u,r,e,d,f⟩:=q;rw[e]at a;simpa using dU.at f i v (by simpa using a)
def DU(h:dU H C a)(i:0<=k)(j:k < (a.length:Int)):∃v c,dM a k=δ v/\c∈C/\HI H c v:=by
 let b:k.toNat < a.length:=by omega
 let d:k=((k.toNat:Nat):Int):=by omega
 let E:a[k.toNat]?=δ a[k.toNat]:=Mw b;let e:dM a ((k.toNat:Nat):Int)=δ a[k.toNat]:=jP E;rw[<- d]at e;let⟨c,f,g⟩:=h.at _ _ E;exact#[_,c,e,ML f,g]
def Bd.fit(h:List (π×List π))(y:List π)(d:Nat)(b:Bd):Prop:=(b.Ok y/\b.Cs (h.map λc=>(c.1,c.2.length)))/\b.dep<=d
def ZN:Bd.fit h y d .nil:=#[#[trivial,trivial],MH _]
def CT{H:List (π×List π)}{l:Lf}(h:l.Ok y)(k:l.Cs (H.map λc=>(c.1,c.2.length))):Bd.fit H y d (.lf p l .nil):=#[#[#[h,trivial],k,trivial],MH _]
def ZO{a b:Bd}(h:a.fit H y d)(k:b.fit H y d):(a.app b).fit H y d:=#[#[KR h.1.1 k.1.1,KQ h.1.2 k.1.2],by rw[zL];let:=h.2;let:=k.2;omega]
def yd{a b:Bd}(c:dj y T)(h:a.fit H y d)(k:b.fit H y d):Bd.fit H y (d+1) (.ite p t T a b .nil):=#[#[#[c,h.1.1,k.1.1,trivial],h.1.2,k.1.2,trivial],by show max (max a.dep b.dep+1) 0<=d+1;let:=h.2;let:=k.2;omega]
def tN{a:Bd}(H:dj y T)(h:a.fit b y d):Bd.fit b y (d+1) (.loop p t T a .nil):=#[#[#[H,h.1.1,trivial],h.1.2,trivial],by show max (a.dep+1) 0<=d+1;let:=h.2;omega]
def Lj:Nat->Nat
 |0=>1
 |d+1=>1+2*(5*Lj d)
inductive i5(b:List V)(H:Hp)(Q:VK)(a:XK):Prop
 |mk(p g:ε)(c:List π)(_:b=[.ref p,.ref g])(_:ar H p)(_:H g=δ (.lst (c.map ti)))(_:1<=c.length)(_:c.length<=20)(_:∀(r:ε) (T:Tm) (H':Hp),aR H' T r->dj c T->ar H' p->ay p H H'->Q (.ref r) H')
structure nG(H:Hp)(p g h sp:ε)(ys:List π)(hs:List (π×List π)):Prop where
 B:ar H p
 g:H g=δ (.lst$ ys.map ti)
 y1:1<=ys.length
 y2:ys.length<=20
 h:∃hv,H h=δ (.lst hv)/\dU H hs hv
 h1:1<=hs.length
 h2:hs.length<=20
 h3:∀c∈hs,c.2.length<=6
 s:dF H sp
def nG.gsp{H:Hp}{p g h S:ε}{y:List π}{b:List (π×List π)}(G:nG H p g h S y b):g≠S:=by
 let⟨k,e⟩:=G.s;erw[jE G.g e λz=>?_];injection z with z;let c:=G.y1
 match y,c,z with
 |a::r,_,z=>injection z with d _;cases d
def nG.hsp{H:Hp}{p g h S:ε}{y:List π}{f:List (π×List π)}(G:nG H p g h S y f):h≠S/\h≠p:=by
 let⟨k,e⟩:=G.s;let⟨j,E,l⟩:=G.h;let⟨a,b,_,_,_,m⟩:=G.B.ob;let n:=G.h1;let:∃q r,j= .ref q::r:=by
  match f,n,l with
  |c::C,_,#[v,r,e,#[q,t,o,_],_]=>exact#[q,r,by rw[e,o]]
 let⟨q,r,rfl⟩:=this;erw[#[jE E e λz=>?_,jE E m λz=>?_]]
 .injection z with z;injection z with d _;cases d
 .injection z with z;injection z with d _;cases d
def nG.but2{H a:Hp}{p g h S:ε}{y:List π}{b:List (π×List π)}(G:nG H p g h S y b)(B:ar a p)(s:dF a S)(k:aZ p S H a):nG a p g h S y b:=by let⟨c,e,E⟩:=G.h;exact#[B,k _ _ (qK G.B G.g) G.gsp G.g,G.y1,G.y2,#[c,k _ _ G.hsp.2 G.hsp.1 e,E.mono$ k.tm G.B G.s],G.h1,G.h2,G.h3,s]
def nG.but{H a:Hp}{p g h S:ε}{y:List π}{b:List (π×List π)}(G:nG H p g h S y b)(B:ar a p)(k:ay p H a):nG a p g h S y b:=G.but2 B (G.s.but G.B k) k.two
inductive lF(n:Nat)(f:List V)(H:Hp)(Q:VK)(a:XK):Prop
 |mk(p g h e:ε)(d:Nat)(i:List π)(c:List (π×List π))(_:f=[.ref p,.ref g,.ref h,.ref e,.int (d:Int)])(_:nG H p g h e i c)(_:d < n)(_:0 < h9 H e)(_:∀(r:ε) (b:Bd) (H':Hp),de H' b [.ref r]->(b.size:Int)+h9 H' e<=h9 H e->0<=h9 H' e->b.fit c i d->ar H' p->dF H' e->aZ p e H H'->Q (.ref r) H')
inductive ig(n:Nat)(f:List V)(H:Hp)(Q:VK)(a:XK):Prop
 |mk(p g h e:ε)(d:Nat)(i:List π)(c:List (π×List π))(_:f=[.ref p,.ref g,.ref h,.ref e,.int (d:Int)])(_:nG H p g h e i c)(_:d < n)(_:0<=h9 H e)(_:∀(r:ε) (b:Bd) (bs:List V) (H':Hp),H' r=δ (.tup bs)->de H' b bs->(b.size:Int)+h9 H' e<=h9 H e->0<=h9 H' e->b.fit c i d->ar H' p->dF H' e->aZ p e H H'->Q (.ref r) H')
def v0:ak ["_law_box_here","_law_names_here","_law_kind"] z31z (ae vK):=bQ
def yQ(F:xa K "_law_spot" vK f M)(C:‹1› Y N z0z aY "_law_take")(O:‹6› fM R z10z (c8 4) "_law_term"):⇑7 f M z31z i5:=by
 erw[F.ok v0 λS A o s H vs Q E a h=>?_]
 let⟨p,g,y,rfl,B,I,i,j,q⟩:=h;erw[#[_,(jd (jz 2 v0.nd$ C.e a.m$ ja (pv 0)$ ja jf jb)$ jd (jx (jB Kz (pv 2) jf$ ax _) (jg$ jm$ O.e a$ ja (pv 0)$ ja (pv 1)$ ja jf jb) jo)$ jd (jx (zo$ pv 2) (jg$ jm$ jh$ ja jj$ ja (jw kQ (jw kQ (jw JU jf jf) jf)$ C.e a.m$ ja (pv 0)$ ja jf jb) jb) jo)$ jg$ jm$ jh$ ja jj$ ja (C.e a.m$ ja (pv 0)$ ja jf jb) jb),?_]];let k:g≠p:=qK B I;erw[#[_,Z,p,8,Z,B,LO,LO,λkd J k0 k1 l L=>?_]];let t:J g=δ (.lst$ y.map ti):=by rw[L g k];exact I
 let u:ay p H J:=ay.of_eq L;erw[#[_,Z,_,_,Z,Z,_,Z,?_]];erw[b8 (λc=>?_) (λc=>?_)]
 .exact#[_,Z,_,Z,p,g,1,y,Z,l,t,i,j,LO,LO,λr T v U dT W b X=>q r T v U #[W,LN] b (u.trans X)]
 erw[#[_,Z,Z,_,Z,?_]];erw[b8 (λc=>?_) (λc=>?_)]
 .erw[#[_,_,Z,Z,#[LO,LO,LO],_,_,Z,Z,_,Z,p,4,Z,l,LO,LO,λD v d x b z=>#[_,_,Z,Z,bg,λr n=>?_]]];exact q r (.num (1000000000000000000 - 1 - D)) _ jc #[#[LN,LN],(by show 0 < 6;decide)] (b.upd_new n) ((u.trans$ ay.of_eq z).upd_new n)
 .erw[#[_,Z,p,12,Z,l,LO,LO,λD v d x b z=>#[bg,λr n=>?_]]];exact q r (.num D) _ jc #[#[d,LN],(by show 0 < 6;decide)] (b.upd_new n) ((u.trans$ ay.of_eq z).upd_new n)
def lE:ak z41z z6z (ae vL):=bQ
def sf:hJ:=#[.function,[(".0",.local),("_law_one",.local),("_law_term",.globalImplicit),("_law_box_here",.free),("_law_names_here",.free)],μ,μ,[]]
def Dk:(z36z:List π).Nodup:=by decide+kernel
def CB:aV z41z (ae vL) sf z36z 1 [0,1]:=nS
def RH(p g h s:ε)(d:Nat)(k:Int)(y:π)(H:Hp)(a:_L.St)(b:Hp):Prop:=a=[↑p,↑g,↑h,↑s,δ$ .int (d:Int),δ$ .int k,δ$ .str y,ζ,ζ,ζ]/\b=H
def DB(F:xa K "_law_statement" vL f fd)(cT:‹1› fT f0 z0z aY "_law_take")(cM:‹6› fM f3 z10z (c8 4) "_law_term")(cP:‹7› fP f4 z31z i5 "_law_spot"){L:Nat}(cB:‹L+9› fB f5 z6z (ig n) "_law_body")(ml:mg "len"=ζ)(m0:mg "tuple"=ζ):⇑(L+10) f fd z6z (lF$ n+1):=by
 erw[F.ok lE λc3 A o2 s H vs Q E U h=>?_]
 symm;let⟨p,g,h,S,d,ys,hs,rfl,G0,hd,b7,q⟩:=h;erw[#[_,(jd (jz 5 lE.nd$ cT.e U.m$ ja (pv 0)$ ja jf jb)$ jd (jz 6 lE.nd$ jr jp (pv 1) (cT.e U.m$ ja (pv 0)$ ja (jF jL Z ml NQ$ ja (pv 1) jb) jb) (λ_ _=>Z))$ jd (zd (jw kQ (jr jp (pv 3) jf (λ_ _=>Z)) jf)$ Jm (pv 3) jf zU)$ jd (jx (jB Kz (pv 5) jf$ ax _) (jg$ jm$ jh$ ja jj$ ja (pv 6)$ ja (cP.e U.m$ ja (pv 0)$ ja (pv 1) jb) jb) jo)$ jd (jx (PW.pt$ Zr (zo$ pv 5)$ Xo$ zo$ pv 5) (jg$ jm$ jh$ ja jj$ ja (cP.e U.m$ ja (pv 0)$ ja (pv 1) jb)$ ja (cM.e U.m$ ja (pv 0)$ ja (pv 1)$ ja jf jb) jb) jo)$ jd (jx (PW.pt$ Zr (zo$ pv 5)$ Xo$ zo$ pv 5) (jd (zd (jr jp (pv 2) (cT.e U.m$ ja (pv 0)$ ja (jF jL Z ml NQ$ ja (pv 2) jb) jb) (λ_ _=>Z))$ qg (n:=2) Z$ jA (ju (i:=7) lE.nd Z$ Δ Z)$ jA (ju (i:=8) lE.nd Z$ Δ Z) kH)$ jg$ jm$ jh$ ja jj$ ja (pv 6)$ ja (pv 7)$ ja (jC jG Z m0 Of$ ja (@kY _ _ _ _ _ _ _ (z36z) (1) ([0,1]) _ _ _ _ Z (zp$ pv 8) CB (λ_ _ _ _ _=>(ju (i:=0) Dk Z$ Δ Z)) (λ_ _ _ _ _=>(@zR _)) (λ_ _ _ _ _=>(cM.e U.m$ ja (pv 1)$ ja (pv 2)$ ja jf jb)) (by intro _;rfl)) jb) jb) jo)$ jd (j5$ jx (PW.pt$ KK (zo$ pv 5)$ Jz$ jB J9 (pv 4) jf$ ax _) (jd (jz 9 lE.nd$ cB.e U$ ja (pv 0)$ ja (pv 1)$ ja (pv 2)$ ja (pv 3)$ ja (jw kQ (pv 4) jf) jb)$ jg$ jm$ jh$ ja jj$ ja (cM.e U.m$ ja (pv 0)$ ja (pv 1)$ ja jf jb)$ ja (pv 9)$ ja (cB.e U$ ja (pv 0)$ ja (pv 1)$ ja (pv 2)$ ja (pv 3)$ ja (jw kQ (pv 4) jf) jb) jb) jo)$ jd (j5$ jx (PW.pt$ KK (zo$ pv 5)$ Jz$ jB J9 (pv 4) jf$ ax _) (jg$ jm$ jh$ ja jj$ ja (cM.e U.m$ ja (pv 0)$ ja (pv 1)$ ja jf jb)$ ja (cB.e U$ ja (pv 0)$ ja (pv 1)$ ja (pv 2)$ ja (pv 3)$ ja (jw kQ (pv 4) jf) jb) jb) jo)$ jd (jx (zo$ pv 5) (jg$ jm$ jh$ ja jj$ ja (cM.e U.m$ ja (pv 0)$ ja (pv 1)$ ja jf jb) jb) jo)$ jg$ jm$ jh$ ja jj$ ja (pv 6)$ ja (cM.e U.m$ ja (pv 0)$ ja (pv 1)$ ja jf jb) jb),?_]];let b9:=aJ;let B:=G0.B;let c4:g≠p:=qK B G0.g;sleep 9;erw[ah λF1 u=>#[_,Z,p,10,Z,B,LO,LO,λkd H1 k0 k1 B1 e1=>u _ _ ?_]];clear u;left;let G1:=G0.but B1 (ay.of_eq e1);let y1:=G0.y1;let y2:=G0.y2;erw[ah λF1 u=>#[_,Z,_,Z,_,Z,g,_,Z,.inl$ aF.of G1.g,p,_,Z,B1,by rw[Mv];omega,by rw[Mv];omega,λd2 H2 d1 d0 B2 e2=>?_]];rw[Mv]at d0;let G2:=G1.but B2 (ay.of_eq e2);symm;let⟨y,hy,a2⟩:=KP (ys:=ys) d1 d0;erw[#[g,_,_,_,Z,Z,aF.of G2.g,a2,u _ _ ?_]];clear u;left;symm;let⟨k,hk⟩:=G2.s;let ek:h9 H S=k:=((kM B1 G1.s$ ay.of_eq e2).trans$ kM B G0.s$ ay.of_eq e1).symm.trans (JX hk);erw[ah λF1 u=>#[_,Z,S,_,_,_,Z,Z,aF.of hk,Z,_,_,Z,Z,_,Z,S,_,_,0,Z,Z,hk,Z,u _ _ ?_]];clear u;left;let s0:=G2.s.ne B2;let B3:ar (upd H2 S$ .lst ([.int k].set 0 (.int$ k - 1))) p:=B2.eq (ji$ MU s0);let s3:dF (upd H2 S$ .lst ([.int k].set 0 (.int$ k - 1))) S:=#[k - 1,jc];let K3:aZ p S H (upd H2 S$ .lst ([.int k].set 0 (.int$ k - 1))):=((ay.of_eq e1).trans$ ay.of_eq e2).two.trans aZ.at;let G:=G0.but2 B3 s3 K3;let e3:h9 (upd H2 S$ .lst ([.int k].set 0 (.int$ k - 1))) S=k - 1:=JX jc;generalize upd H2 S (.lst ([.int k].set 0 (.int$ k - 1)))=H3 at B3 s3 K3 G e3;let l0:∀(l:Lf) (M:List V) (j:Hp) (r:ε),xu j l M->l.Ok ys->l.Cs (hs.map λc=>(c.1,c.2.length))->nG j p g h S ys hs->aZ p S H j->h9 j S=k - 1->j r=ζ->Q (.ref r) (upd j r$ .tup M):=λl M j r hl ok cs C K4 e4 nr=>
  q r (.lf r l .nil) _ #[M,[],Z,jc,hl.mono$ af.tm$ je nr,Z] (by rw[ky C.s$ je nr];show((0+1:Nat):Int)+_<=_;omega) (by rw[ky C.s$ je nr];omega) (CT ok cs) (C.B.upd_new nr) (C.s.new nr) (K4.trans$ aZ.of_same$ je nr)
 erw[ah λF1 u=>oK λG' D=>#[_,Z,_,_,Z,Z,_,Z,D _ _ ?_]];clear D;erw[b8 (λc=>?_) (λc=>u _ _ ?_)]
 .erw[#[_,Z,_,Z,_,Z,p,g,ys,Z,G.B,G.g,y1,y2,λr T j W oT B4 J=>#[eJ,λt N=>?_]]];exact l0 (.rd y r T) _ j t #[Z,W] #[hy,oT] trivial (G.but B4 J) (K3.trans J.two) ((kM G.B G.s J).trans e3) N
 let wr:∀(r:ε) (T0:Tm) (j:Hp),aR j T0 r->dj ys T0->ar j p->ay p H3 j->dR (c8 4) [] E0 (al (a5 0)$ al (a5 1)$ al (tC$ .int 2) aK) [↑p,↑g,↑h,↑S,δ$ .int (d:Int),δ$ .int kd,δ$ .str y,ζ,ζ,ζ] j (λv o=>3<=τ/\∀t,o t=ζ->Q (.ref t) (upd o t$ .tup [.str "write",.ref r,v])):=λr T0 j h4 o1 B4 J=>by erw[#[_,Z,_,Z,p,g,2,ys,Z,B4,(G.but B4 J).g,y1,y2,LO,LO,λX T o W dT gT R a=>#[LO,λt N=>?_]]];exact l0 (.wr r X T0 T) _ o t #[Z,h4.but B4 a,W] #[o1,gT,LN] trivial (G.but R$ J.trans a) (K3.trans (J.trans a).two) ((kM G.B G.s$ J.trans a).trans e3) N
 erw[ah λF1 u=>oK λG' D=>?_];let Y:G' ν H3:=D _ _ (C4 #[_,Z,_,Z,p,g,ys,Z,G.B,G.g,y1,y2,λr T0 j h4 o1 B4 J=>wr r T0 j h4 o1 B4 J]);erw[#[_,Z,Z,_,Z,b8 (λc=>Y) (λc=>#[_,Z,Z,_,Z,Bk Y λc2=>D _ _ (aI c2$ u _ _ ?_)])]];clear Y D u;symm;let⟨hv,hh,hH⟩:=G.h;let hl:=hH.len;let h1:=G0.h1;let h2:=G0.h2;let c1:∀(f':π) (ps:List π) (h':(f',ps.length)∈hs.map λc=>(c.1,c.2.length)) (t:ε) (j:Hp),nG j p g h S ys hs->aZ p S H j->h9 j S=k - 1->j t=δ (.tup$ ps.map ti)->ps.length<=6->
   fq (xq K t) 1 [↑p,↑g] (bn 0) ny (dR (c8 4) [] E0$ al (a5 1)$ al (a5 2)$ al (tC$ .int 1) aK) (λM o=>∀l,o l=ζ->∃p' y0,[vr l]=[.ref p']/\((aF K (upd o l$ .lst M) p' y0/\∀l2,upd o l (.lst M) l2=ζ->4<=τ/\∀r,upd (upd o l$ .lst M) l2 (.tup y0) r=ζ->Q (.ref r) (upd (upd (upd o l$ .lst M) l2$ .tup y0) r$ .tup [.str "call",.str y,.str f',.ref l2]))∨(aB K (upd o l$ .lst M) p' y0/\4<=τ/\∀r,upd o l (.lst M) r=ζ->Q (.ref r) (upd (upd o l$ .lst M) r$ .tup [.str "call",.str y,.str f',.ref p'])))) j:=λf' ps h' t j C K4 e4 ht c5=>by
  erw[zP (K:=K) (xs:=ps.map ti) (by rw[Mv];omega) (λi M o=>∃ts:List (ε×Tm),M=ts.map (λc=>vr c.1)/\ts.length=i/\(∀c∈ts,aR o c.2 c.1/\dj ys c.2)/\ar o p/\ay p j o) #[[],Z,Z,(λ_ h=>absurd h MO),C.B,ay.refl] (λi M o h5=>?_) ?_ ?_]
  .symm;let⟨ts,rfl,e5,_,_,a⟩:=h5;exact#[aB.of$ a.tm C.B _ _ ht,by rw[Mv,e5];exact Mx _]
  .intro i x M o hx a3;symm;let⟨ts,rfl,e5,h5,R,a⟩:=a3;erw[#[_,Z,_,Z,p,g,1,ys,Z,R,(C.but R a).g,y1,y2,LO,LO,λX T H6 W dT gT B6 k6=>#[ts++[(X,T)],by rw[M0];rfl,by rw[Mz,e5];rfl,λc hc=>?_,B6,a.trans k6]]];symm;rcases γ.mp hc with hc |hc
   .exact#[(h5 c hc).1.but R k6,(h5 c hc).2]
   .right;rw[ρ.mp hc];exact#[W,gT,(by show T.depth < 6;omega)]
  .rintro M o ⟨ts,rfl,e5,h5,R,a⟩ l nl;erw[#[l,_,Z,.inl #[aF.of jc,λl2 n0=>#[LO,λr nr=>?_]]]];let O:=C.but R a;let s6:af o (upd (upd o l$ .lst$ ts.map λc=>vr c.1) l2$ .tup$ ts.map λc=>vr c.1):=(je nl).trans (je n0);rw[Mv]at e5;exact l0 (.cl y f' l2 ts) _ _ r #[Z,jc,λc hc=>(h5 c hc).1.same s6] #[hy,LN,λc hc=>(h5 c hc).2] (by show(f',ts.length)∈_;rw[e5];exact h') (O.but2 ((O.B.upd_new nl).upd_new n0) ((O.s.new nl).new n0)$ aZ.of_same s6) ((K4.trans a.two).trans$ aZ.of_same s6) ((ky O.s s6).trans ((kM C.B C.s a).trans e4)) nr
 erw[ah λF1 u=>oK λG' D=>?_];let Y:G' ν H3:=by erw[D _ _$ C4 ?_];clear u D;erw[ah λF2 f2=>#[_,Z,_,Z,_,Z,h,_,Z,.inl$ aF.of hh,p,_,Z,G.B,LN,LN,λd4 j d3 d5 B4 e4=>?_]];let C:=G.but B4 (ay.of_eq e4);let J:ay p H3 j:=ay.of_eq e4;let a4:=hH.mono (J.tm G.B);let⟨v,c0,a',a0,p4,t4,rfl,z1,z2⟩:=DU a4 d3 d5;erw[#[h,_,_,_,Z,Z,aF.of$ J _ _ G.hsp.2 hh,a',p4,_,Z,aB.of z1,Z,_,_,Z,_,_,Z,Z,f2 _ _ ?_]];clear f2;left;erw[#[_,Z,_,Z,_,Z,t4,Z,#[_,aB.of z2],?_]];exact c1 c0.1 c0.2 (bS.mpr #[c0,a0,Z]) t4 j C (K3.trans J.two) ((kM G.B G.s J).trans e3) z2$ G0.h3 c0 a0
 erw[#[_,Z,Z,_,Z,b8 (λc=>Y) (λc=>#[_,Z,Z,_,Z,Bk Y λc2=>D _ _ (aI c2$ u _ _ ?_)])]];clear Y D u;let l1:∀(c:(0:Int) < (d:Int)),∃d':Nat,d=d'+1:=λc=>#[d - 1,LN];erw[ah λF1 u=>dN (RH p g h S d kd y H3) (λE6 eR f6=>?_) λσ0 H' z=>?_]
 .clear u;left;erw[oK λG' D=>#[_,Z,Z,_,Z,?_]];erw[b8 (λc=>?_) (λc=>D _ _ (yk$ f6 _ _ #[Z,Z]))];erw[#[_,Z,_,_,Z,Z,_,Z,D _ _ ?_]];clear D;erw[b8 (λc2=>?_) (λc2=>f6 _ _ #[Z,Z])];clear f6;symm;let⟨d',rfl⟩:=l1 (Nu c2);let ed:(((d'+1:Nat):Int) - 1)=((d':Nat):Int):=by omega
  erw[#[_,Z,_,Z,_,Z,_,Z,_,Z,_,_,Z,Z,p,g,h,S,d',ys,hs,(by show [vr p,vr g,vr h,vr S,tT (((d'+1:Nat):Int) - 1)]=_;rw[ed]),G,LN,LN,λr b bs j b1 b2 c6 b4 b5 B4 s4 J=>?_]];let C:=G.but2 B4 s4 J;erw[#[_,Z,_,Z,p,g,2,ys,Z,C.B,C.g,y1,y2,LO,LO,λX T o W dT gT R a=>?_]];let O:=C.but R a;erw[#[_,Z,_,Z,_,Z,_,Z,_,Z,_,Z,_,_,Z,Z,p,g,h,S,d',ys,hs,(by show [vr p,vr g,vr h,vr S,tT (((d'+1:Nat):Int) - 1)]=_;rw[ed]),O,LN,(by rw[kM C.B C.s a];exact b4),λr3 b3 b0 H6 h6 h7 a1 h8 h0 B6 s6 k6=>#[wE,λt N=>?_]]];let G6:=O.but2 B6 s6 k6;let tm:aj j H6:=λb' xs e=>k6.tm O.B O.s _ _ (a.tm C.B _ _ e);let I:aj H6 (upd H6 t$ .tup [.str "if",.ref X,.ref r,.ref r3]):=af.tm (je N);rw[eR];erw[q t (.ite t X T b b3 .nil) _ #[r,r3,bs,b0,[],Z,jc,(W.mono$ k6.tm O.B O.s).mono I,I _ _$ tm _ _ b1,I _ _ h6,(b2.mono tm).mono I,h7.mono I,Z] (by let x1:=kM C.B C.s a;rw[ky G6.s$ je N];show((b.size+b3.size+0+1:Nat):Int)+_<=_;omega) (by rw[ky G6.s$ je N];exact h8) (yd #[gT,LN] b5 h0) (G6.B.upd_new N) (G6.s.new N) (((K3.trans J).trans$ a.two.trans k6).trans$ aZ.of_same$ je N)]
 symm;let⟨rfl,e⟩:=z;right;rw[e];erw[u _ _ ?_];clear u;left;erw[ah λF1 u=>dN (RH p g h S d kd y H3) (λE6 eR f6=>?_) λσ0 H' z=>?_]
 .clear u;left;erw[oK λG' D=>#[_,Z,Z,_,Z,?_]];erw[b8 (λc=>?_) (λc=>D _ _ (yk$ f6 _ _ #[Z,Z]))];erw[#[_,Z,_,_,Z,Z,_,Z,D _ _ ?_]];clear D;erw[b8 (λc2=>?_) (λc2=>f6 _ _ #[Z,Z])];clear f6;symm;let⟨d',rfl⟩:=l1 (Nu c2);let ed:(((d'+1:Nat):Int) - 1)=((d':Nat):Int):=by omega
  erw[#[_,Z,_,Z,p,g,2,ys,Z,G.B,G.g,y1,y2,LO,LO,λX T o W dT gT R a=>?_]];let O:=G.but R a;erw[#[_,Z,_,Z,_,Z,_,Z,_,Z,_,_,Z,Z,p,g,h,S,d',ys,hs,(by show [vr p,vr g,vr h,vr S,tT (((d'+1:Nat):Int) - 1)]=_;rw[ed]),O,LN,(by rw[kM G.B G.s a];omega),λr3 b3 b0 H6 h6 h7 a1 h8 h0 B6 s6 k6=>#[eJ,λt N=>?_]]];let G6:=O.but2 B6 s6 k6;let I:aj H6 (upd H6 t$ .tup [.str "while",.ref X,.ref r3]):=af.tm (je N);rw[eR];erw[q t (.loop t X T b3 .nil) _ #[r3,b0,[],Z,jc,(W.mono$ k6.tm O.B O.s).mono I,I _ _ h6,h7.mono I,Z] (by let x1:=kM G.B G.s a;rw[ky G6.s$ je N];show((b3.size+0+1:Nat):Int)+_<=_;omega) (by rw[ky G6.s$ je N];exact h8) (tN #[gT,LN] h0) (G6.B.upd_new N) (G6.s.new N) ((K3.trans$ a.two.trans k6).trans$ aZ.of_same$ je N)]
 symm;let⟨rfl,e⟩:=z;right;rw[e];erw[u _ _ ?_];clear u;left;erw[ah λF1 u=>oK λG' D=>#[_,Z,Z,_,Z,D _ _ ?_]];clear D;erw[b8 (λc=>?_) (λc=>u _ _ ?_)]
 .erw[#[_,Z,_,Z,p,g,2,ys,Z,G.B,G.g,y1,y2,LO,LO,λX T o W dT gT R a=>#[bg,λt N=>?_]]];exact l0 (.gv X T) _ o t #[Z,W] #[gT,LN] trivial (G.but R a) (K3.trans a.two) ((kM G.B G.s a).trans e3) N
 .erw[#[_,Z,_,Z,_,Z,p,g,3,ys,Z,G.B,G.g,y1,y2,LO,LO,λX T o W dT gT R a=>#[eJ,λt N=>?_]]];exact l0 (.st y X T) _ o t #[Z,W] #[hy,gT,LN] trivial (G.but R a) (K3.trans a.two) ((kM G.B G.s a).trans e3) N
def oi:ak ["_law_box_here","_law_names_here","_law_heads","_law_spare","_law_deep","_law_body_here","_law_k"] z6z (ae oR):=bQ
def ZP(F:xa K "_law_body" oR f fd)(cT:‹1› fT f0 z0z aY "_law_take"){L:Nat}(cS:‹L+8› fS f1 z6z (lF n) "_law_statement")(mr:mg "range"=ζ)(m2:mg "tuple"=ζ):⇑(L+9) f fd z6z (ig n):=by
 erw[F.ok oi λc0 A o1 s H v Q E hr h=>?_]
 let⟨p,g,h,S,d,ys,hs,rfl,G,hd,h0,q⟩:=h;erw[#[_,(jd (jz 5 oi.nd$ jD jb)$ jd (kP Ni Z (zr Z mr$ ja (cT.e hr.m$ ja (pv 0)$ ja jf jb) jb) (ju (i:=6) oi.nd Z$ Δ Z)$ jg$ jx (jB J9 (jr jp (pv 3) jf (λ_ _=>Z)) jf$ ax _) (jg$ jT$ zh M4 M7 M6 jQ (pv 5)$ ja (cS.e hr$ ja (pv 0)$ ja (pv 1)$ ja (pv 2)$ ja (pv 3)$ ja (pv 4) jb) jb) jo)$ jg$ jm$ jC jG Z m2 Of$ ja (pv 5) jb),?_]];let b0:=aJ;erw[#[MH _,λl N=>?_]];let s0:af H (upd H l$ .lst []):=je N;let O:nG (upd H l$ .lst []) p g h S ys hs:=G.but2 (G.B.upd_new N) (G.s.new N) (aZ.of_same s0);let l1:upd H l (.lst []) l=δ (.lst []):=jc;let lp:l≠p:=G.B.ne N;let D:l≠S:=λe=>by let⟨k,z⟩:=G.s;rw[<- e,N]at z;cases z
 let k1:aZ p S H (upd H l$ .lst []):=aZ.of_same s0;let R:h9 (upd H l$ .lst []) S=h9 H S:=ky G.s s0;generalize upd H l (.lst [])=H1 at O l1 k1 R;erw[#[_,Z,p,6,Z,O.B,LO,LO,λm H2 m0 m1 B2 e2=>#[_,Z,LN,LN,?_]]];let G2:=O.but B2 (ay.of_eq e2);refine QX (lo:=0) (λi σ I=>∃(o6:Option V) (v:List V) (b:Bd),σ=[↑p,↑g,↑h,↑S,δ$ .int (d:Int),↑l,o6]/\I l=δ (.lst v)/\de I b v/\((b.size:Int)+h9 I S<=h9 H S/\0<=h9 I S)/\b.fit hs ys d/\v.length<=i/\ar I p/\dF I S/\aZ p S H I)
  #[ζ,[],.nil,Z,by rw[e2 l lp];exact l1,Z,(by rw[kM O.B O.s$ ay.of_eq e2,R];exact#[by show((0:Nat):Int)+_<=_;omega,h0]),ZN,MH _,B2,G2.s,k1.trans (ay.of_eq e2).two] ?_ ?_
 .intro i σ H3 hi J;let⟨o6,v,b,rfl,a,u,j,x,h1,T,C,U⟩:=J;let G3:=G.but2 T C U;let⟨kk,W⟩:=id C;erw[#[_,Z,S,_,_,_,Z,Z,aF.of W,Z,_,_,Z,Z,_,Z,?_]];refine b8 (λc=>?_) (λc=>?_)
  .erw[#[_,Z,.inl #[Z,_,aF.of a],_,Z,_,Z,_,Z,_,Z,_,Z,p,g,h,S,d,ys,hs,Z,G3,hd,(by rw[JX W];exact Nu c),λr b4 H4 h2 h5 h3 h4 B4 s4 k4=>?_]];let X:H4 l=δ (.lst v):=k4 _ _ lp D a;erw[#[l,_,_,Z,Z,X,LN,?_]];let tm:aj H4 (upd H4 l$ .lst$ v++[.ref r]):=λb' xs e=>by rw[ji$ jE e X (by intro z;cases z)];exact e
   let Y:aj H3 H4:=k4.tm T C;erw[#[_,_,b.app b4,Z,jc,(h2.mono tm).app ((u.mono Y).mono tm),?_,ZO x h4,by rw[Mz];show v.length+1<=i+1;omega,B4.eq$ ji$ MU lp,?_,λb' o n1 n2 e=>?_]]
   .rw[jX,YI s4 λo e=>by rw[ji$ MU D];exact e];let⟨z1,z2⟩:=j;exact#[LN,h3]
   .let⟨z,hz⟩:=s4;exact#[z,by rw[ji$ MU D];exact hz]
   .rw[ji$ jk e N];exact k4 _ _ n1 n2$ U _ _ n1 n2 e
  .exact#[_,v,b,Z,a,u,j,x,LN,T,C,U]
 .intro σ H3 J;let⟨o6,v,b,rfl,a,u,j,x,h1,T,C,U⟩:=J;erw[#[_,Z,l,v,Z,.inl #[aF.of a,λt M=>?_]]];let hm:(m).toNat<=5:=by omega
  erw[q t b v _ jc (u.mono$ af.tm$ je M) (by rw[ky C$ je M];exact j.1) (by rw[ky C$ je M];exact j.2) x (T.upd_new M) (C.new M)$ U.trans$ aZ.of_same$ je M]
def uE:⇑8 f c z6z (lF 0):=by
 let n:∀v H Q E,¬lF 0 v H Q E:=λv H Q E h=>by let⟨p,g,h,S,d,y,e,_,_,b,_⟩:=h;exact absurd b$ OU _
 exact#[λv H Q E h=>absurd h (n v H Q E),λA o s H a u v Q E _ _ _ _ h=>absurd h (n v H Q E)]
theorem Hg(F:xa K "_law_statement" vL f e)(FB:xa K "_law_body" oR g a)(c:‹1› r k z0z aY "_law_take")(C:‹6› s l z10z (c8 4) "_law_term")(h:‹7› t o z31z i5 "_law_spot")(b:au K e z6z [])(M:mg "_law_statement"=↑f)(B:au K a z6z [])(i:mg "_law_body"=↑g)(j:mg "len"=ζ)(m:mg "tuple"=ζ)(d:mg "range"=ζ):
  ∀n:Nat,⇑(n+n+8) f e z6z (lF n)/\⇑(n+n+9) g a z6z (ig n)
 |0=>#[uE,ZP (L:=0) FB c #[uE,b,F.kp,M] d m]
 |n+1=>by
  let I:=Hg F FB c C h b M B i j m d n;let E:n+n+10=n+1+(n+1)+8:=by omega
  let p:n+n+2+9=n+1+(n+1)+9:=by omega
  let H:=DB (L:=n+n) F c C h #[I.2,B,FB.kp,i] j m;let q:=ZP (L:=n+n+2) FB c #[H,b,F.kp,M] d m;rw[<- E,<- p];exact#[H,q]
def Fi{x:List V}(h:k<=x.length):aX x ζ (δ (k:Int))=x.take k:=by
 unfold aX;rw[HT.sIx_nat,HT.sIx_none];let e:min k x.length=k:=by omega
 rw[e];simp
abbrev DV:da:=top 59
def xZ(h:0<=d)(H:d < 4):∃D:Nat,dM [tT 3,.int 3,.int 3,.int 5] d=δ (.int (D:Int))/\D < 6/\Lj D<=111111/\D<=5:=by
 rcases(by omega:d=0∨d=1∨d=2∨d=3) with rfl |rfl |rfl |rfl
 .exact#[3,Z,LO,LO,LO]
 .exact#[3,Z,LO,LO,LO]
 .exact#[3,Z,LO,LO,LO]
 .exact#[5,Z,LO,LO,LO]
def sX{ys:List π}{k:Int}(h:ys.length=20)(H:14<=k)(a:k<=20):1<=(bf ys (δ 8)$ δ k).length/\(bf ys (δ 8)$ δ k).length<=20:=by
 erw[#[?_,by let:=qV ys (δ 8) (δ k);omega]];let e:(8:Int)=((8:Nat):Int):=rfl;let E:k=((k.toNat:Nat):Int):=by omega
 unfold bf;rw[e,E,HT.sIx_nat,HT.sIx_nat,M1,Og];omega
def xX{ss:List π}(h:0<=k):(bf ss ζ$ δ k).length<=k.toNat:=by
 let e:k=((k.toNat:Nat):Int):=by omega
 unfold bf;rw[e,HT.sIx_nat,HT.sIx_none,M1];omega
def gV{t u:TS}(h:∀E:a6,(∀a b,u D a b->E.nx a b)->t E c H):cy t u D c H:=h { D with nx:=u D } λ_ _ h=>h
def ES(h:List (π×List π)):Prop:=∀c∈h,c.1.length<=20/\c.2.length<=6
def Ln(H:Hp)(D:List Df):Prop:=∀d∈D,∃p:List π,H d.pa=δ (.tup$ p.map ti)/\p.length<=100
def qW{a:Type}{P:a->Prop}{X:List a}{x:a}(h:∀c∈X,P c)(H:P x):∀c∈X++[x],P c:=λc b=>by
 rcases γ.mp b with h1 |h1
 .exact h c h1
 .rw[ρ.mp h1];exact H
def i8(H:Hp)(D:List Df)(N:List Nat):Prop:=D.length=N.length/\∀(i:Nat) (d:Df) (n:Nat),D[i]?=δ d->N[i]?=δ n->∃p:List π,H d.pa=δ (.tup$ p.map ti)/\p.length=n/\n<=100
def i8.mono(h:i8 H D N)(k:aj H a):i8 a D N:=#[h.1,λi d n b c=>let #[p,e,l]:=h.2 i d n b c;#[p,k _ _ e,l]]
def i8.snoc{d:Df}{p:List π}(h:i8 H D N)(e:H d.pa=δ (.tup$ p.map ti))(l:p.length<=100):i8 H (D++[d]) (N++[p.length]):=by
 erw[#[by rw[Mz,Mz,h.1];rfl,λi c n a b=>?_]];by_cases f:i < D.length
 .rw[Oq f]at a;rw[Oq (by rw[<- h.1];exact f)]at b;exact h.2 i c n a b
 .let g:i < (D++[d]).length:=(χ.mp a).1;rw[Mz]at g;let E:i=D.length:=by let:i < D.length+1:=g;omega
  subst E;rw[NZ$ Mx _,Pn]at a;rw[h.1,NZ$ Mx _,Pn]at b;cases a;cases b;exact#[p,e,Z,l]
def i8.v(h:i8 H D n):Ln H D:=λd b=>by
 let⟨i,a,e⟩:=kv.mp b;let c:D[i]?=δ d:=by rw[<- e];exact Mw a
 let⟨p,e,l,k⟩:=h.2 i d _ c (Mw (by rw[<- h.1];exact a));exact#[p,e,LN]
def lI(D:List Df)(n:List Nat):Prop:=(∀d∈D,i' d/\d.b.Cs ((D.map Df.f).zip n))/\(D.map Df.f).Nodup/\∀y∈D.map Df.f,y.length<=20
inductive ph(c:List V)(H:Hp)(Q:VK)(a:XK):Prop
 |mk(p:ε)(T b:Int)(_:c=[.ref p,.int T,.int b])(_:ar H p)(_:1<=T)(_:T<=8)(_:0<=b)(_:b<=40)(_:∀(r:ε) (ds:List Df) (xs:List V) (H':Hp),H' r=δ (.tup xs)->b6 H' ds xs->(ds.length:Int)=T->∀ns:List Nat,lI ds ns->i8 H' ds ns->eG (ds.map Df.f)->ar H' p->ay p H H'->Q (.ref r) H')
def db:ak ["_law_box_here","_law_total","_law_room","_law_words","_law_most","_law_heads","_law_k","_law_turn_here","_law_row","_law_some","_law_deep","_law_defs","_law_f","_law_params","_law_spare","_law_body_here"] z37z (ae DV):=bQ
inductive AJ(p k:ε)(T j:Int)(H:Hp)(b:_L.St)(c:Hp):Prop
 |mk(a:List π)(d:b=[↑p,δ (.int T),δ (.int j),↑k,ζ,ζ,ζ,ζ,ζ,ζ,ζ,ζ,ζ,ζ,ζ,ζ])(e:c k=δ (.lst (a.map ti)))(f:a.length=20)(g:(∀y∈a,y.length<=20)/\(a.take 8).Nodup/\eG (a.take 8))(h:ar c p)(i:ay p H c)
inductive AI(p t k:ε)(T s m:Int)(u:List π)(H:Hp)(i:Nat)(v:_L.St)(a:Hp):Prop
 |mk(o q r:Option V)(l:List (π×List π))(n:List V)(b:v=[↑p,δ (.int T),δ (.int s),↑t,δ (.int m),↑k,o,q,r,ζ,ζ,ζ,ζ,ζ,ζ,ζ])(c:a k=δ (.lst n))(d:dU a l n)(e:l.length=i)(f:ES l/\l.map (·.1)=u.take i)(g:a t=δ (.lst (u.map ti)))(h:ar a p)(j:ay p H a)
inductive AK(p G y F h:ε)(T E m:Int)(j:Nat)(I:List π)(z:List (π×List π))(A:List V)(H:Hp)(i:Nat)(J:_L.St)(g:Hp):Prop
 |mk(B C D b c e f:Option V)(k:List Df)(l:List V)(n:J=[↑p,δ (.int T),δ (.int E),↑G,δ (.int m),↑y,B,C,D,↑F,δ (.int (j:Int)),↑h,b,c,e,f])(o:g h=δ (.lst l))(q:b6 g k l)(r:k.length=i)(s:(∀d∈k,i' d/\d.b.Cs (z.map λc=>(c.1,c.2.length)))/\k.map Df.f=(z.map (·.1)).take i)(t:g y=δ (.lst A))(u:dU g z A)(v:g F=δ (.lst (I.map ti)))(w:ar g p)(x:ay p H g)(a:i8 g k ((z.map λc=>c.2.length).take i))
inductive AL(v:List (π×List π))(D:List π)(p C u z h B A:ε)(T y m:Int)(i:Nat)(w x:Option V)(c:π×List π)(e:Hp)(j:Nat)(E:_L.St)(d:Hp):Prop
 |mk(a:Option V)(f:ε)(b:Bd)(g:List V)(k:E=[↑p,δ (.int T),δ (.int y),↑C,δ (.int m),↑u,a,w,x,↑z,δ (.int (i:Int)),↑h,δ (.str c.1),↑B,↑A,↑f])(l:d f=δ (.tup g))(n:de d b g)(o:(b.size:Int)+h9 d A<=y/\0<=h9 d A)(q:b.fit v D i)(r:ar d p)(s:dF d A)(t:aZ p A e d)
def Dp(F:xa K "_law_any" DV f fd)(cT:‹1› fT j2 z0z aY "_law_take")(cA:‹2› fA j3 z25z ff "_law_names")(cB:‹21› fB l4 z6z (ig 6) "_law_body")(ml:mg "len"=ζ)(mr:mg "range"=ζ)(m0:mg "tuple"=ζ)(mi:mg "int"=ζ):⇑22 f fd z37z ph:=by
 erw[F.ok db λl5 A o5 s H vs Q E hr h=>?_]
 symm;let⟨p,T,Y,rfl,B,l6,l7,f7,l8,q⟩:=h;erw[#[_,(jd (jz 3 db.nd$ cA.e hr.m$ ja (pv 0)$ ja jf jb)$ jd (j5$ jx (zo$ cT.e hr.m$ ja (pv 0)$ ja jf jb) (jg$ zd (jK kX (pv 3) ki$ jI jf)$ @vb _ _ _ _ _ _ _ _ _ (pv 3) jf jf (by intro _;rfl)) jo)$ jd (jz 4 db.nd$ jr jp (jD$ ja jf$ ja jf jb) (jC j8 Z mi Pl$ ja (kU zJ (cT.e hr.m$ ja (pv 0)$ ja jf jb) jf$ ax _) jb) (λ_ _=>Z))$ jd (jz 5 db.nd$ jD jb)$ jd (kP Ni Z (zr Z mr$ ja (pv 1) jb) (ju (i:=6) db.nd Z$ Δ Z)$ jd (jz 7 db.nd$ jw jS jf$ cT.e hr.m$ ja (pv 0)$ ja jf jb)$ jd (jz 8 db.nd$ jw qw (jK kX (pv 3) (jI$ pv 7)$ jI jf)$ jK kX (pv 3) (jI jf)$ jI$ pv 7)$ jg$ jT$ zh M4 M7 M6 jQ (pv 5)$ ja (jh$ ja (jr jp (pv 3) (pv 6) (λ_ _=>Z))$ ja (jC jG Z m0 Of$ ja (jK kX (pv 8) ki$ jI$ cT.e hr.m$ ja (pv 0)$ ja (pv 4) jb) jb) jb) jb)$ jd (jz 9 db.nd$ jK kX (pv 3) (jI jf)$ jI$ jw jS jf$ cT.e hr.m$ ja (pv 0)$ ja jf jb)$ jd (jz 10 db.nd$ jr jp (jD$ ja jf$ ja jf$ ja jf$ ja jf jb) (cT.e hr.m$ ja (pv 0)$ ja jf jb) (λ_ _=>Z))$ jd (jz 11 db.nd$ jD jb)$ jd (kP Ni Z (qd$ pv 5) (qg (n:=2) Z$ jA (ju (i:=12) db.nd Z$ Δ Z)$ jA (ju (i:=13) db.nd Z$ Δ Z) kH)$ jd (jz 14 db.nd$ jD$ ja (pv 2) jb)$ jd (jz 15 db.nd$ jh jb)$ jd (kP Ni Z (zr Z mr$ ja jf jb) (ju (i:=6) db.nd Z$ Δ Z)$ jg$ jz 15 db.nd$ jw zb (pv 15)$ cB.e hr$ ja (pv 0)$ ja (pv 9)$ ja (pv 5)$ ja (pv 14)$ ja (pv 10) jb)$ jg$ jT$ zh M4 M7 M6 jQ (pv 11)$ ja (jh$ ja (pv 12)$ ja (pv 13)$ ja (pv 15) jb) jb)$ jg$ jm$ jC jG Z m0 Of$ ja (pv 11) jb),?_]];let l':=aJ;sleep 9;erw[gV λE1 m1=>?_];erw[#[_,Z,p,20,Z,B,LO,LO,λW ys H1 c5 f8 c6 C B1 k1=>?_]];erw[m1 _ _ ?_];left;erw[gV λE2 m2=>?_];let wp:W≠p:=B.ne c5;erw[dN (AJ p W T Y H) (λE0 _ fm=>?_) λσ0 H2 u=>?_]
 .clear m2;left;erw[oK λG' g'=>#[_,Z,p,2,Z,B1,LO,LO,λd1 H2 m' o' B2 e2=>?_]];let h0:H2 W=δ (.lst$ ys.map ti):=by rw[e2 W wp];exact f8
  let k2:=k1.trans (ay.of_eq e2);erw[#[Z,_,Z,g' _ _ ?_]];clear g';erw[b8 (λc=>?_) (λc=>fm _ _ #[ys,Z,h0,LN,#[C.1,C.2.1.sublist$ Ot _ _,C.2.2],B2,k2])];erw[#[_,Z,_,Z,W,_,Z,aF.of h0,λsl n0=>?_]];let f9:W≠sl:=λe=>by rw[<- e,h0]at n0;cases n0
  let p1:=B2.ne n0;erw[#[_,Z,W,sl,_,_,_,_,Z,Z,Z,Z,am h0 n0,jc,f9,LO,LO,by rw[Mv];omega,?_,?_]]
  .let:=zG (ys.map ti) ζ (δ 2);rw[Mv]at this ⊢;omega
  let e2:aX (ys.map ti) ζ (δ 2)=(ys.take 2).map ti:=by rw[show(2:Int)=((2:Nat):Int) from Z,Fi (by rw[Mv];omega),O9]
  erw[fm _ _ #[ys.take 8++ys.take 2++ys.drop 10,Z,?_,?_,?_,(B2.upd_new n0).eq$ ji$ MU wp,?_]]
  .rw[jc,e2,M0,M0,O9,SX,O9];rfl
  .rw[Mz,Mz,M1,M1,Og];omega
  .refine#[λy hy=>?_,?_,?_]
   .symm;rcases γ.mp hy with h |h
    .rcases γ.mp h with h |h
     .exact C.1 y$ Nh h
     .exact C.1 y$ Nh h
    .exact C.1 y$ Rs h
   .rw[Pw,R0 (by rw[M1];omega),Rq];exact C.2.1.sublist$ Ot _ _
   .rw[Pw,R0 (by rw[M1];omega),Rq];exact C.2.2
  .exact(k2.upd_new n0).upd_own c5
 symm;let⟨ys,rfl,h0,c6,C,B2,k2⟩:=u;erw[m2 _ _ ?_];left;clear m1 m2;erw[gV λE3 m3=>?_];erw[#[bg,λl1 n7=>?_]];erw[#[_,Z,p,3,Z,B2.upd_new n7,LO,LO,λd2 H3 p2 p3 B3 e3=>?_]];let k3:ay p H2 H3:=((ay.refl).upd_new n7).trans (ay.of_eq e3);let l0:=B2.ne n7;let f':H3 l1=δ (.lst [.int 4,.int 7]):=by rw[e3 l1 l0];exact jc
 erw[#[Z,.inr #[_,Z,?_]]];let a4:∀c:Bool,∃m:Int,dM [tT 4,tT 7] (if c then 1 else 0)=δ (.int m)/\4<=m/\m<=7:=λc=>by
  symm;cases c
  .exact#[4,Z,LO,LO]
  .exact#[7,Z,LO,LO]
 symm;let⟨m,hm,m4,m7⟩:=a4 _;erw[#[l1,_,_,_,Z,Z,aF.of f',hm,?_]];erw[m3 _ _ ?_];left;erw[gV λE4 m4=>?_];let c9:H3 W=δ (.lst$ ys.map ti):=k3 _ _ wp h0;let k0:=k2.trans k3;erw[#[MH _,λhl n1=>?_]];erw[m4 _ _ ?_];left;erw[gV λE5 m5=>?_];let h4:=B3.ne n1;let n5:H hl=ζ:=by
  cases z:H hl with
  |none=>rfl
  |some o=>have:=k0 _ _ h4 z;rw[n1]at this;symm;cases this
 let wh:W≠hl:=λe=>by rw[<- e,c9]at n1;cases n1
 erw[gn λJ j=>#[_,Z,T,Z,LN,LN,j _ _ ?_]];clear j;refine qA (lo:=0) (AI p W hl T Y m ys H)
  #[ζ,ζ,ζ,[],[],Z,jc,Z,Z,#[(λc hc=>nomatch hc),Z],am c9 n1,B3.upd_new n1,k0.upd_own n5] ?_ ?_
 .intro D' _ i σ H4 hi f0 Gq x u;symm;let⟨o6,o7,o8,hs,hv,rfl,a',h6,c',h7,b1,B4,k4⟩:=u;erw[x ?_];clear x m5 m3 m4;show cy (dy _ _) _ D' _ _;sleep 2;erw[gV λF1 f1=>?_];erw[#[_,Z,p,6,Z,B4,LO,LO,λD H5 g0 g1 B5 e5=>?_]];let k5:ay p H4 H5:=ay.of_eq e5;let h8:=k5 _ _ wp b1;let b2:=k5 _ _ h4 a';let b3:=h6.mono (k5.tm B4);erw[#[_,_,Z,Z,?_]];erw[f1 _ _ ?_];show cy (dy _ _) _ D' _ _;erw[gV λF2 f2=>?_];erw[#[_,Z,_,Z,_,Z,_,Z,W,_,Z,aF.of h8,λs1 n'=>?_]];erw[#[_,Z,_,Z,_,Z,_,Z,W,_,Z,aF.of$ am h8 n',λs2 b4=>?_]];let L1:=qV ys (δ (8+D)) (δ 14);let L0:=qV ys (δ 8) (δ (8+D));let L3:=zG (ys.map ti) (δ (8+D)) (δ 14);let L4:=zG (ys.map ti) (δ 8) (δ (8+D));rw[Mv]at L3 L4;erw[#[s1,s2,_,_,Z,Z,am jc b4,jc,LN,λrl d4=>?_]];erw[f2 _ _ ?_];let er:aX (ys.map ti) (δ (8+D)) (δ 14)++aX (ys.map ti) (δ 8) (δ (8+D))=(bf ys (δ (8+D)) (δ 14)++bf ys (δ 8) (δ (8+D))).map ti:=by rw[zW,zW,M0]
  let s6:af H5 (upd (upd (upd H5 s1$ .lst$ aX (ys.map ti) (δ (8+D))$ δ 14) s2$ .lst$ aX (ys.map ti) (δ 8)$ δ (8+D)) rl$ .lst$ aX (ys.map ti) (δ (8+D)) (δ 14)++aX (ys.map ti) (δ 8) (δ (8+D))):=((je n').trans$ je b4).trans (je d4);let r6:upd (upd (upd H5 s1$ .lst$ aX (ys.map ti) (δ (8+D))$ δ 14) s2$ .lst$ aX (ys.map ti) (δ 8)$ δ (8+D)) rl (.lst$ aX (ys.map ti) (δ (8+D)) (δ 14)++aX (ys.map ti) (δ 8) (δ (8+D))) rl=δ (.lst ((bf ys (δ (8+D)) (δ 14)++bf ys (δ 8) (δ (8+D))).map ti)):=by rw[jc,er]
  let B6:ar (upd (upd (upd H5 s1$ .lst$ aX (ys.map ti) (δ (8+D))$ δ 14) s2$ .lst$ aX (ys.map ti) (δ 8)$ δ (8+D)) rl$ .lst$ aX (ys.map ti) (δ (8+D)) (δ 14)++aX (ys.map ti) (δ 8) (δ (8+D))) p:=((B5.upd_new n').upd_new b4).upd_new d4;generalize upd (upd (upd H5 s1$ .lst$ aX (ys.map ti) (δ (8+D))$ δ 14) s2$ .lst$ aX (ys.map ti) (δ 8)$ δ (8+D)) rl (.lst$ aX (ys.map ti) (δ (8+D)) (δ 14)++aX (ys.map ti) (δ 8) (δ (8+D)))=H6 at s6 r6 B6;let LR:(bf ys (δ (8+D)) (δ 14)++bf ys (δ 8) (δ (8+D))).length<=40:=by rw[Mz];omega
  generalize bf ys (δ (8+D)) (δ 14)++bf ys (δ 8) (δ (8+D))=r0 at r6 LR;let d6:=s6 _ _ h8;let h':=s6 _ _ b2;let ei:(0:Int)+(i:Int)=(i:Int):=Int.zero_add _;rw[ei];symm;obtain⟨y,b5⟩:∃y,ys[i]?=δ y:=#[_,Mw (by omega:i < ys.length)];let hy:=ML b5;let a4:dM (ys.map ti) (i:Int)=δ (.str y):=jP (by rw[MK,b5];rfl);let rp:rl≠p:=qK B6 r6;erw[#[_,Z,.inl #[Z,_,aF.of h'],_,Z,_,Z,W,_,_,_,Z,Z,aF.of d6,a4,_,Z,_,Z,_,Z,p,m,Z,B6,LN,LN,λd7 H7 d0 d8 B7 e7=>?_]];let k7:ay p H6 H7:=ay.of_eq e7;erw[#[_,Z,rl,_,Z,aF.of$ k7 _ _ rp r6,λs3 d'=>?_]];erw[#[s3,_,Z,.inl #[aF.of jc,λt nt=>#[bg,λr nr=>?_]]]];rw[zW]at nt nr ⊢;let L8:=xX (ss:=r0) d0;generalize bf r0 ζ (δ d7)=ps at*;let s8:af H7 (upd (upd (upd H7 s3$ .lst$ ps.map ti) t$ .tup$ ps.map ti) r$ .tup [.str y,.ref t]):=((je d').trans$ je nt).trans (je nr);let t8:upd (upd (upd H7 s3$ .lst$ ps.map ti) t$ .tup$ ps.map ti) r (.tup [.str y,.ref t]) t=δ (.tup$ ps.map ti):=am jc nr;let r8:upd (upd (upd H7 s3$ .lst$ ps.map ti) t$ .tup$ ps.map ti) r (.tup [.str y,.ref t]) r=δ (.tup [.str y,.ref t]):=jc;let B8:ar (upd (upd (upd H7 s3$ .lst$ ps.map ti) t$ .tup$ ps.map ti) r$ .tup [.str y,.ref t]) p:=((B7.upd_new d').upd_new nt).upd_new nr;generalize upd (upd (upd H7 s3$ .lst$ ps.map ti) t$ .tup$ ps.map ti) r (.tup [.str y,.ref t])=R at s8 t8 r8 B8;let e0:=s8 _ _ (k7 _ _ h4 h');let g2:=s8 _ _ (k7 _ _ wp d6);let h5:=h6.len;erw[#[hl,_,_,Z,Z,e0,LN,?_]];let tm:aj R (upd R hl$ .lst$ hv++[.ref r]):=λb xs e=>by rw[ji$ jE e e0 (by intro z;cases z)];exact e
  let g4:=((b3.mono$ af.tm s6).mono$ k7.tm B6).mono (af.tm s8);erw[f0 _ _ #[_,_,_,hs++[(y,ps)],_,Z,jc,(g4.mono tm).snoc #[r,t,Z,tm _ _ r8,tm _ _ t8],by rw[Mz,c'];rfl,#[qW h7.1 #[C.1 y hy,by show ps.length<=6;omega],by rw[M0,h7.2,NY,b5];rfl],by rw[ji wh];exact g2,B8.eq$ ji$ MU h4,?_]];erw[ay.upd_own (λb o n e=>?_) n5];exact s8 _ _$ k7 _ _ n$ s6 _ _$ k5 _ _ n$ k4 _ _ n e
 intro σ H4 u;symm;obtain⟨o6,o7,o8,hs,hv,rfl,a',h6,c',⟨h7,b7⟩,b1,B4,k4⟩:=u;erw[m5 _ _ ?_];left;erw[gV λE6 m6=>?_];erw[#[_,Z,_,Z,_,Z,p,7,Z,B4,LO,LO,λD H5 g0 g1 B5 e5=>?_]];let k5:ay p H4 H5:=ay.of_eq e5;let h8:=k5 _ _ wp b1;let b2:=k5 _ _ h4 a';let b3:=h6.mono (k5.tm B4);erw[#[_,_,Z,Z,_,Z,W,_,Z,aF.of h8,λsm n3=>?_]];erw[m6 _ _ ?_];left;erw[gV λE7 m7=>?_];symm;let⟨z1,z2⟩:=sX (ys:=ys) (k:=14+D) c6 LN LN;let m6:upd H5 sm (.lst$ aX (ys.map ti) (δ 8)$ δ (14+D)) sm=δ (.lst ((bf ys (δ 8)$ δ (14+D)).map ti)):=by rw[jc,zW]
 let k6:ay p H (upd H5 sm$ .lst$ aX (ys.map ti) (δ 8)$ δ (14+D)):=(k4.trans k5).upd_new n3;let h':=am (o:=.lst (aX (ys.map ti) (δ 8)$ δ (14+D))) b2 n3;let e4:=b3.mono (af.tm$ je (o:=.lst (aX (ys.map ti) (δ 8)$ δ (14+D))) n3);let B6:=B5.upd_new (o:=.lst (aX (ys.map ti) (δ 8)$ δ (14+D))) n3;right;generalize upd H5 sm (.lst$ aX (ys.map ti) (δ 8)$ δ (14+D))=H6 at m6 k6 h' e4 B6;generalize bf ys (δ 8) (δ (14+D))=zs at m6 z1 z2;let s':=qK B6 m6;erw[#[wE,λl2 b'=>?_]];erw[#[_,Z,p,4,Z,B6.upd_new b',LO,LO,λd7 H7 d0 d8 B7 e7=>?_]];let k7:ay p H6 H7:=((ay.refl).upd_new b').trans (ay.of_eq e7);let l3:=B6.ne b';let g5:H7 l2=δ (.lst [.int 3,.int 3,.int 3,.int 5]):=by rw[e7 l2 l3];exact jc
 symm;let⟨dp,g6,g7,p4,p5⟩:=xZ d0 d8;erw[#[l2,_,_,_,Z,Z,aF.of g5,g6,?_]];erw[m7 _ _ ?_];left;erw[gV λE8 m8=>?_];let m7:=k7 _ _ s' m6;let c0:=k7 _ _ h4 h';let g8:=e4.mono (k7.tm B6);let k9:=k6.trans k7;erw[#[MH _,λdl N=>?_]];erw[m8 _ _ ?_];left;erw[gV λE9 m9=>?_];let d3:=B7.ne N;let n6:H dl=ζ:=by
  cases z:H dl with
  |none=>rfl
  |some o=>have:=k9 _ _ d3 z;rw[N]at this;symm;cases this
 let e6:hl≠dl:=λe=>by rw[<- e,c0]at N;cases N
 let s5:sm≠dl:=λe=>by rw[<- e,m7]at N;cases N
 let p6:=h6.len;erw[gn λJ j=>#[_,Z,hl,Z,#[_,aF.of$ am c0 N],j _ _ ?_]];clear j;refine Je (K:=K) (a:=hl) (xs:=hv) (AK p W hl sm dl T Y m dp zs hs hv H)
  #[_,_,_,_,_,_,_,[],[],Z,jc,Z,Z,#[(λc hc=>nomatch hc),Z],am c0 N,g8.mono$ af.tm$ je N,am m7 N,B7.upd_new N,k9.upd_own n6,#[Z,(λi d n h=>nomatch h)]] ?_ ?_ ?_
 .intro i σ R _ u;symm;let⟨o6,o7,o8,o1,o2,o3,o4,ds,dv,rfl,h5,hD,a0,l,hh,hd,c1,B8,k8,p0⟩:=u;exact aF.of hh
 .intro D' _ i v σ R hx f0 Gq x u;symm;let⟨o6,o7,o8,o1,o2,o3,o4,ds,dv,rfl,h5,hD,a0,l,hh,hd,c1,B8,k8,p0⟩:=u;let p7:i < hv.length:=(χ.mp hx).1;let⟨c,hc,q0,t0,rfl,w1,w2⟩:=hd.at i v hx;erw[x ?_];clear x m9;let i0:=ML hc;let e8:=h7 c i0;erw[LC λF6 f6=>#[q0,_,Z,aB.of w1,Z,_,_,Z,_,_,Z,Z,f6 _ _ ?_]];clear f6;show cy (dy _ _) _ D' _ _;sleep 3;erw[gV λF1 f1=>?_];erw[#[_,Z,fg,λM n2=>?_]];erw[f1 _ _ ?_];show cy (dy _ _) _ D' _ _;erw[gV λF2 f2=>?_];erw[#[pC,λb0 n4=>?_]];erw[f2 _ _ ?_];left;show cy (Es _ _ _) _ D' _ _;erw[gV λF3 f3=>?_];let s9:af R (upd (upd R M$ .lst [.int Y]) b0$ .tup []):=(je n2).trans (je n4);let s4:dF (upd (upd R M$ .lst [.int Y]) b0$ .tup []) M:=#[Y,am jc n4];let b9:upd (upd R M$ .lst [.int Y]) b0 (.tup []) b0=δ (.tup []):=jc;let B9:ar (upd (upd R M$ .lst [.int Y]) b0$ .tup []) p:=(B8.upd_new n2).upd_new n4;let e9:h9 (upd (upd R M$ .lst [.int Y]) b0$ .tup []) M=Y:=JX (am jc n4);generalize upd (upd R M$ .lst [.int Y]) b0 (.tup [])=H9 at s9 s4 b9 B9 e9;let e':H M=ζ:=by
   cases z:H M with
   |none=>rfl
   |some o=>have:=k8 _ _ (B8.ne n2) z;rw[n2]at this;symm;cases this
  let i1:dl≠M:=λe=>by rw[<- e,h5]at n2;cases n2
  let G9:nG H9 p sm hl M zs hs:=#[B9,s9 _ _ c1,z1,z2,#[hv,s9 _ _ hh,hd.mono$ af.tm s9],LN,LN,λc hc=>(h7 c hc).2,s4];erw[gn λJ j=>#[_,Z,LO,LO,j _ _ ?_]];clear j;refine qA (lo:=0) (AL hs zs p W hl sm dl t0 M T Y m dp o7 o8 c H9)
   #[_,b0,.nil,[],Z,b9,Z,(by rw[e9];exact#[by show((0:Nat):Int)+_<=_;omega,f7]),ZN,B9,s4,aZ.refl] ?_ ?_
  .intro p9 _ j σ G hj fin2 Gq x u;symm;let⟨o9,bb,Bb,bs,rfl,c2,a1,a2,I,B0,U,L⟩:=u;erw[x ?_];clear x f1 f2 f3;let G0:=G9.but2 B0 U L;erw[#[_,Z,_,Z,_,Z,_,Z,_,Z,_,Z,p,sm,hl,M,dp,zs,hs,Z,G0,g7,a2.2,λr b p' H0 X a3 i2 c3 c4 B' S k'=>?_]];let tm:=k'.tm B0 U;let lb:=a1.len;let q1:=a3.len;symm;let⟨i3,i4⟩:=a2;erw[#[bb,r,_,_,Z,Z,tm _ _ c2,X,LN,λr2 H' f4 s0=>?_]];let j0:ar H' p:=by let⟨a,b,h1,h2,h3,h⟩:=B'.ob;exact#[a,b,h1,h2,h3,s0 _ _ h]
   let s7:dF H' M:=by let⟨z,hz⟩:=S;exact#[z,s0 _ _ hz]
   erw[fin2 _ _ #[_,r2,Bb.app b,_,Z,f4,(a3.mono$ af.tm s0).app ((a1.mono tm).mono$ af.tm s0),?_,ZO I c4,j0,s7,L.trans$ k'.trans$ aZ.of_same s0]];rw[jX,ky S s0];exact#[LN,c3]
  .intro σ G u;symm;let⟨o9,bb,Bb,bs,rfl,c2,a1,a2,I,B0,U,L⟩:=u;erw[f3 _ _ ?_];left;let O:G dl=δ (.lst dv):=L _ _ d3 i1 (s9 _ _ h5);let G0:=G9.but2 B0 U L;let t3:aj R G:=λb xs e=>L.tm B9 s4 _ _ (s9 _ _ e);erw[#[_,Z,.inl #[Z,_,aF.of O],_,Z,_,Z,_,Z,eJ,λr nr=>?_]];let S:af G (upd G r$ .tup [.str c.1,.ref t0,.ref bb]):=je nr;let j1:=hD.len;let f5:Bb.size<=40:=by let⟨i3,i4⟩:=a2;omega
   erw[#[dl,_,_,Z,Z,S _ _ O,LN,?_]];let X:upd G r (.tup [.str c.1,.ref t0,.ref bb]) r=δ (.tup [.str c.1,.ref t0,.ref bb]):=jc;let B':=B0.upd_new (o:=.tup [.str c.1,.ref t0,.ref bb]) nr;generalize upd G r (.tup [.str c.1,.ref t0,.ref bb])=H0 at S X B';let tm:aj H0 (upd H0 dl$ .lst$ dv++[.ref r]):=λb xs e=>by rw[ji$ jE e (S _ _ O) (by intro z;cases z)];exact e
   let t2:aj G (upd H0 dl$ .lst$ dv++[.ref r]):=λb xs e=>tm _ _ (S _ _ e);let t1:aj R (upd H0 dl$ .lst$ dv++[.ref r]):=λb xs e=>t2 _ _ (t3 _ _ e);erw[f0 _ _ #[_,_,_,_,_,_,_,ds++[#[c.1,r,t0,bb,Bb]],_,Z,jc,(hD.mono t1).snoc #[bs,Z,tm _ _ X,t2 _ _ c2,a1.mono t2],by rw[Mz,a0];rfl,#[qW l.1 #[#[#[zs,z2,I.1.1],N5 I.2 LN,MT f5 LO],I.1.2],by rw[M0,l.2,NY,MK,hc];rfl],?_,hd.mono t1,?_,B'.eq$ ji$ MU d3,?_,(by rw[NY,MK,hc];exact(p0.mono t1).snoc (d:=#[c.1,r,t0,bb,Bb]) (t1 _ _ w2) (MT e8.2 LO))]]
   .symm;let⟨q2,e1,e2⟩:=G0.h;right;rw[ji e6];exact S _ _$ L _ _ G9.hsp.2 G9.hsp.1$ s9 _ _ hh
   .rw[ji s5];exact S _ _ G0.g
   .erw[ay.upd_own (λb o n e=>?_) n6];exact S _ _$ L _ _ n (jk e e')$ s9 _ _$ k8 _ _ n e
 .intro σ R u;symm;let⟨o6,o7,o8,o1,o2,o3,o4,ds,dv,rfl,h5,hD,a0,l,hh,hd,c1,B8,k8,p0⟩:=u;erw[m9 _ _ ?_];left;erw[#[_,Z,dl,dv,Z,.inl #[aF.of h5,λt nt=>?_]]];let nn:(ds.map Df.f).Nodup:=by
   rw[l.2,b7];erw[List.Nodup.sublist (Ot _ _) ?_];let e:∀m,m<=8->ys.take m=(ys.take 8).take m:=λm hm=>by rw[Rq,OG hm]
   rw[e _ LN];exact C.2.1.sublist$ Ot _ _
  let fr:eG (ds.map Df.f):=C.2.2.sub λy hy=>by
   rw[l.2,b7]at hy;let e:∀m,m<=8->ys.take m=(ys.take 8).take m:=λm hm=>by rw[Rq,OG hm]
   let hy:=Nh hy;rw[e _ LN]at hy;exact Nh hy
  exact q t ds dv _ jc (hD.mono$ af.tm$ je nt) LN (hs.map λc=>c.2.length) #[λd hd=>#[(l.1 d hd).1,by let e:=l.2;rw[Nq (by rw[Mv];omega)]at e;rw[e];let z:=(l.1 d hd).2;rw[show(hs.map λc=>(c.1,c.2.length))=(hs.map (·.1)).zip (hs.map λc=>c.2.length) by rw[UT]]at z;exact z],nn,λy hy=>by rw[l.2,b7]at hy;exact C.1 y$ Nh$ Nh hy] (by let z:=p0.mono (af.tm$ je (o:=.tup dv) nt);rw[Nq (by rw[Mv];omega)]at z;exact z) fr (B8.upd_new nt) (k8.upd_new nt)
def pC:0<=τ:=by decide
def fg:1<=τ:=by decide
def bg:2<=τ:=by decide
def eJ:3<=τ:=by decide
def wE:4<=τ:=by decide
def aj.trans(a:aj H h)(b:aj h d):aj H d:=λc x e=>b c x (a c x e)
def aj.refl:aj H H:=λ_ _ e=>e
def gF(H:Hp)(y:List π)(k:Nat)(a:ε):Prop:=∃T,aR H T a/\T.Good y/\T.depth<=k
def gF.mono(h:gF H y k a)(m:aj H b):gF b y k a:=let #[T,c,d]:=h;#[T,c.mono m,d]
def gF.ok(h:gF H y k a)(m:k < 6):∃T,aR H T a/\dj y T:=let #[T,b,c,d]:=h;#[T,b,c,N5 d m]
section
variable {Cf:gi}{H:Hp}{ys:List π}
def EA(h:H a=δ (.tup [.str "num",.int n]))(b:0<=n)(c:n < 1000000000000000000):gF H ys 0 a:=#[.num n,h,#[b,c],MH _]
def wT(h:H a=δ (.tup [.str "var",.str x]))(b:x∈ys):gF H ys 0 a:=#[.var x,h,b,MH _]
def Sg(s:π):Prop:=∃i,i < 6/\s=IK i
def Cc(h:H a=δ (.tup [.str "op",.str s,.ref b,.ref c]))(d:Sg s)(e:gF H ys j b)(f:gF H ys k c)(q:j < n)(r:k < n):gF H ys n a:=by let⟨i,g,rfl⟩:=d;let⟨B,l,m,t⟩:=e;let⟨C,o,p,u⟩:=f;exact#[.op i B C,#[b,c,h,l,o],#[g,m,p],by show max B.depth C.depth+1<=n;omega]
def zw:Sg "+":=#[0,LO,LL]
def Qa:Sg "-":=#[1,LO,LL]
def Yg:Sg "*":=#[2,LO,LL]
def AG:Sg "/":=#[3,LO,LL]
def XE:Sg "<":=#[4,LO,LL]
def He:Sg "=":=#[5,LO,LL]
def Ab(h:0<=d)(a:d < 4):∃s,dM [ti "+",.str "+",.str "*",.str "-"] d=δ (.str s)/\Sg s:=by
 rcases(by omega:d=0∨d=1∨d=2∨d=3) with rfl |rfl |rfl |rfl
 .exact#[_,Z,zw]
 .exact#[_,Z,zw]
 .exact#[_,Z,Yg]
 .exact#[_,Z,Qa]
def Aa(h:0<=d)(a:d < 3):∃c,dM (Str.cps "<=*").toList d=δ c/\Sg #[(ι [c])]:=by
 rcases(by omega:d=0∨d=1∨d=2) with rfl |rfl |rfl
 .exact#[_,Z,XE]
 .exact#[_,Z,He]
 .exact#[_,Z,Yg]
def Gr{P:ε->Prop}(e:0<=d)(f:d < 2)(h:P a)(c:P b):∃x,dM [vr a,.ref b] d=↑x/\P x:=by
 rcases(by omega:d=0∨d=1) with rfl |rfl
 .exact#[_,Z,h]
 .exact#[_,Z,c]
def Gs{P:ε->Prop}(g:0<=d)(i:d < 3)(h:P a)(e:P b)(f:P c):∃x,dM [vr a,.ref b,.ref c] d=↑x/\P x:=by
 rcases(by omega:d=0∨d=1∨d=2) with rfl |rfl |rfl
 .exact#[_,Z,h]
 .exact#[_,Z,e]
 .exact#[_,Z,f]
def Gu{P:ε->Prop}(h:P a)(d:P b)(c:Bool):∃x,dM [vr a,.ref b] (if c then 1 else 0)=↑x/\P x:=by
 cases c
 .exact#[_,Z,h]
 .exact#[_,Z,d]
def cQ(Cf:gi)(H:Hp)(ys:List π)(d:Nat)(v:V):Prop:=∃s,iA H v s/\(s.Ok ys/\s.Cs Cf)/\s.dep<=d/\s.size<=1+20*d
def il(Cf:gi)(H:Hp)(ys:List π)(d:Nat)(x:List V):Prop:=∃b,de H b x/\(b.Ok ys/\b.Cs Cf)/\b.dep<=d/\b.size<=(1+20*d)*x.length
def cQ.mono(h:cQ Cf H ys d v)(m:aj H a):cQ Cf a ys d v:=let #[s,b,c]:=h;#[s,b.mono m,c]
def il.mono(h:il Cf H ys d x)(m:aj H a):il Cf a ys d x:=let #[s,b,c]:=h;#[s,b.mono m,c]
def cQ.up(h:cQ Cf H ys 0 v):cQ Cf H ys d v:=let #[s,a,b,c,e]:=h;#[s,a,b,LN,LN]
def KU:il Cf H ys d []:=#[.nil,Z,#[trivial,trivial],MH _,MH _]
def JY{xs:List V}(h:il Cf H ys d xs)(g:il Cf H ys d z):il Cf H ys d (xs++z):=by let⟨a,c,A,f,i⟩:=h;let⟨b,e,B,j,k⟩:=g;erw[#[a.app b,e.app c,#[KR A.1 B.1,KQ A.2 B.2],by rw[zL];omega,?_]];rw[jX,Mz,Nat.mul_add];omega
def zS(h:cQ Cf H ys d v):il Cf H ys d [v]:=by let⟨s,a,b,c,e⟩:=h;exact#[s,a.bd,b,c,by show s.size<=(1+20*d)*1;omega]
def jV(h:cQ Cf H ys d v)(g:il Cf H ys d xs):il Cf H ys d (v::xs):=JY (xs:=[v]) (zS h) g
def QR{l:Lf}(h:H p=δ (.tup v))(a:xu H l v)(b:l.Ok ys)(c:l.Cs Cf):cQ Cf H ys 0 (.ref p):=#[.lf p l .nil,.lf p l v h a,#[#[b,trivial],c,trivial],Mx 0,Mx 1]
def Hk(h:H p=δ (.tup [.str "read",.str x,.ref t]))(a:x∈ys)(b:gF H ys k t)(c:↥(k < 6)):cQ Cf H ys 0 (.ref p):=by let⟨T,d,e⟩:=b.ok c;exact QR (l:=.rd x t T) h #[Z,d] #[a,e] trivial
def Hl(h:H p=δ (.tup [.str "set",.str x,.ref t]))(a:x∈ys)(b:gF H ys k t)(c:↥(k < 6)):cQ Cf H ys 0 (.ref p):=by let⟨T,d,e⟩:=b.ok c;exact QR (l:=.st x t T) h #[Z,d] #[a,e] trivial
def Hi(h:H p=δ (.tup [.str "give",.ref t]))(a:gF H ys k t)(b:↥(k < 6)):cQ Cf H ys 0 (.ref p):=by let⟨T,c,d⟩:=a.ok b;exact QR (l:=.gv t T) h #[Z,c] d trivial
def Hm(h:H p=δ (.tup [.str "write",.ref t,.ref u]))(a:gF H ys k t)(b:gF H ys j u)(c:↥(k < 6))(d:↥(j < 6)):cQ Cf H ys 0 (.ref p):=by let⟨T,e,f⟩:=a.ok c;let⟨U,g,i⟩:=b.ok d;exact QR (l:=.wr t u T U) h #[Z,e,g] #[f,i] trivial
def Hh{f:π}(h:H p=δ (.tup [.str "call",.str x,.str f,.ref q]))(b:x∈ys)(a:(f,2)∈Cf)(d:H q=δ (.tup [.ref t,.ref u]))(e:gF H ys k t)(g:gF H ys j u)(i:↥(k < 6))(m:↥(j < 6)):cQ Cf H ys 0 (.ref p):=by
 let⟨T,n,o⟩:=e.ok i;let⟨U,r,s⟩:=g.ok m;erw[QR (l:=.cl x f q [(t,T),(u,U)]) h #[Z,d,λc hc=>?_] #[b,(by show 2<=6;decide),λc hc=>?_] a]
 .rcases Ψ.mp hc with rfl |hc
  .exact n
  .rw[ρ.mp hc];exact r
 .rcases Ψ.mp hc with rfl |hc
  .exact o
  .rw[ρ.mp hc];exact s
def Hj(h:H p=δ (.tup [.str "if",.ref t,.ref q,.ref Q]))(e:gF H ys k t)(f:H q=δ (.tup A))(g:H Q=δ (.tup B))(G:il Cf H ys 0 A)(i:il Cf H ys 0 B)(r:A.length+B.length<=20)(j:↥(k < 6)):cQ Cf H ys 1 (.ref p):=by let⟨T,l,m⟩:=e.ok j;let⟨a,n,c,s,u⟩:=G;let⟨b,o,d,v,x⟩:=i;exact#[.ite p t T a b .nil,.ite p t T a b q Q A B h l f g n o,#[#[m,c.1,d.1,trivial],c.2,d.2,trivial],(by show max (max a.dep b.dep+1) 0<=1;omega),(by show a.size+b.size+0+1<=21;omega)]
def wD(h:H p=δ (.tup [.str "while",.ref t,.ref q]))(c:gF H ys k t)(d:H q=δ (.tup A))(g:il Cf H ys 0 A)(l:A.length<=20)(e:↥(k < 6)):cQ Cf H ys 1 (.ref p):=by let⟨T,f,i⟩:=c.ok e;let⟨a,j,b,m,n⟩:=g;exact#[.loop p t T a .nil,.loop p t T a q A h f d j,#[#[i,b.1,trivial],b.2,trivial],(by show max (a.dep+1) 0<=1;omega),(by show a.size+0+1<=21;omega)]
def sy(Cf:gi)(n:Nat)(H:Hp)(r:ε)(f:π):Prop:=∃d:Df,A7 H d (.ref r)/\(i' d/\d.b.Cs Cf)/\∃p:List π,H d.pa=δ (.tup$ p.map ti)/\p.length=n/\d.f=f
def sy.mono(h:sy Cf n H r f)(m:aj H a):sy Cf n a r f:=let #[d,b,c,p,e,g]:=h;#[d,b.mono m,c,p,m _ _ e,g]
def Fn{f:π}{p:List π}(h:H r=δ (.tup [.str f,.ref a,.ref b]))(d:H a=δ (.tup$ p.map ti))(e:p.length=n)(i:H b=δ (.tup x))(g:il Cf H ys 1 x)(l:x.length<=16)(j:ys.length<=20):sy Cf n H r f:=by let⟨c,k,C,m,o⟩:=g;exact#[#[f,r,a,b,c],#[x,Z,h,i,k],#[#[#[ys,j,C.1],(by show c.dep < 6;omega),(by show c.size<=400;omega)],C.2],p,d,e,Z]
structure Wd(H0 H:Hp)(p wl:ε)(ys:List π):Prop where
 B:ar H p
 K:ay p H0 H
 w:H wl=δ (.lst$ ys.map ti)
def Wd.np(h:Wd b H p a ys):a≠p:=qK h.B h.w
def Wd.same(h:Wd a H p b ys)(s:af H c):Wd a c p b ys:=#[h.B.same s,h.K.trans$ ay.of_same s,s _ _ h.w]
def Wd.but(h:Wd b H p c ys)(B:ar a p)(k:ay p H a):Wd b a p c ys:=#[B,h.K.trans k,k _ _ h.np h.w]
def Wd.own{xs:List V}(h:Wd a H p b ys)(n:a l=ζ)(L:l≠p)(c:l≠b):Wd a (upd H l$ .lst z) p b ys:=#[h.B.eq$ ji$ MU L,h.K.upd_own n,by rw[ji$ MU c];exact h.w]
def Xt(h:H l=δ (.lst x)):aj H (upd H l$ .lst a):=λb u e=>by rw[ji$ jE e h (by intro z;cases z)];exact e
end
inductive ni(d:List V)(H:Hp)(Q:VK)(c:XK):Prop
 |mk(p a b:ε)(e:List π)(k:Nat)(_:d=[.ref p,.ref a,.ref b])(_:ar H p)(_:gF H e k a)(_:gF H e k b)(_:∀(r:ε) (H':Hp),gF H' e (k+1) r->ar H' p->ay p H H'->Q (.ref r) H')
inductive dn(n:Nat)(b:List V)(H:Hp)(Q:VK)(a:XK):Prop
 |mk(p c:ε)(f g:π)(d:List π)(_:b=[.ref p,.str f,.str g,.ref c])(_:ar H p)(_:H c=δ (.lst (d.map ti)))(_:d.length=6)(_:∀(r:ε) (H':Hp),sy [(g,2)] n H' r f->ar H' p->ay p H H'->Q (.ref r) H')
abbrev IH:da:=top 60
abbrev n9:da:=top 61
abbrev iD:da:=top 62
abbrev gK:da:=top 63
abbrev vw:da:=top 64
def IC{A:List V}(h:A.length=5):∃a b c d e,A=[a,b,c,d,e]:=by
 cases A with
 |nil=>cases h
 |cons a r=>
  cases r with
  |nil=>cases h
  |cons b R=>
   cases R with
   |nil=>cases h
   |cons c f=>
    cases f with
    |nil=>cases h
    |cons d g=>
     cases g with
     |nil=>cases h
     |cons e i=>
      cases i with
      |nil=>exact#[a,b,c,d,e,Z]
      |cons _ _=>cases h
def Lp{n:Nat}:nK (n+1) 0=δ 0:=by unfold nK;rw[MQ LO,MQ LN];rfl
def Lq{n:Nat}:nK (n+2) 1=δ 1:=by unfold nK;rw[MQ LO,MQ LN];rfl
def oH:dM (v::u::y) 1=δ u:=jP (j:=1) Z
structure Fw(p:ε)(H H':Hp):Prop where
 t:aj H H'
 b:ay p H H'
def Fw.refl:Fw p H H:=#[aj.refl,ay.refl]
def Fw.trans(a:Fw p H h)(b:Fw p h c):Fw p H c:=#[a.t.trans b.t,a.b.trans b.b]
def Fw.new{p:ε}{H:Hp}{o:HO}(n:H r=ζ):Fw p H (upd H r o):=#[af.tm$ je n,ay.of_same$ je n]
def Fw.same(s:af H h):Fw p H h:=#[af.tm s,ay.of_same s]
def Fw.but(B:ar H p)(c:ay p H h):Fw p H h:=#[c.tm B,c]
def nM(P:Hp->V->Prop):Prop:=∀H h v,aj H h->P H v->P h v
def Ev(a:Hp)(p W:ε)(y:List π)(b:Hp)(c:_L.St)(t:TE)(P:Hp->V->Prop):Prop:=∀(H:Hp) (Q:VK),Fw p b H->Wd a H p W y->(∀v h,P h v->Wd a h p W y->Fw p H h->Q v h)->t c H Q
def PT(y:List π)(k:Nat)(H:Hp)(v:V):Prop:=∃a,v= .ref a/\gF H y k a
def PB(C:gi)(y:List π)(d n:Nat)(H:Hp)(v:V):Prop:=∃a x,v= .ref a/\H a=δ (.tup x)/\il C H y d x/\x.length<=n
def PN(y:List π)(_:Hp)(v:V):Prop:=∃x,v= .str x/\x∈y
def PG(_:Hp)(v:V):Prop:=∃s,v= .str s/\Sg s
def PP(n:Nat)(H:Hp)(v:V):Prop:=∃(a:ε) (x:List π),v= .ref a/\H a=δ (.tup$ x.map ti)/\x.length=n
def sG(y:π)(_:Hp)(v:V):Prop:=v= .str y
def PD(C:gi)(n:Nat)(f:π)(H:Hp)(v:V):Prop:=∃a,v= .ref a/\sy C n H a f
section
variable {Cf:gi}{ys:List π}{H0 Hb:Hp}{p wl:ε}{σ:_L.St}
def aq:nM (PT ys k):=λ_ _ _ m #[a,e,h]=>#[a,e,h.mono m]
def dO:nM (PB Cf ys d n):=λ_ _ _ m #[a,x,e,h,H,b]=>#[a,x,e,m _ _ h,H.mono m,b]
def dX:nM λH v=>cQ Cf H ys d v:=λ_ _ _ m h=>h.mono m
def lu:nM (PD Cf n f):=λ_ _ _ m #[a,e,h]=>#[a,e,h.mono m]
def Ev.up{P R:Hp->V->Prop}(h:Ev H0 p wl ys Hb σ t P)(k:∀H v,P H v->R H v):Ev H0 p wl ys Hb σ t R:=λH Q m W q=>h H Q m W λv a x=>q v a (k _ _ x)
def jH{P:Hp->V->Prop}(e:σ[i]?=δ (δ v))(M:nM P)(h:P Hb v):Ev H0 p wl ys Hb σ (a5 i) P:=λH Q m W q=>#[v,e,q v H (M _ _ _ m.t h) W .refl]
def ql(h:Sg s):Ev H0 p wl ys Hb σ (tC$ .str s) PG:=λH Q m W q=>q _ H #[s,Z,h] W .refl
def ke{K:Ω}(e:σ[j]?=δ (↑wl))(a:0<=i)(b:i < (ys.length:Int)):Ev H0 p wl ys Hb σ (eh (lv K) (a5 j)$ tC$ .int i) (PN ys):=λH Q m W q=>by let⟨y,c,h⟩:=KP (ys:=ys) a b;exact#[_,e,wl,_,_,_,Z,Z,aF.of W.w,h,q _ H #[y,Z,c] W .refl]
def km{Q:VK}{P:Hp->V->Prop}(W:Wd H0 H p wl ys)(q:∀v h,P h v->Wd H0 h p wl ys->Fw p H h->Q v h)(n:H r=ζ)(x:aj H (upd H r o)->upd H r o r=δ o->P (upd H r o) (.ref r)):Q (.ref r) (upd H r o):=
 q _ _ (x (af.tm$ je n) jc) (W.same$ je n) (.new n)
abbrev wO(n:Int):TE:=dR aY [] E0 (al (a5 0)$ al (tC$ .int n) aK)
def PK(n:Int)(_:Hp)(v:V):Prop:=∃d:Int,v= .int d/\0<=d/\d < n
def zi(e:σ[0]?=δ (↑p))(h:1<=n)(c:n<=1000):Ev H0 p wl ys Hb σ (wO n) (PK n):=λH Q m W q=>
 #[_,e,p,n,Z,W.B,LN,LN,λd f D a b E=>q _ _ #[d,Z,D,a] (W.but b$ ay.of_eq E) (.but W.B$ ay.of_eq E)]
def kO(h:Ev H0 p wl ys Hb σ t (PK n))(g:n<=1000000000000000000):Ev H0 p wl ys Hb σ (bq$ al (tC$ .str "num")$ al t aK) (PT ys 0):=λH Q m W q=>
 h H _ m W λv i #[d,e,D,j] a b=>#[bg,λr N=>km (P:=PT ys 0) a (λV c x f k=>q V c x f (b.trans k)) N λ_ z=>#[r,Z,EA (by rw[z,e]) D LN]]
def Qz(h:0<=n)(a:n < m):Ev H0 p wl ys Hb σ (tC$ .int n) (PK m):=λH Q _ W q=>q _ H #[n,Z,h,a] W .refl
def Xu(h:Ev H0 p wl ys Hb σ t (PK n))(c:0<=m):Ev H0 p wl ys Hb σ (eh (xE λi j=>tT (i+j)) (tC$ .int m) t) (PK$ m+n):=λH Q M W q=>
 h H _ M W λv a #[d,e,D,f] b k=>#[m,d,Z,e,q _ a #[m+d,Z,LN,LN] b k]
def Jg(h:Ev H0 p wl ys Hb σ t (PN ys)):Ev H0 p wl ys Hb σ (bq$ al (tC$ .str "var")$ al t aK) (PT ys 0):=λH Q m W q=>
 h H _ m W λv i #[d,e,a] b c=>#[bg,λr n=>km (P:=PT ys 0) b (λV f x g k=>q V f x g (c.trans k)) n λ_ z=>#[r,Z,wT (by rw[z,e]) a]]
def zZ{n:Nat}(h:Ev H0 p wl ys Hb σ T PG)(f:Ev H0 p wl ys Hb σ g (PT ys j))(i:Ev H0 p wl ys Hb σ l (PT ys k))(o:j < n)(u:k < n):Ev H0 p wl ys Hb σ (bq$ al (tC$ .str "op")$ al T$ al g$ al l aK) (PT ys n):=λH Q m W q=>
 h H _ m W λM v #[s,E,X] y c=>f v _ (m.trans c) y λO A #[a,B,C] D d=>i A _ ((m.trans c).trans d) D λR S #[b,F,G] I e=>#[wE,λr N=>km (P:=PT ys n) I (λV J x L k=>q V J x L (((c.trans d).trans e).trans k)) N λt z=>
  #[r,Z,Cc (by rw[z,E,B,F]) X ((C.mono e.t).mono t) (G.mono t) o u]]
def Fx(e:σ[0]?=δ (↑p)):Ev H0 p wl ys Hb σ (eh Ag (tC$ .str "<=*")$ wO 3) PG:=λH Q m W q=>
 zi e LO LO H _ m W λv h #[d,E,D,a] b k=>by let⟨g,i,x⟩:=Aa D a;exact#["<=*",d,g,Z,E,LL,i,q _ h #[_,Z,x] b k]
def Zs{K:Ω}(e:σ[0]?=δ (↑p))(r:Ev H0 p wl ys Hb σ T (PT ys k))(s:Ev H0 p wl ys Hb σ u (PT ys k)):Ev H0 p wl ys Hb σ (eh (lv K) (nB$ al T$ al u aK)$ wO 2) (PT ys k):=λH Q m W q=>
 r H _ m W λV y #[a,E,X] z c=>s y _ (m.trans c) z λA C #[b,D,F] h f=>#[bg,λl n=>zi e LO LO _ _ (((m.trans c).trans f).trans$ .new n) (h.same$ je n) λv G #[d,I,J,L] M j=>by
  let⟨g,i,x⟩:=Gr (P:=gF C ys k) J L (X.mono f.t) F;rw[<- E,<- D]at i;let t:=(Fw.new (p:=p) (o:=HO.lst [V,A]) n).trans j;exact#[l,_,d,_,Z,I,aF.of$ j.b _ _ (h.B.ne n) jc,i,q _ G #[g,Z,x.mono t.t] M ((c.trans f).trans t)]]
def Bq{K:Ω}(e:σ[0]?=δ (↑p))(u:Ev H0 p wl ys Hb σ T (PT ys k))(y:Ev H0 p wl ys Hb σ z (PT ys k))(A:Ev H0 p wl ys Hb σ C (PT ys k)):Ev H0 p wl ys Hb σ (eh (lv K) (nB$ al T$ al z$ al C aK)$ wO 3) (PT ys k):=λH Q m W q=>
 u H _ m W λV D #[a,E,X] F f=>y D _ (m.trans f) F λG I #[b,J,L] M h=>A I _ ((m.trans f).trans h) M λN O #[c,R,S] r j=>#[eJ,λl n=>zi e LO LO _ _ ((((m.trans f).trans h).trans j).trans$ .new n) (r.same$ je n) λv U #[d,Y,d0,d1] W4 s=>by
  let⟨g,i,x⟩:=Gs (P:=gF O ys k) d0 d1 (X.mono (h.trans j).t) (L.mono j.t) S;rw[<- E,<- J,<- R]at i;let t:=(Fw.new (p:=p) (o:=HO.lst [V,G,N]) n).trans s;exact#[l,_,d,_,Z,Y,aF.of$ s.b _ _ (r.B.ne n) jc,i,q _ U #[g,Z,x.mono t.t] W4 (((f.trans h).trans j).trans t)]]
def Fu{K:Ω}(e:σ[0]?=δ (↑p))(r:1<=n)(s:n<=1000)(u:Ev H0 p wl ys Hb σ T (PT ys k))(y:Ev H0 p wl ys Hb σ z (PT ys k)):Ev H0 p wl ys Hb σ (eh (lv K) (nB$ al T$ al z aK)$ HV (λX H Q=>(∃i,X=[tT i]/\Q (tT i) H)∨∃k,X=[V.bl k]/\Q (tT (if k=ν then 1 else 0)) H)$ al (eh Gx (wO n)$ tC$ .int 0) aK) (PT ys k):=λH Q m W q=>
 u H _ m W λA C #[a,E,D] F c=>y C _ (m.trans c) F λG I #[b,J,L] h f=>#[bg,λl N=>zi e r s _ _ (((m.trans c).trans f).trans$ .new N) (h.same$ je N) λv M #[d,O,S,U] R j=>by
  subst O;erw[#[Z,.inr #[_,Z,?_]]];let⟨g,i,x⟩:=Gu (P:=gF I ys k) (D.mono f.t) L _;rw[<- E,<- J]at i;let t:=(Fw.new (p:=p) (o:=HO.lst [A,G]) N).trans j;exact#[l,_,_,_,Z,Z,aF.of$ j.b _ _ (h.B.ne N) jc,i,q _ M #[g,Z,x.mono t.t] R ((c.trans f).trans t)]]
def KC(e:σ[0]?=δ (↑p))(h:Ev H0 p wl ys Hb σ T (PT ys k))(g:Ev H0 p wl ys Hb σ i (PT ys k)):Ev H0 p wl ys Hb σ (dR ni [] E0$ al (a5 0)$ al T$ al i aK) (PT ys$ k+1):=λH Q m W q=>
 #[_,e,h H _ m W λv j #[a,E,x] l d=>g j _ (m.trans d) l λV y #[b,n,X] c f=>#[p,a,b,ys,k,by rw[E,n];rfl,c.B,x.mono f.t,X,λr o s u C=>q _ o #[r,Z,s] (c.but u C) ((d.trans f).trans$ .but c.B C)]]
def ya{w:π}{T a:TE}{A B R:Hp->V->Prop}(M:nM A)(d:nM B)(e:Ev H0 p wl ys Hb σ T A)(f:Ev H0 p wl ys Hb σ a B)(h:∀H r u v,H r=δ (.tup [.str w,u,v])->A H u->B H v->R H (.ref r)):Ev H0 p wl ys Hb σ (bq$ al (tC$ .str w)$ al T$ al a aK) R:=λH Q m W q=>
 e H _ m W λC g X i b=>f g _ (m.trans b) i λD E j l c=>#[eJ,λr n=>km (P:=R) l (λo s x y k=>q o s x y ((b.trans c).trans k)) n λt z=>h _ _ _ _ z (M _ _ _ t$ M _ _ _ c.t X) (d _ _ _ t j)]
def Iw{w:π}{T:TE}{A R:Hp->V->Prop}(M:nM A)(a:Ev H0 p wl ys Hb σ T A)(h:∀H r u,H r=δ (.tup [.str w,u])->A H u->R H (.ref r)):Ev H0 p wl ys Hb σ (bq$ al (tC$ .str w)$ al T aK) R:=λH Q m W q=>
 a H _ m W λf g X b c=>#[bg,λr n=>km (P:=R) b (λv d x e k=>q v d x e (c.trans k)) n λt z=>h _ _ _ z (M _ _ _ t X)]
def CH{w:π}{T d e:TE}{A B C R:Hp->V->Prop}(M:nM A)(f:nM B)(g:nM C)(i:Ev H0 p wl ys Hb σ T A)(j:Ev H0 p wl ys Hb σ d B)(l:Ev H0 p wl ys Hb σ e C)(h:∀H r u v x,H r=δ (.tup [.str w,u,v,x])->A H u->B H v->C H x->R H (.ref r)):Ev H0 p wl ys Hb σ (bq$ al (tC$ .str w)$ al T$ al d$ al e aK) R:=λH Q m W q=>
 i H _ m W λL n X o a=>j n _ (m.trans a) o λO s y D b=>l s _ ((m.trans a).trans b) D λS U E F c=>#[wE,λr N=>km (P:=R) F (λG I x J k=>q G I x J (((a.trans b).trans c).trans k)) N λt z=>h _ _ _ _ _ z (M _ _ _ t$ M _ _ _ (b.trans c).t X) (f _ _ _ t$ f _ _ _ c.t y) (g _ _ _ t E)]
def yt:nM (PN ys):=λ_ _ _ _ h=>h
def Ka{t T:TE}{k:Nat}(h:Ev H0 p wl ys Hb σ t (PN ys))(b:Ev H0 p wl ys Hb σ T (PT ys k))(c:k < 6):Ev H0 p wl ys Hb σ (bq$ al (tC$ .str "read")$ al t$ al T aK) (λH v=>cQ Cf H ys 0 v):=ya yt aq h b λH r u v z #[x,e,d] #[a,E,f]=>Hk (by rw[z,e,E]) d f c
def Kb{t T:TE}{k:Nat}(h:Ev H0 p wl ys Hb σ t (PN ys))(b:Ev H0 p wl ys Hb σ T (PT ys k))(c:k < 6):Ev H0 p wl ys Hb σ (bq$ al (tC$ .str "set")$ al t$ al T aK) (λH v=>cQ Cf H ys 0 v):=ya yt aq h b λH r u v z #[x,e,d] #[a,E,f]=>Hl (by rw[z,e,E]) d f c
def KD{t T:TE}{j k:Nat}(h:Ev H0 p wl ys Hb σ t (PT ys j))(b:Ev H0 p wl ys Hb σ T (PT ys k))(c:j < 6)(d:k < 6):Ev H0 p wl ys Hb σ (bq$ al (tC$ .str "write")$ al t$ al T aK) (λH v=>cQ Cf H ys 0 v):=ya aq aq h b λH r u v z #[x,e,f] #[a,E,g]=>Hm (by rw[z,e,E]) f g c d
def QS{t:TE}{k:Nat}(h:Ev H0 p wl ys Hb σ t (PT ys k))(b:k < 6):Ev H0 p wl ys Hb σ (bq$ al (tC$ .str "give")$ al t aK) (λH v=>cQ Cf H ys 0 v):=Iw aq h λH r v z #[a,e,c]=>Hi (by rw[z,e]) c b
def tH{n o T c:TE}{j k:Nat}(C:Ev H0 p wl ys Hb σ n (PN ys)){f:π}(D:Ev H0 p wl ys Hb σ o (sG f))(d:(f,2)∈Cf)(F:Ev H0 p wl ys Hb σ T (PT ys j))(G:Ev H0 p wl ys Hb σ c (PT ys k))(I:j < 6)(J:k < 6):Ev H0 p wl ys Hb σ (bq$ al (tC$ .str "call")$ al n$ al o$ al (bq$ al T$ al c aK) aK) (λH v=>cQ Cf H ys 0 v):=by
 let' R:Hp->V->Prop:=λH v=>∃q a b,v= .ref q/\H q=δ (.tup [.ref a,.ref b])/\gF H ys j a/\gF H ys k b
 let M:nM R:=λ_ _ _ m #[q,a,b,e,g,L,i]=>#[q,a,b,e,m _ _ g,L.mono m,i.mono m];let N:Ev H0 p wl ys Hb σ (bq$ al T$ al c aK) R:=λH Q m W q=>
  F H _ m W λv2 O #[a,E,X] S s=>G O _ (m.trans s) S λv3 H3 #[b,l,U] Y A=>#[bg,λr nr=>km (P:=R) Y (λv' H' x W' k=>q v' H' x W' ((s.trans A).trans k)) nr λt z=>#[r,a,b,Z,by rw[z,E,l],(X.mono A.t).mono t,U.mono t]]
 exact CH yt (B:=sG f) (λ_ _ _ _ h=>h) M C D N λH r u v x z #[y,e1,g] (E:v= .str f) #[q,a,b,l,i,h4,h5]=>Hh (f:=f) (by rw[z,e1,E,l]) g d i h4 h5 I J
def tJ{t T b:TE}{k n m:Nat}(h:Ev H0 p wl ys Hb σ t (PT ys k))(c:Ev H0 p wl ys Hb σ T (PB Cf ys 0 n))(d:Ev H0 p wl ys Hb σ b (PB Cf ys 0 m))(e:k < 6)(s:n+m<=20):Ev H0 p wl ys Hb σ (bq$ al (tC$ .str "if")$ al t$ al T$ al b aK) (λH v=>cQ Cf H ys 1 v):=
 CH aq dO dO h c d λH r u v x z #[a,E,f] #[Q,X,g,i,j,y] #[A,B,l,o,q,C]=>Hj (by rw[z,E,g,l]) f i o j q LN e
def Bt{t T:TE}{k n:Nat}(h:Ev H0 p wl ys Hb σ t (PT ys k))(b:Ev H0 p wl ys Hb σ T (PB Cf ys 0 n))(c:k < 6)(i:n<=20):Ev H0 p wl ys Hb σ (bq$ al (tC$ .str "while")$ al t$ al T aK) (λH v=>cQ Cf H ys 1 v):=
 ya aq dO h b λH r u v z #[a,e,d] #[q,x,E,f,g,j]=>wD (by rw[z,e,E]) d f g LN c
def tG{d:Nat}:Ev H0 p wl ys Hb σ (bq aK) (PB Cf ys d 0):=λH Q m W q=>#[pC,λr n=>km (P:=PB Cf ys d 0) W q n λt z=>#[r,[],Z,z,KU,Mx 0]]
def KE(h:Ev H0 p wl ys Hb σ T (λH v=>cQ Cf H ys d v)):Ev H0 p wl ys Hb σ (bq$ al T aK) (PB Cf ys d 1):=λH Q m W q=>
 h H _ m W λf g X a b=>#[fg,λr n=>km (P:=PB Cf ys d 1) a (λV c x e k=>q V c x e (b.trans k)) n λt z=>#[r,_,Z,z,zS$ X.mono t,Mx 1]]
def QT(h:Ev H0 p wl ys Hb σ T (λH v=>cQ Cf H ys d v))(c:Ev H0 p wl ys Hb σ e (λH v=>cQ Cf H ys d v)):Ev H0 p wl ys Hb σ (bq$ al T$ al e aK) (PB Cf ys d 2):=λH Q m W q=>
 h H _ m W λs f X g a=>c f _ (m.trans a) g λu y i j b=>#[bg,λr n=>km (P:=PB Cf ys d 2) j (λV l x o k=>q V l x o ((a.trans b).trans k)) n λt z=>#[r,_,Z,z,jV ((X.mono b.t).mono t)$ zS$ i.mono t,Mx 2]]
def Fp(h:Ev H0 p wl ys Hb σ T (λH v=>cQ Cf H ys d v))(e:Ev H0 p wl ys Hb σ f (λH v=>cQ Cf H ys d v))(g:Ev H0 p wl ys Hb σ i (λH v=>cQ Cf H ys d v)):Ev H0 p wl ys Hb σ (bq$ al T$ al f$ al i aK) (PB Cf ys d 3):=λH Q m W q=>
 h H _ m W λC j X l a=>e j _ (m.trans a) l λD n o s b=>g n _ ((m.trans a).trans b) s λE F u y c=>#[eJ,λr N=>km (P:=PB Cf ys d 3) y (λV A x B k=>q V A x B (((a.trans b).trans c).trans k)) N λt z=>#[r,_,Z,z,jV ((X.mono (b.trans c).t).mono t)$ jV ((o.mono c.t).mono t)$ zS$ u.mono t,Mx 3]]
def Jp(h:Ev H0 p wl ys Hb σ T (PB Cf ys d n))(e:Ev H0 p wl ys Hb σ f (PB Cf ys d m))(B:n+m<=100):Ev H0 p wl ys Hb σ (eh vo T f) (PB Cf ys d$ n+m):=λH Q M W q=>
 h H _ M W λV g #[a,x,E,i,X,L] j c=>e g _ (M.trans c) j λC D #[b,z,l,o,u,F] v k=>#[a,b,x,z,E,l,k.t _ _ i,o,MT (show x.length+z.length<=100 by omega) LO,λr y A s=>q _ y #[r,_,Z,A,JY ((X.mono k.t).mono$ af.tm s)$ u.mono$ af.tm s,by rw[Mz];omega] (v.same s) ((c.trans k).trans$ .same s)]
def QU(e:σ[i]?=δ (δ$ .str x)):Ev H0 p wl ys Hb σ (a5 i) (sG x):=jH e (λ_ _ _ _ h=>h) Z
def X2(h:Ev H0 p wl ys Hb σ T (sG f))(g:Ev H0 p wl ys Hb σ i (PP m))(j:Ev H0 p wl ys Hb σ l (PB Cf ys 1 n))(O:n<=16)(o:ys.length<=20):Ev H0 p wl ys Hb σ (bq$ al T$ al i$ al l aK) (PD Cf m f):=λH Q M W q=>
 h H _ M W λv s (E:v= .str f) u c=>g s _ (M.trans c) u λR y #[a,S,A,B,L] C d=>j y _ ((M.trans c).trans d) C λU Y #[b,xs,D,F,X,l4] G e=>#[eJ,λr N=>km (P:=PD Cf m f) G (λV I x J k=>q V I x J (((c.trans d).trans e).trans k)) N λt z=>
  #[r,Z,Fn (f:=f) (by rw[z,E,A,D]) (t _ _$ e.t _ _ B) L (t _ _ F) (X.mono t) LN o]]
def tK(h:Ev H0 p wl ys Hb σ T (PN ys)):Ev H0 p wl ys Hb σ (bq$ al T aK) (PP 1):=λH Q m W q=>
 h H _ m W λV f #[X,e,_] a b=>#[fg,λr n=>km (P:=PP 1) a (λv c x d k=>q v c x d (b.trans k)) n λt z=>#[r,[X],Z,by rw[z,e];rfl,Z]]
def Br(h:Ev H0 p wl ys Hb σ T (PN ys))(b:Ev H0 p wl ys Hb σ c (PN ys)):Ev H0 p wl ys Hb σ (bq$ al T$ al c aK) (PP 2):=λH Q m W q=>
 h H _ m W λV d #[X,e,_] f a=>b d _ (m.trans a) f λs u #[g,E,_] i j=>#[bg,λr n=>km (P:=PP 2) i (λv l x o k=>q v l x o ((a.trans j).trans k)) n λt z=>#[r,[X,g],Z,by rw[z,e,E];rfl,Z]]
def cQ.lift(h:cQ Cf H ys 0 v):cQ Cf H ys 1 v:=h.up
def PB.lift(h:PB Cf ys 0 n H v):PB Cf ys 1 n H v:=let #[a,x,e,c,#[b,B,d,g,i],f]:=h;#[a,x,e,c,#[b,B,d,LN,LN],f]
def PB.more(h:PB Cf ys d n H v)(k:n<=m):PB Cf ys d m H v:=let #[a,x,e,b,c,f]:=h;#[a,x,e,b,c,MT f k]
def Jy{a b:TS}(W:Wd H0 H p wl ys)(e:σ[0]?=δ (↑p))(g:1<=n)(i:n<=1000)(j:∀h,Wd H0 h p wl ys->Fw p H h->a D σ h)(l:∀h,Wd H0 h p wl ys->Fw p H h->b D σ h):lB (lG$ eh Gx (wO n)$ tC$ .int 0) a b D σ H:=
 zi (Hb:=H) e g i H _ .refl W λv c #[d,E,m,o] f k=>by subst E;exact#[Z,_,Z,b8 (λ_=>j c f k) (λ_=>l c f k)]
def jO{D:a6}{P:Hp->V->Prop}(W:Wd H0 H p wl ys)(h:Ev H0 p wl ys H σ t P)(q:∀v a,P a v->Wd H0 a p wl ys->Fw p H a->D.nx (σ.set i$ δ v) a):dy t (bn i) D σ H:=h H _ .refl W q
def KW{D:a6}{P:Hp->V->Prop}(W:Wd H0 H p wl ys)(h:Ev H0 p wl ys H σ t P)(q:∀v a,P a v->Wd H0 a p wl ys->D.rt v a):iw t D σ H:=h H _ .refl W λv a x b _=>q v a x b
def AB{K:Ω}{D:a6}(W:Wd H0 H p wl ys)(d:Ev H0 p wl ys H σ T (PT ys 0))(e:Ev H0 p wl ys H σ f (PT ys 0))(g:Ev H0 p wl ys H σ l (PT ys 0))
  (q:∀u v w h,PT ys 0 h u->PT ys 0 h v->PT ys 0 h w->Wd H0 h p wl ys->Fw p H h->D.nx (((σ.set k$ δ w).set j$ δ v).set i$ δ u) h):BV K (bq$ al T$ al f$ al l aK) i j k D σ H:=
 d H _ .refl W λV m x o a=>e m _ a o λs y X z b=>g y _ (a.trans b) z λA E B C c=>#[eJ,λr n=>#[r,_,_,_,Z,aB.of jc,q V s A _ (aq _ _ _ (af.tm$ je n)$ aq _ _ _ (b.trans c).t x) (aq _ _ _ (af.tm$ je n)$ aq _ _ _ c.t X) (aq _ _ _ (af.tm$ je n) B) (C.same$ je n) (((a.trans b).trans c).trans$ .new n)]]
structure Ow(H0 H:Hp)(p wl l:ε)(xs:List V):Prop where
 hl:H l=δ (.lst xs)
 np:l≠p
 lw:l≠wl
 l0:H0 l=ζ
def Ow.fw(o:Ow H0 H p wl l x)(k:Fw p H h):Ow H0 h p wl l x:=#[k.b _ _ o.np o.hl,o.np,o.lw,o.l0]
def Ow.new(W:Wd H0 H p wl ys)(n:H l=ζ):Ow H0 (upd H l$ .lst x) p wl l x:=#[jc,W.B.ne n,(λe=>by let z:=W.w;rw[<- e,n]at z;cases z),W.K.none W.B n]
def Go{D:a6}(W:Wd H0 H p wl ys)(b:Ev H0 p wl ys H σ t (λH v=>cQ Cf H ys 0 v))(q:∀l v h,Ow H0 h p wl l [v]->cQ Cf h ys 0 v->Wd H0 h p wl ys->Fw p H h->D.nx (σ.set i$ ↑l) h):dy (nB$ al t aK) (bn i) D σ H:=
 b H _ .refl W λV c x a k=>#[fg,λl n=>q l V _ (.new a n) (x.mono$ af.tm$ je n) (a.same$ je n) (k.trans$ .new n)]
def Gp{D:a6}(W:Wd H0 H p wl ys)(c:Ev H0 p wl ys H σ T (λH v=>cQ Cf H ys 0 v))(d:Ev H0 p wl ys H σ e (λH v=>cQ Cf H ys 0 v))(q:∀l u v h,Ow H0 h p wl l [u,v]->cQ Cf h ys 0 u->cQ Cf h ys 0 v->Wd H0 h p wl ys->Fw p H h->D.nx (σ.set i$ ↑l) h):dy (nB$ al T$ al e aK) (bn i) D σ H:=
 c H _ .refl W λV f x g k=>d f _ k g λj m X a b=>#[bg,λl n=>q l V j _ (.new a n) ((x.mono b.t).mono$ af.tm$ je n) (X.mono$ af.tm$ je n) (a.same$ je n) ((k.trans b).trans$ .new n)]
def JZ{K:Ω}{D:a6}(W:Wd H0 H p wl ys)(a:σ[i]?=δ (↑l))(o:Ow H0 H p wl l xs)(b:xs.length<=100)(c:Ev H0 p wl ys H σ T (λH v=>cQ Cf H ys 0 v))
  (q:∀v h,cQ Cf h ys 0 v->Ow H0 h p wl l (xs++[v])->Wd H0 h p wl ys->aj H h->D.nx σ h):pF (IP K "list" lP (a5 i)$ al T aK) D σ H:=
 #[_,a,.inl #[Z,_,aF.of o.hl],c H _ .refl W λv e x d k=>#[l,xs,v,Z,Z,(o.fw k).hl,N5 b LO,q v _ (x.mono$ Xt (o.fw k).hl) #[jc,o.np,o.lw,o.l0] (d.own (xs:=xs) o.l0 o.np o.lw) (k.t.trans$ Xt (o.fw k).hl)]]
def AV{K:Ω}{D:a6}(W:Wd H0 H p wl ys)(h:σ[i]?=δ (↑l))(o:Ow H0 H p wl l (u::v::z))
  (q:∀a,Ow H0 a p wl l (v::u::z)->Wd H0 a p wl ys->aj H a->D.nx σ a):dy (bq$ al (eh (lv K) (a5 i)$ tC$ .int 1)$ al (eh (lv K) (a5 i)$ tC$ .int 0) aK) (tU K 2$ dB (CW (a5 i) (tC$ .int 0) oQ)$ dB (CW (a5 i) (tC$ .int 1) oQ) tS) D σ H:=
 #[_,h,l,_,_,_,Z,Z,aF.of o.hl,oH,_,h,l,_,_,_,Z,Z,aF.of o.hl,io,bg,λt N=>#[t,_,Z,aB.of jc,Z,_,_,Z,_,h,l,_,0,0,Z,Z,am o.hl N,Lp (n:=z.length+1),_,_,Z,_,h,l,_,1,1,Z,Z,jc,Lq (n:=z.length),Z,
  q _ #[jc,o.np,o.lw,o.l0] (((W.same$ je N).own (xs:=u::v::z) o.l0 o.np o.lw).own (xs:=u::v::z) o.l0 o.np o.lw) (((af.tm$ je N).trans$ Xt$ am o.hl N).trans$ Xt jc)]]
def Bs{K:Ω}{n:Nat}(e:σ[i]?=δ (↑l))(o:Ow H0 Hb p wl l x)(h:il Cf Hb ys 0 x)(a:x.length<=n):Ev H0 p wl ys Hb σ (HV (λx H Q=>∃p ys,x=[vr p]/\((aF K H p ys/\∀(l:ε),H l=ζ->Q (vr l) (upd H l$ HO.tup ys))∨aB K H p ys/\Q (vr p) H))$ al (a5 i) aK) (PB Cf ys 0 n):=λH Q m W q=>
 #[_,e,l,x,Z,.inl #[aF.of (o.fw m).hl,λr N=>km (P:=PB Cf ys 0 n) W q N λt z=>#[r,x,Z,z,(h.mono m.t).mono t,a]]]
def Cw{D:a6}(W:Wd H0 H p wl ys)(u:σ[i]?=δ (↑l))(y:σ[j]?=δ (↑m))(o:Ow H0 H p wl l x)(O:Ow H0 H p wl m z)(C:x.length+z.length<=100)(E:il Cf H ys 0 x)(F:il Cf H ys 0 z)
  (G:Ev H0 p wl ys H σ T (λH v=>cQ Cf H ys 0 v)) (I:Ev H0 p wl ys H σ J (λH v=>cQ Cf H ys 0 v)) (q:∀r U h,Ow H0 h p wl r U->il Cf h ys 0 U->U.length<=x.length+z.length+2->Wd H0 h p wl ys->Fw p H h->D.nx (σ.set i$ ↑r) h):
  dy (eh Af (eh Af (a5 i)$ a5 j)$ nB$ al T$ al J aK) (bn i) D σ H:=
 #[_,u,_,y,l,m,_,_,Z,Z,o.hl,O.hl,MT C LO,λc n=>G _ _ (.new n) (W.same$ je n) λV L X M k=>I L _ ((Fw.new n).trans k) M λe R Q A s=>#[bg,λd N=>#[c,d,_,_,Z,Z,am ((k.trans s).b _ _ (W.B.ne n) jc) N,jc,by
  let:=aJ;show(x++z).length+2<=τ;rw[Mz];omega,λr a=>q r _ _ (.new (A.same$ je N) a) (by
   let f:=(((Fw.new n).trans k).trans s).trans ((Fw.new (p:=p) (o:=HO.lst [V,e]) N).trans$ Fw.new (o:=HO.lst ((x++z)++[V,e])) a);let g:=(Fw.new (p:=p) (o:=HO.lst [V,e]) N).trans (Fw.new (o:=HO.lst ((x++z)++[V,e])) a);exact JY (JY (E.mono f.t)$ F.mono f.t)$ jV ((X.mono s.t).mono g.t)$ zS$ Q.mono g.t) (by rw[Mz,Mz];exact Mx _) ((A.same$ je N).same$ je a) ((((Fw.new n).trans k).trans s).trans ((Fw.new N).trans$ Fw.new a))]]]
def ZQ{K:Ω}{D:a6}(W:Wd H0 H p wl ys)(k:σ[3]?=δ (↑wl))(l:ys.length=6)
  (q:∀a b c d e g,PT ys 0 g a->PT ys 0 g b->PT ys 0 g c->PT ys 0 g d->PT ys 0 g e->Wd H0 g p wl ys->D.nx (((((σ.set 4$ δ a).set 5$ δ b).set 6$ δ c).set 7$ δ d).set 8$ δ e) g):
  dy (wG (tY K$ HW (Ah K) (a5 3) mx$ nD$ tC$ tT 5) 1 [] (bn 0) ny$ bq$ al (tC$ ti "var")$ al (a5 0) aK) (Ix K 5$ dB (bn 4)$ dB (bn 5)$ dB (bn 6)$ dB (bn 7)$ dB (bn 8) tS) D σ H:=by
 let B:=aJ;erw[#[_,k,_,Z,wl,_,Z,aF.of W.w,λs n=>?_]];let E:aX (ys.map ti) ζ (δ 5)=(ys.take 5).map ti:=by rw[show(5:Int)=((5:Nat):Int) from Z,Fi (by rw[Mv];omega),O9]
 let t:upd H s (.lst$ aX (ys.map ti) ζ$ δ 5) s=δ (.lst ((ys.take 5).map ti)):=by rw[E];exact jc
 let S:=je (o:=HO.lst (aX (ys.map ti) ζ$ δ 5)) n;generalize upd H s (.lst$ aX (ys.map ti) ζ$ δ 5)=A at t S;erw[#[s,Z,#[_,aF.of t],?_]];erw[pR (K:=K) (a:=s) (xs:=(ys.take 5).map ti) (by rw[Mv,M1];omega) (λi j g=>j.length=i/\(∀v∈j,PT ys 0 g v)/\af A g) #[Z,(λ_ h=>absurd h MO),af.refl _] (λi j g h=>#[aF.of$ h.2.2 _ _ t,Rh h.1]) (λi x j g C h=>?_) (λj F h L N=>?_)]
 .let⟨y,l,rfl⟩:=bS.mp (ML C);exact#[_,Z,bg,λr u=>#[by rw[Mz,h.1];rfl,qW (λa z=>aq _ _ _ (af.tm$ je u) (h.2.1 a z)) #[r,Z,wT jc$ Nh l],h.2.2.trans$ je u]]
 .let e:=h.1;rw[Mv,M1]at e;let⟨a,b,c,d,f,rfl⟩:=IC (show j.length=5 by omega);let m:=af.tm (je (o:=HO.lst [a,b,c,d,f]) N);exact#[L,_,Z,aF.of jc,Z,_,_,Z,_,_,Z,_,_,Z,_,_,Z,_,_,Z,Z,q a b c d f _ (aq _ _ _ m$ h.2.1 a LM) (aq _ _ _ m$ h.2.1 b LM) (aq _ _ _ m$ h.2.1 c LM) (aq _ _ _ m$ h.2.1 d LM) (aq _ _ _ m$ h.2.1 f LM) (((W.same S).same h.2.2).same$ je N)]
end
def II:ak z19z z19z (ae IH):=bQ
def Gj(F:xa K "_law_op" IH f t)(C:‹1› T u z0z aY "_law_take"):⇑2 f t z19z ni:=by
 erw[F.ok II λv A O s H V Q E x h=>?_]
 let⟨p,a,b,y,k,rfl,B,z,D,q⟩:=h;erw[#[_,(jg$ jm$ jh$ ja jj$ ja (jr jp (jD$ ja jj$ ja jj$ ja jj$ ja jj jb) (C.e x.m$ ja (pv 0)$ ja jf jb) (λ_ _=>Z))$ ja (pv 1)$ ja (pv 2) jb),?_]];erw[#[wE,λl n=>#[_,Z,p,4,Z,B.upd_new n,LO,LO,λd G I J L j=>?_]]];let⟨s,c,M⟩:=Ab I J;let g:ay p H G:=((ay.refl).upd_new n).trans (ay.of_eq j);erw[#[l,_,_,_,Z,Z,aF.of (by rw[j l$ B.ne n];exact jc),c,_,Z,_,Z,wE,λr N=>?_]];let S:=je (o:=HO.tup [.str "op",.str s,.ref a,.ref b]) N;exact q r _ (Cc jc M ((z.mono$ g.tm B).mono$ af.tm S) ((D.mono$ g.tm B).mono$ af.tm S) (NV _)$ NV _) (L.upd_new N)$ g.trans$ ay.of_same S
def cf:ak ["_law_box_here","_law_f","_law_g","_law_w","_law_x","_law_i","_law_y","_law_spot_here","_law_body_here","_law_deeper","_law_test","_law_early","_law_last"] z38z (ae n9):=bQ
def uN(F:xa K "_law_inner" n9 f fd)(I:‹1› fT b' z0z aY "_law_take")(cO:‹2› fO c0 z19z ni "_law_op"):⇑3 f fd z38z (dn 2):=by
 erw[F.ok cf λc1 A o1 s H vs Q E l h=>?_]
 symm;let⟨p,T,f0,g,Y,rfl,B,hw,h2,q⟩:=h;erw[#[_,(jd (@Ad _ _ _ _ _ _ _ _ (4) (5) (6) Z cf.nd Z Z Z (Δ Z) (Δ Z) (Δ Z) (jh$ ja (jh$ ja jj$ ja (jr jp (pv 3) jf (λ_ _=>Z)) jb)$ ja (jh$ ja jj$ ja (jr jp (pv 3) jf (λ_ _=>Z)) jb)$ ja (jh$ ja jj$ ja (jr jp (pv 3) jf (λ_ _=>Z)) jb) jb) (by first |exact .inl Z |exact .inr Z) (by first |exact .inl Z |exact .inr Z) (by first |exact .inl Z |exact .inr Z) LK LK)$ jd (jz 7 cf.nd$ jh$ ja jj$ ja jj$ ja (jr jp (jD$ ja (pv 4)$ ja (pv 5) jb) (I.e l.m$ ja (pv 0)$ ja jf jb) (λ_ _=>Z))$ ja (jh$ ja jj$ ja (I.e l.m$ ja (pv 0)$ ja jf jb) jb) jb)$ jd (jz 8 cf.nd$ jh$ ja (jh$ ja jj$ ja (jr jp (pv 3) jf (λ_ _=>Z))$ ja (pv 7) jb) jb)$ jd (j5$ jx (zo$ I.e l.m$ ja (pv 0)$ ja jf jb) (jd (jz 7 cf.nd$ jh$ ja jj$ ja jj$ ja (pv 5)$ ja (jh$ ja jj$ ja (jw jS jf$ I.e l.m$ ja (pv 0)$ ja jf jb) jb) jb)$ jg$ jz 8 cf.nd$ jw zb (pv 8)$ jh$ ja (jh$ ja jj$ ja (pv 7)$ ja (cO.e l.m$ ja (pv 0)$ ja (pv 4)$ ja (pv 6) jb) jb) jb) jo)$ jd (j5$ jx (zo$ I.e l.m$ ja (pv 0)$ ja jf jb) (jd (jz 9 cf.nd$ jh$ ja jj$ ja (jr jp (pv 3) jf (λ_ _=>Z))$ ja (pv 2)$ ja (jh$ ja (jh$ ja jj$ ja jj$ ja (pv 5)$ ja (jh$ ja jj$ ja jf jb) jb)$ ja (pv 6) jb) jb)$ jg$ jz 8 cf.nd$ jw zb (pv 8)$ jh$ ja (jh$ ja jj$ ja (pv 5)$ ja (jh$ ja (pv 9) jb)$ ja (jh jb) jb) jb) jo)$ jd (jz 10 cf.nd$ jh$ ja jj$ ja (jr KN jj (I.e l.m$ ja (pv 0)$ ja jf jb) (λ_ _=>Z))$ ja (pv 6)$ ja (jh$ ja jj$ ja (I.e l.m$ ja (pv 0)$ ja jf jb) jb) jb)$ jd (jz 11 cf.nd$ jh$ ja jj$ ja (cO.e l.m$ ja (pv 0)$ ja (pv 4)$ ja (pv 6) jb) jb)$ jd (jz 12 cf.nd$ jh$ ja jj$ ja (cO.e l.m$ ja (pv 0)$ ja (pv 6)$ ja (pv 5) jb) jb)$ jd (jz 8 cf.nd$ jw zb (pv 8)$ jh$ ja (jh$ ja jj$ ja (pv 10)$ ja (jh$ ja (pv 11) jb)$ ja (jh jb) jb)$ ja (pv 12) jb)$ jg$ jm$ jh$ ja (pv 1)$ ja (jh$ ja (jr jp (pv 3) jf (λ_ _=>Z))$ ja (jr jp (pv 3) jf (λ_ _=>Z)) jb)$ ja (pv 8) jb),?_]];let W0:Wd H H p T Y:=#[B,ay.refl,hw];sleep 9;erw[ah λF1 f1=>AB W0 (Jg$ ke Z LO LN) (Jg$ ke Z LO LN) (Jg$ ke Z LO LN) λvx vi vy J xx X U W1 k1=>f1 _ _ ?_];erw[ah λF2 f2=>jO W1 (zZ (n:=1) (ql zw) (Zs Z (jH Z aq xx)$ jH Z aq X) (kO (zi Z LO LO) LO) LO LO) λv2 H2 x2 W2 k2=>f2 _ _ ?_];erw[ah λF3 f3=>jO W2 (KE$ Ka (Cf:=[(g,2)]) (ke Z LO LN) (jH Z aq x2) LO) λv3 H3 x3 W3 k3=>f3 _ _ ?_];erw[ah λF4 f4=>dN (λL u=>∃(o:Option V) (b:V),L=[δ$ vr p,δ$ ti f0,δ$ ti g,δ$ vr T,δ$ vx,δ$ vi,δ$ vy,o,δ b,ζ,ζ,ζ,ζ]/\PB [(g,2)] Y 1 2 u b/\Wd H u p T Y/\aj H3 u) (λE4 _ f5=>Jy W3 Z LO LO (λH6 W6 k6=>?_) (λH6 W6 k6=>?_)) λσ0 H5 h0=>?_]
 .clear f4;left;let C:aj J H6:=((k2.t.trans k3.t).trans k6.t);erw[ah λF7 f7=>jO W6 (zZ (n:=1) (ql zw) (jH Z aq$ aq _ _ _ C X) (kO (Xu (zi Z LO LO) LO) LO) LO LO) λv7 H7 x7 W7 k7=>f7 _ _ ?_];let D:aj H3 H7:=(k6.t.trans k7.t);let G:aj J H7:=(C.trans k7.t);erw[jO W7 (Jp (jH Z dO$ dO _ _ _ D x3) (KE$ KD (Cf:=[(g,2)]) (jH Z aq x7) (KC Z (jH Z aq$ aq _ _ _ G xx)$ jH Z aq$ aq _ _ _ G U) LO LO) LO) λv8 H8 x8 W8 k8=>f5 _ _ ?_];let m0:aj H3 H8:=(D.trans k8.t);exact#[_,_,Z,(PB.lift x8),W8,m0]
 .clear f4;left;exact f5 _ _ #[_,_,Z,(PB.more (PB.lift$ dO _ _ _ k6.t x3) LO),W6,k6.t]
 symm;let⟨o5,b5,rfl,x5,W5,k5⟩:=h0;erw[f4 _ _ ?_];clear f4;left;erw[ah λF9 f9=>dN (λL u=>∃(o:Option V) (b:V),L=[δ$ vr p,δ$ ti f0,δ$ ti g,δ$ vr T,δ$ vx,δ$ vi,δ$ vy,o5,δ b,o,ζ,ζ,ζ]/\PB [(g,2)] Y 1 3 u b/\Wd H u p T Y/\aj H5 u) (λE9 _ f6=>Jy W5 Z LO LO (λH0 W k=>?_) (λH0 W k=>?_)) λσ1 H4 h1=>?_]
 .clear f9;left;let M:aj J H0:=(((k2.t.trans k3.t).trans k5).trans k.t);erw[ah λF0 f8=>jO W (tH (Cf:=[(g,2)]) (ke Z LO LN) (QU Z) MM (zZ (n:=1) (ql Qa) (jH Z aq$ aq _ _ _ M X) (kO (Qz LO (by decide:(1:Int) < 2)) LO) LO LO) (jH Z aq$ aq _ _ _ M U) LO LO) λv1 H9 x0 W4 k0=>f8 _ _ ?_];let c:aj H5 H9:=(k.t.trans k0.t);let N:aj J H9:=(M.trans k0.t);erw[jO W4 (Jp (jH Z dO$ dO _ _ _ c x5) (KE$ tJ (jH Z aq$ aq _ _ _ N X) (KE$ jH Z dX x0) (tG (Cf:=[(g,2)]) (d:=0)) LO LO) LO) λv4 a2 x1 W9 k9=>f6 _ _ ?_];let O:aj H5 a2:=(c.trans k9.t);exact#[_,_,Z,x1,W9,O]
 .clear f9;left;exact f6 _ _ #[_,_,Z,(PB.more (dO _ _ _ k.t x5) LO),W,k.t]
 symm;let⟨o2,c2,rfl,x4,a3,k'⟩:=h1;erw[f9 _ _ ?_];clear f9;left;let i:aj J H4:=(((k2.t.trans k3.t).trans k5).trans k');erw[ah λF5 f'=>jO a3 (zZ (n:=1) (Fx Z) (jH Z aq$ aq _ _ _ i U) (kO (zi Z LO LO) LO) LO LO) λv5 a0 x6 a4 k4=>f' _ _ ?_];let a:aj J a0:=(i.trans k4.t);erw[ah λF6 a'=>jO a4 (QS (Cf:=[(g,2)]) (KC Z (jH Z aq$ aq _ _ _ a xx)$ jH Z aq$ aq _ _ _ a U) LO) λv6 b0 x9 b1 R=>a' _ _ ?_];let j:aj J b0:=(a.trans R.t);erw[ah λF' b2=>jO b1 (QS (Cf:=[(g,2)]) (KC Z (jH Z aq$ aq _ _ _ j U)$ jH Z aq$ aq _ _ _ j X) LO) λv9 a1 x' b3 S=>b2 _ _ ?_];let y:aj H4 a1:=((k4.t.trans R.t).trans S.t);let z:aj a0 a1:=(R.t.trans S.t);erw[ah λc3 b4=>jO b3 (Jp (jH Z dO$ dO _ _ _ y x4) (QT (tJ (jH Z aq$ aq _ _ _ z x6) (KE$ jH Z dX$ dX _ _ _ S.t x9) (tG (Cf:=[(g,2)]) (d:=0)) LO LO)$ Ev.up (jH Z dX x') λ_ _=>cQ.lift) LO) λv' c4 b7 b9 c5=>b4 _ _ ?_];erw[KW b9 (X2 (QU Z) (Br (ke Z LO LN)$ ke Z LO LN) (jH Z dO b7) LO LN) λv u x W'=>?_];symm;let⟨r,rfl,x⟩:=x;exact q r u x W'.B W'.K
def bp:ak z42z z22z (ae iD):=bQ
def QO:hJ:=#[.function,[(".0",.local),("_law_one",.local)],μ,μ,[]]
def Zi:(["_law_one"]:List π).Nodup:=by decide+kernel
def Zj:aV z42z (ae iD) QO ["_law_one"] 1 []:=nS
def rF(F:xa K "_law_looped" iD f fd)(C:‹1› fT d5 z0z aY "_law_take")(cO:‹2› fO d6 z19z ni "_law_op")(mi:mg "int"=ζ)(m6:mg "tuple"=ζ):⇑3 f fd z22z (dn 1):=by
 erw[F.ok bp λd7 A b2 s H vs Q E l h=>?_]
 symm;let⟨p,W,f0,g,Y,rfl,B,hw,h2,q⟩:=h;erw[#[_,(jd (zd (@kY _ _ _ _ _ _ _ (["_law_one"]) (1) ([]) _ _ _ _ Z (qd$ jK kX (pv 3) ki$ jI jf) Zj (λ_ _ _ _ _=>(ju (i:=0) Zi Z$ Δ Z)) (λ_ _ _ _ _=>(@zR _)) (λ_ _ _ _ _=>(jh$ ja jj$ ja (pv 0) jb)) (by intro _;rfl))$ @ZG _ _ _ _ (5) _ Z (jA (ju (i:=4) bp.nd Z$ Δ Z)$ jA (ju (i:=5) bp.nd Z$ Δ Z)$ jA (ju (i:=6) bp.nd Z$ Δ Z)$ jA (ju (i:=7) bp.nd Z$ Δ Z)$ jA (ju (i:=8) bp.nd Z$ Δ Z) kH) LK LK)$ jd (jz 9 bp.nd$ jD$ ja (jh$ ja jj$ ja (jr jp (pv 3) jf (λ_ _=>Z))$ ja (jh$ ja jj$ ja jj$ ja (pv 5)$ ja (jh$ ja jj$ ja (C.e l.m$ ja (pv 0)$ ja jf jb) jb) jb) jb) jb)$ jd (jT$ zh M4 M7 M6 jQ (pv 9)$ ja (jh$ ja jj$ ja (jr jp (pv 3) jf (λ_ _=>Z))$ ja (pv 2)$ ja (jh$ ja (pv 7)$ ja (jr jp (jD$ ja (pv 5)$ ja (pv 6) jb) (jC j8 Z mi Pl$ ja (kU zJ (C.e l.m$ ja (pv 0)$ ja jf jb) jf$ ax _) jb) (λ_ _=>Z)) jb) jb) jb)$ jd (j5$ jx (zo$ C.e l.m$ ja (pv 0)$ ja jf jb) (jd (jz 10 bp.nd$ jh$ ja jj$ ja jj$ ja (pv 5)$ ja (jh$ ja jj$ ja (jw jS jf$ C.e l.m$ ja (pv 0)$ ja jf jb) jb) jb)$ jg$ jT$ zh M4 M7 M6 jQ (pv 9)$ ja (jh$ ja jj$ ja (pv 10)$ ja (jr jp (jD$ ja (pv 6)$ ja (pv 8)$ ja (pv 7) jb) (C.e l.m$ ja (pv 0)$ ja jf jb) (λ_ _=>Z)) jb) jb) jo)$ jd (jT$ zh M4 M7 M6 jQ (pv 9)$ ja (jh$ ja jj$ ja (jr jp (pv 3) jf (λ_ _=>Z))$ ja (cO.e l.m$ ja (pv 0)$ ja (jr jp (jD$ ja (pv 6)$ ja (pv 6)$ ja (pv 7) jb) (C.e l.m$ ja (pv 0)$ ja jf jb) (λ_ _=>Z))$ ja (pv 8) jb) jb) jb)$ jd (j5$ jx (zo$ C.e l.m$ ja (pv 0)$ ja jf jb) (jg$ zd (jh$ ja (jr jp (pv 9) jf (λ_ _=>Z))$ ja (jr jp (pv 9) jf (λ_ _=>Z)) jb)$ qg (n:=2) Z$ jA (Jm (pv 9) jf zU)$ jA (Jm (pv 9) jf zU) kH) jo)$ jd (jT$ zh M4 M7 M6 jQ (pv 9)$ ja (jh$ ja jj$ ja (jr jp (pv 3) jf (λ_ _=>Z))$ ja (jh$ ja jj$ ja jj$ ja (pv 5)$ ja (jh$ ja jj$ ja jf jb) jb) jb) jb)$ jd (jz 11 bp.nd$ jh$ ja (jh$ ja jj$ ja (jr jp (pv 3) jf (λ_ _=>Z))$ ja (jh$ ja jj$ ja (C.e l.m$ ja (pv 0)$ ja jf jb) jb) jb)$ ja (jh$ ja jj$ ja (jr jp (pv 3) jf (λ_ _=>Z))$ ja (jh$ ja jj$ ja (C.e l.m$ ja (pv 0)$ ja jf jb) jb) jb) jb)$ jd (j5$ jx (zo$ C.e l.m$ ja (pv 0)$ ja jf jb) (jd (jz 11 bp.nd$ jw zb (pv 11)$ jh$ ja (jh$ ja jj$ ja (jr jp (pv 3) jf (λ_ _=>Z))$ ja (jh$ ja jj$ ja (jw jS jf$ C.e l.m$ ja (pv 0)$ ja jf jb) jb) jb) jb)$ jg$ jz 11 bp.nd$ jw zb (pv 11)$ jh$ ja (jh$ ja jj$ ja (jr jp (pv 3) jf (λ_ _=>Z))$ ja (jh$ ja jj$ ja jj$ ja (pv 4)$ ja (jh$ ja jj$ ja jf jb) jb) jb) jb) jo)$ jd (jz 12 bp.nd$ jh$ ja jj$ ja (jh$ ja jj$ ja jj$ ja (pv 5)$ ja (pv 4) jb)$ ja (jC jG Z m6 Of$ ja (pv 9) jb) jb)$ jg$ jm$ jh$ ja (pv 1)$ ja (jh$ ja (jr jp (pv 3) jf (λ_ _=>Z)) jb)$ ja (jw zb (pv 11)$ jh$ ja (pv 12)$ ja (jh$ ja jj$ ja (jh$ ja jj$ ja jf jb)$ ja (pv 6) jb)$ ja (jh$ ja jj$ ja (pv 6) jb) jb) jb),?_]];let W0:Wd H H p W Y:=#[B,ay.refl,hw];sleep 10;erw[ah λF1 f1=>ZQ W0 Z h2 λvn vi vs vx vy U xn xi xs xx xy W1=>f1 _ _ ?_];erw[ah λF2 f2=>Go W1 (Ka (Cf:=[(g,2)]) (ke Z LO LN) (zZ (n:=1) (ql zw) (jH Z aq xi) (kO (zi Z LO LO) LO) LO LO) LO) λlb u2 H2 o2 x2 W2 k2=>f2 _ _ ?_];erw[ah λF3 f3=>JZ W2 Z o2 (show 1<=100 by decide) (tH (Cf:=[(g,2)]) (ke Z LO LN) (QU Z) MM (jH Z aq$ aq _ _ _ k2.t xx) (Fu Z LO LO (jH Z aq$ aq _ _ _ k2.t xi)$ jH Z aq$ aq _ _ _ k2.t xs) LO LO) λu3 H3 x3 o3 W3 k3=>f3 _ _ ?_];erw[ah λF4 f4=>dN (λu c=>∃(o:Option V) (G:List V),u=[δ$ vr p,δ$ ti f0,δ$ ti g,δ$ vr W,δ$ vn,δ$ vi,δ$ vs,δ$ vx,δ$ vy,δ$ vr lb,o,ζ,ζ]/\Ow H c p W lb (u2::u3::G)/\il [(g,2)] c Y 0 G/\G.length<=1/\Wd H c p W Y/\aj H3 c) (λE4 _ f5=>Jy W3 Z LO LO (λH6 W6 k6=>?_) (λH6 W6 k6=>?_)) λσ2 H5 h3=>?_]
 .clear f4;left;let o6:=o3.fw k6;let R:aj U H6:=((k2.t.trans k3).trans k6.t);erw[ah λF7 f7=>jO W6 (zZ (n:=1) (ql zw) (jH Z aq$ aq _ _ _ R xi) (kO (Xu (zi Z LO LO) LO) LO) LO LO) λv7 H7 x7 W7 k7=>f7 _ _ ?_];let o7:=o6.fw k7;let y:aj U H7:=(R.trans k7.t);erw[JZ W7 Z o7 (show 2<=100 by decide) (KD (Cf:=[(g,2)]) (jH Z aq x7) (Bq Z (jH Z aq$ aq _ _ _ y xs) (jH Z aq$ aq _ _ _ y xy)$ jH Z aq$ aq _ _ _ y xx) LO LO) λu8 H8 x8 o8 W8 k8=>f5 _ _ ?_];let m5:aj H3 H8:=((k6.t.trans k7.t).trans k8);exact#[_,[u8],Z,o8,zS x8,Mx 1,W8,m5]
 .clear f4;left;let o6:=o3.fw k6;exact f5 _ _ #[_,[],Z,o6,KU,LO,W6,k6.t]
 symm;let⟨w5,G,rfl,o5,zx,zl,W5,k5⟩:=h3;erw[f4 _ _ ?_];clear f4;left;let M:aj U H5:=((k2.t.trans k3).trans k5);erw[ah λF9 f9=>JZ W5 Z o5 (show G.length+1+1<=100 by omega) (Kb (Cf:=[(g,2)]) (ke Z LO LN) (KC Z (Bq Z (jH Z aq$ aq _ _ _ M xs) (jH Z aq$ aq _ _ _ M xs)$ jH Z aq$ aq _ _ _ M xx)$ jH Z aq$ aq _ _ _ M xy) LO) λu9 H9 x9 o9 W9 k9=>f9 _ _ ?_];let zy:il [(g,2)] H9 Y 0 (G++[u9]):=JY (zx.mono k9) (zS x9);let zm:(G++[u9]).length<=2:=by rw[Mz];exact NF zl
 erw[ah λF0 I=>dN (λu c=>∃(X:List V),u=[δ$ vr p,δ$ ti f0,δ$ ti g,δ$ vr W,δ$ vn,δ$ vi,δ$ vs,δ$ vx,δ$ vy,δ$ vr lb,w5,ζ,ζ]/\Ow H c p W lb X/\il [(g,2)] c Y 0 X/\X.length<=4/\Wd H c p W Y/\aj H9 c) (λE1 _ S=>Jy W9 Z LO LO (λH0 W4 k=>?_) (λH0 W4 k=>?_)) λσ0 b3 h0=>?_]
 .clear I;left;let o1:=o9.fw k;erw[AV W4 Z o1 λH4 b4 b5 k0=>S _ _ ?_];let m0:aj H3 H4:=(((k5.trans k9).trans k.t).trans k0);let m1:aj H2 H4:=((((k3.trans k5).trans k9).trans k.t).trans k0);let z:aj H9 H4:=(k.t.trans k0);exact#[_,Z,b4,jV ((dX _ _ _ m0 x3))$ jV ((dX _ _ _ m1 x2))$ zy.mono z,(show(G++[u9]).length+1+1<=4 by omega),b5,z]
 .clear I;left;let o1:=o9.fw k;let m2:aj H2 H0:=(((k3.trans k5).trans k9).trans k.t);let m3:aj H3 H0:=((k5.trans k9).trans k.t);exact S _ _ #[_,Z,o1,jV ((dX _ _ _ m2 x2))$ jV ((dX _ _ _ m3 x3))$ zy.mono k.t,(show(G++[u9]).length+1+1<=4 by omega),W4,k.t]
 symm;let⟨X,rfl,b7,ux,ul,b9,b'⟩:=h0;erw[I _ _ ?_];clear I;left;let d:aj U b3:=((M.trans k9).trans b');erw[ah λF5 f6=>JZ b9 Z b7 LN (Kb (Cf:=[(g,2)]) (ke Z LO LN) (zZ (n:=1) (ql zw) (jH Z aq$ aq _ _ _ d xi) (kO (Qz LO (by decide:(1:Int) < 2)) LO) LO LO) LO) λu0 a1 x1 c0 c1 k1=>f6 _ _ ?_];let b0:il [(g,2)] a1 Y 0 (X++[u0]):=JY (ux.mono k1) (zS x1);let bl:(X++[u0]).length<=5:=by rw[Mz];exact NF ul
 erw[ah λF6 f8=>jO c1 (QT (Kb (Cf:=[(g,2)]) (ke Z LO LN) (kO (zi Z LO LO) LO) LO)$ Kb (Cf:=[(g,2)]) (ke Z LO LN) (kO (zi Z LO LO) LO) LO) λv1 a2 x0 c2 J=>f8 _ _ ?_];let o':=c0.fw J;erw[ah λF' L=>dN (λu c=>∃(b:V),u=[δ$ vr p,δ$ ti f0,δ$ ti g,δ$ vr W,δ$ vn,δ$ vi,δ$ vs,δ$ vx,δ$ vy,δ$ vr lb,w5,δ b,ζ]/\Ow H c p W lb (X++[u0])/\PB [(g,2)] Y 0 4 c b/\Wd H c p W Y/\aj a2 c) (λE2 _ T=>Jy c2 Z LO LO (λc3 a0 a=>?_) (λc3 a0 a=>?_)) λσ1 a3 h1=>?_]
 .clear L;left;let o4:=o'.fw a;erw[ah λd8 f'=>jO a0 (Jp (jH Z dO$ dO _ _ _ a.t x0) (KE$ Ka (Cf:=[(g,2)]) (ke Z LO LN) (kO (Xu (zi Z LO LO) LO) LO) LO) LO) λv2 c4 x4 c5 k4=>f' _ _ ?_];let c6:=o4.fw k4;let m4:aj U c4:=((((d.trans k1).trans J.t).trans a.t).trans k4.t);erw[jO c5 (Jp (jH Z dO x4) (KE$ Kb (Cf:=[(g,2)]) (ke Z LO LN) (zZ (n:=1) (ql AG) (jH Z aq$ aq _ _ _ m4 xn) (kO (Qz LO (by decide:(2:Int) < 3)) LO) LO LO) LO) LO) λv3 c9 x5 c' a4=>T _ _ ?_];let d0:=c6.fw a4;let N:aj a2 c9:=((a.t.trans k4.t).trans a4.t);exact#[_,Z,d0,x5,c',N]
 .clear L;left;let o4:=o'.fw a;exact T _ _ #[_,Z,o4,(PB.more (dO _ _ _ a.t x0) LO),a0,a.t]
 symm;let⟨d',rfl,a',x6,d1,b1⟩:=h1;erw[L _ _ ?_];clear L;left;let j:aj U a3:=(((d.trans k1).trans J.t).trans b1);let O:aj a1 a3:=(J.t.trans b1);erw[ah λe0 d2=>jO d1 (Bt (zZ (n:=1) (ql XE) (jH Z aq$ aq _ _ _ j xi) (jH Z aq$ aq _ _ _ j xn) LO LO) (Bs (n:=5) Z a' (b0.mono O) bl) LO LO) λv4 d3 x' d4 k'=>d2 _ _ ?_];let e1:=a'.fw k';let D:aj U d3:=(j.trans k'.t);erw[KW d4 (X2 (QU Z) (tK$ ke Z LO LN) (Jp (Ev.up (jH Z dO$ dO _ _ _ k'.t x6) λ_ _=>PB.lift) (Fp (jH Z dX x') (Ev.up (KD (Cf:=[(g,2)]) (kO (Qz LO (by decide:(30:Int) < 31)) LO) (jH Z aq$ aq _ _ _ D xs) LO LO) λ_ _=>cQ.lift)$ Ev.up (QS (Cf:=[(g,2)]) (jH Z aq$ aq _ _ _ D xs) LO) λ_ _=>cQ.lift) LO) LO LN) λv c x W'=>?_];symm;let⟨r,rfl,x⟩:=x;exact q r c x W'.B W'.K
def Iq(b:0<=d)(c:d < 2)(h:cQ C H y 0 u)(a:cQ C H y 0 v):il C H y 0 (aX [u,v] ζ$ δ (1+d))/\(aX [u,v] ζ$ δ (1+d)).length<=2:=by
 rcases(by omega:d=0∨d=1) with rfl |rfl
 .exact#[zS h,by show 1<=2;decide]
 .exact#[jV h$ zS a,by show 2<=2;decide]
def P2(C:gi)(y:List π)(H:Hp)(w:V):Prop:=∃a u v,w= .ref a/\H a=δ (.tup [u,v])/\cQ C H y 0 u/\cQ C H y 0 v
def BB:nM (P2 C y):=λ_ _ _ m #[a,u,v,e,h,H,b]=>#[a,u,v,e,m _ _ h,H.mono m,b.mono m]
section
variable {Cf:gi}{ys:List π}{H0 Hb:Hp}{p wl:ε}{σ:_L.St}
def CM(h:Ev H0 p wl ys Hb σ T (λH v=>cQ Cf H ys 0 v))(c:Ev H0 p wl ys Hb σ d (λH v=>cQ Cf H ys 0 v)):Ev H0 p wl ys Hb σ (bq$ al T$ al d aK) (P2 Cf ys):=λH Q m W q=>
 h H _ m W λo e X f a=>c e _ (m.trans a) f λs u g i b=>#[bg,λr n=>km (P:=P2 Cf ys) i (λV j x l k=>q V j x l ((a.trans b).trans k)) n λt z=>#[r,_,_,Z,z,(X.mono b.t).mono t,g.mono t]]
def CJ(e:σ[i]?=δ (δ v))(E:σ[0]?=δ (↑p))(h:P2 Cf ys Hb v):Ev H0 p wl ys Hb σ (HW DT (a5 i) mx$ nD$ eh (xE λi j=>tT (i+j)) (tC$ .int 1)$ wO 2) (PB Cf ys 0 2):=λH Q m W q=>
 #[v,e,zi E LO LO H _ m W λw y #[d,b,D,c] f k=>#[1,d,Z,b,_,Z,by
  let⟨a,u,A,rfl,g,l,n⟩:=BB _ _ _ (m.trans k).t h;let z:=Iq D c l n;exact#[a,_,Z,g,λr o x s=>q _ o #[r,_,Z,x,z.1.mono$ af.tm s,z.2] (f.same s) (k.trans$ .same s)]]]
end
def aQ:ak z43z z22z (ae gK):=bQ
def Qy:hJ:=#[.function,[(".0",.local),("_law_one",.local)],μ,μ,[]]
def YA:(["_law_one"]:List π).Nodup:=by decide+kernel
def YB:aV z43z (ae gK) Qy ["_law_one"] 1 []:=nS
def Zk(F:xa K "_law_ticking" gK f fd)(C:‹1› fT b5 z0z aY "_law_take")(cO:‹2› fO b7 z19z ni "_law_op")(mi:mg "int"=ζ)(m1:mg "tuple"=ζ):⇑3 f fd z22z (dn 1):=by
 erw[F.ok aQ λc0 A o5 s H vs Q E c h=>?_]
 symm;let⟨p,W,f0,g,ys,rfl,B,hw,h1,q⟩:=h;erw[#[_,(jd (zd (@kY _ _ _ _ _ _ _ (["_law_one"]) (1) ([]) _ _ _ _ Z (qd$ jK kX (pv 3) ki$ jI jf) YB (λ_ _ _ _ _=>(ju (i:=0) YA Z$ Δ Z)) (λ_ _ _ _ _=>(@zR _)) (λ_ _ _ _ _=>(jh$ ja jj$ ja (pv 0) jb)) (by intro _;rfl))$ @ZG _ _ _ _ (5) _ Z (jA (ju (i:=4) aQ.nd Z$ Δ Z)$ jA (ju (i:=5) aQ.nd Z$ Δ Z)$ jA (ju (i:=6) aQ.nd Z$ Δ Z)$ jA (ju (i:=7) aQ.nd Z$ Δ Z)$ jA (ju (i:=8) aQ.nd Z$ Δ Z) kH) LK LK)$ jd (jz 9 aQ.nd$ jh$ ja jj$ ja (jw jS jf$ C.e c.m$ ja (pv 0)$ ja jf jb) jb)$ jd (jz 10 aQ.nd$ jD$ ja (jh$ ja jj$ ja (jr jp (pv 3) jf (λ_ _=>Z))$ ja (pv 9) jb)$ ja (jh$ ja jj$ ja (jr jp (pv 3) jf (λ_ _=>Z))$ ja (jr jp (jD$ ja (pv 5)$ ja (jh$ ja jj$ ja (C.e c.m$ ja (pv 0)$ ja jf jb) jb) jb) (C.e c.m$ ja (pv 0)$ ja jf jb) (λ_ _=>Z)) jb) jb)$ jd (jT$ zh M4 M7 M6 jQ (pv 10)$ ja (jh$ ja jj$ ja (jr jp (pv 3) jf (λ_ _=>Z))$ ja (pv 2)$ ja (jh$ ja (jr jp (jD$ ja (pv 7)$ ja (jh$ ja jj$ ja jf jb) jb) (C.e c.m$ ja (pv 0)$ ja jf jb) (λ_ _=>Z))$ ja (jr jp (jD$ ja (pv 5)$ ja (jh$ ja jj$ ja jf jb) jb) (C.e c.m$ ja (pv 0)$ ja jf jb) (λ_ _=>Z)) jb) jb) jb)$ jd (j5$ jx (zo$ C.e c.m$ ja (pv 0)$ ja jf jb) (jg$ jT$ zh M4 M7 M6 jQ (pv 10)$ ja (jh$ ja jj$ ja (jh$ ja jj$ ja jj$ ja (pv 5)$ ja (jh$ ja jj$ ja (C.e c.m$ ja (pv 0)$ ja jf jb) jb) jb)$ ja (pv 8) jb) jb) jo)$ jd (jz 11 aQ.nd$ jh$ ja jj$ ja jf jb)$ jd (jz 12 aQ.nd$ jD$ ja (jh$ ja jj$ ja (jr jp (pv 3) jf (λ_ _=>Z))$ ja (pv 11) jb)$ ja (jh$ ja jj$ ja (pv 11)$ ja (cO.e c.m$ ja (pv 0)$ ja (pv 6)$ ja (pv 8) jb) jb) jb)$ jd (j5$ jx (zo$ C.e c.m$ ja (pv 0)$ ja jf jb) (jg$ jz 12 aQ.nd$ jD$ ja (jh$ ja jj$ ja (jr jp (pv 3) jf (λ_ _=>Z))$ ja (cO.e c.m$ ja (pv 0)$ ja (pv 6)$ ja (pv 8) jb) jb) jb) jo)$ jd (jz 10 aQ.nd$ jw qw (jw qw (pv 10)$ pv 12)$ jD$ ja (jh$ ja jj$ ja (pv 9)$ ja (jh$ ja jj$ ja jj$ ja (pv 5)$ ja (jh$ ja jj$ ja jf jb) jb) jb)$ ja (jh$ ja jj$ ja (jr jp (pv 3) jf (λ_ _=>Z))$ ja (jh$ ja jj$ ja jj$ ja (pv 5)$ ja (pv 4) jb) jb) jb)$ jd (jz 13 aQ.nd$ jh$ ja (jh$ ja jj$ ja (jr jp (pv 3) jf (λ_ _=>Z))$ ja (jh$ ja jj$ ja jf jb) jb)$ ja (jh$ ja jj$ ja (pv 9)$ ja (jh$ ja jj$ ja (C.e c.m$ ja (pv 0)$ ja jf jb) jb) jb) jb)$ jd (jz 14 aQ.nd$ jh$ ja jj$ ja (jh$ ja jj$ ja (jr jp (pv 3) jf (λ_ _=>Z)) jb)$ ja (jC jG Z m1 Of$ ja (pv 10) jb) jb)$ jg$ jm$ jh$ ja (pv 1)$ ja (jh$ ja (jr jp (pv 3) jf (λ_ _=>Z)) jb)$ ja (jw zb (jK qx (pv 13) ki$ jI$ jw jS jf$ C.e c.m$ ja (pv 0)$ ja jf jb)$ jh$ ja (pv 14)$ ja (jh$ ja jj$ ja (pv 6) jb) jb) jb),?_]];let W0:Wd H H p W ys:=#[B,ay.refl,hw];sleep 11;erw[ah λF1 f1=>ZQ W0 Z h1 λvn vi vs vx vy H1 xn xi xs xx xy W1=>f1 _ _ ?_];erw[ah λF2 f2=>jO W1 (kO (Xu (zi Z LO LO) LO) LO) λv2 H2 x2 W2 k2=>f2 _ _ ?_];erw[ah λF3 f3=>Gp W2 (Ka (Cf:=[(g,2)]) (ke Z LO LN) (jH Z aq x2) LO) (Ka (Cf:=[(g,2)]) (ke Z LO LN) (Zs Z (jH Z aq$ aq _ _ _ k2.t xi)$ kO (zi Z LO LO) LO) LO) λlb u3 w3 H3 o3 x3 y3 W3 k3=>f3 _ _ ?_];let a:aj H1 H3:=(k2.t.trans k3.t);erw[ah λF4 f4=>JZ W3 Z o3 (show 2<=100 by decide) (tH (Cf:=[(g,2)]) (ke Z LO LN) (QU Z) MM (Zs Z (jH Z aq$ aq _ _ _ a xx)$ kO (Qz LO (by decide:(3:Int) < 4)) LO) (Zs Z (jH Z aq$ aq _ _ _ a xi)$ kO (Qz LO (by decide:(2:Int) < 3)) LO) LO LO) λu4 H4 x4 o4 W4 k4=>f4 _ _ ?_];erw[ah λF5 f5=>dN (λN d=>∃(us:List V),N=[δ$ vr p,δ$ ti f0,δ$ ti g,δ$ vr W,δ$ vn,δ$ vi,δ$ vs,δ$ vx,δ$ vy,δ$ v2,δ$ vr lb,ζ,ζ,ζ,ζ]/\Ow H d p W lb us/\il [(g,2)] d ys 0 us/\us.length<=4/\Wd H d p W ys/\aj H4 d) (λE5 _ f6=>Jy W4 Z LO LO (λH7 W7 u=>?_) (λH7 W7 u=>?_)) λσ1 H6 h2=>?_]
 .clear f5;left;let o7:=o4.fw u;let D:aj H1 H7:=((a.trans k4).trans u.t);erw[JZ W7 Z o7 (show 3<=100 by decide) (KD (Cf:=[(g,2)]) (zZ (n:=1) (ql zw) (jH Z aq$ aq _ _ _ D xi) (kO (zi Z LO LO) LO) LO LO) (jH Z aq$ aq _ _ _ D xy) LO LO) λu8 H8 x8 o8 W8 k8=>f6 _ _ ?_];let G:aj H4 H8:=(u.t.trans k8);let I:aj H3 H8:=((k4.trans u.t).trans k8);exact#[_,Z,o8,(jV ((dX _ _ _ I x3))$ jV ((dX _ _ _ I y3))$ jV ((dX _ _ _ G x4))$ jV (x8) KU),(show 4<=4 by decide),W8,G]
 .clear f5;left;let o7:=o4.fw u;let J:aj H3 H7:=(k4.trans u.t);exact f6 _ _ #[_,Z,o7,(jV ((dX _ _ _ J x3))$ jV ((dX _ _ _ J y3))$ jV ((dX _ _ _ u.t x4)) KU),(show 3<=4 by decide),W7,u.t]
 symm;let⟨us,rfl,o6,ux,ul,W6,k6⟩:=h2;erw[f5 _ _ ?_];clear f5;left;erw[ah λF9 f9=>jO W6 (kO (Qz LO (by decide:(30:Int) < 31)) LO) λv9 H9 x9 W9 k9=>f9 _ _ ?_];let o9:=o6.fw k9;let b:aj H1 H9:=(((a.trans k4).trans k6).trans k9.t);erw[ah λF0 f7=>Gp W9 (Ka (Cf:=[(g,2)]) (ke Z LO LN) (jH Z aq x9) LO) (KD (Cf:=[(g,2)]) (jH Z aq x9) (KC Z (jH Z aq$ aq _ _ _ b xs)$ jH Z aq$ aq _ _ _ b xy) LO LO) λlm u0 w0 H0 z0 x0 y0 W5 j=>f7 _ _ ?_];let o1:=o9.fw j;erw[ah λF6 y=>dN (λN d=>∃(m:ε) (zs:List V),N=[δ$ vr p,δ$ ti f0,δ$ ti g,δ$ vr W,δ$ vn,δ$ vi,δ$ vs,δ$ vx,δ$ vy,δ$ v2,δ$ vr lb,δ$ v9,↑m,ζ,ζ]/\Ow H d p W lb us/\Ow H d p W m zs/\il [(g,2)] d ys 0 zs/\zs.length<=2/\Wd H d p W ys/\aj H0 d) (λE1 _ L=>Jy W5 Z LO LO (λH5 O k=>?_) (λH5 O k=>?_)) λσ0 R h0=>?_]
 .clear y;left;let S:=o1.fw k;let z1:=z0.fw k;let l:aj H1 H5:=((b.trans j.t).trans k.t);erw[Go O (Kb (Cf:=[(g,2)]) (ke Z LO LN) (KC Z (jH Z aq$ aq _ _ _ l xs)$ jH Z aq$ aq _ _ _ l xy) LO) λlq u1 a0 z2 x1 a1 k1=>L _ _ ?_];let o':=S.fw k1;let z:aj H0 a0:=(k.t.trans k1.t);exact#[_,_,Z,o',z2,zS x1,(show 1<=2 by decide),a1,z]
 .clear y;left;let S:=o1.fw k;let z1:=z0.fw k;exact L _ _ #[_,_,Z,S,z1,(jV ((dX _ _ _ k.t x0))$ jV ((dX _ _ _ k.t y0)) KU),(show 2<=2 by decide),O,k.t]
 symm;let⟨lm,zs,rfl,a2,z3,zx,zl,a3,T⟩:=h0;erw[y _ _ ?_];clear y;left;let o:aj H2 R:=(((((k3.t.trans k4).trans k6).trans k9.t).trans j.t).trans T);let M:aj H1 R:=((b.trans j.t).trans T);let U:aj H6 R:=((k9.t.trans j.t).trans T);erw[ah λF7 f8=>Cw a3 Z Z a2 z3 LN (ux.mono U) zx (KD (Cf:=[(g,2)]) (jH Z aq$ aq _ _ _ o x2) (zZ (n:=1) (ql zw) (jH Z aq$ aq _ _ _ M xi) (kO (Qz LO (by decide:(1:Int) < 2)) LO) LO LO) LO LO) (Kb (Cf:=[(g,2)]) (ke Z LO LN) (zZ (n:=1) (ql XE) (jH Z aq$ aq _ _ _ M xi) (jH Z aq$ aq _ _ _ M xn) LO LO) LO) λlc cs a4 a' cx cl b0 k5=>f8 _ _ ?_];let cm:cs.length<=8:=by omega
 let X:aj H2 a4:=(o.trans k5.t);erw[ah λF' f'=>jO b0 (CM (Kb (Cf:=[(g,2)]) (ke Z LO LN) (kO (Qz LO (by decide:(1:Int) < 2)) LO) LO)$ KD (Cf:=[(g,2)]) (jH Z aq$ aq _ _ _ X x2) (kO (zi Z LO LO) LO) LO LO) λv1 b9 x5 b1 Y=>f' _ _ ?_];let o2:=a'.fw Y;erw[ah λb' b2=>jO b1 (Bt (Jg$ ke Z LO LN) (Bs (n:=8) Z o2 (cx.mono Y.t) cm) LO LO) λv3 b3 x6 b4 k0=>b2 _ _ ?_];let c1:=o2.fw k0;let m0:aj H1 b3:=(((M.trans k5.t).trans Y.t).trans k0.t);erw[KW b4 (X2 (QU Z) (tK$ ke Z LO LN) (Jp (Ev.up (CJ Z Z$ BB _ _ _ k0.t x5) λ_ _=>PB.lift) (QT (jH Z dX x6)$ Ev.up (QS (Cf:=[(g,2)]) (jH Z aq$ aq _ _ _ m0 xs) LO) λ_ _=>cQ.lift) LO) LO LN) λv d x W'=>?_];symm;let⟨r,rfl,x⟩:=x;exact q r d x W'.B W'.K
def Ir{y:List π}{lo:Nat}(h:y.length=14)(H:lo<=8):(bf y (δ (lo:Int))$ δ ((lo+6:Nat):Int)).length=6:=by unfold bf;rw[HT.sIx_nat,HT.sIx_nat,M1,Og,h,OG$ MT H LO,OG$ Nat.add_le_add_right H 6,Nat.add_sub_cancel_left];exact OG$ Nat.le_sub_of_add_le$ MT (TW H 6) LO
def Lr{k:Nat}(h:k < n):nK n (k:Int)=δ k:=by unfold nK;rw[MQ LN,MQ LN,Nr]
def sy.more(h:sy C n H r f)(k:∀y∈C,y∈D):sy D n H r f:=let #[d,b,a,c]:=h;#[d,b,#[a.1,kJ k a.2],c]
def Iu(r:sy [(l,N),(m,j),(o,k)] N H a l)(s:sy [(l,N),(m,j),(o,k)] j H b m)(t:sy [(l,N),(m,j),(o,k)] k H c o)(p:N<=100/\j<=100/\k<=100):∃D,b6 H D [.ref a,.ref b,.ref c]/\D.length=3/\((∀d∈D,i' d/\d.b.Cs [(l,N),(m,j),(o,k)])/\D.map Df.f=[l,m,o])/\i8 H D [N,j,k]:=by
 let⟨d,u,v,O,y,z,E⟩:=r;let⟨e,A,B,Q,C,F,G⟩:=s;let⟨f,I,J,R,g3,L,M⟩:=t;erw[#[[d,e,f],#[_,_,Z,u,_,_,Z,A,_,_,Z,I,Z],Z,#[λx q=>?_,by rw[<- E,<- G,<- M];rfl],Z,λi x n h g=>?_]]
 .simp only[Nv,MO,OZ]at q;rcases q with rfl |rfl |rfl
  .exact v
  .exact B
  .exact J
 .match i,h,g with
  |0,h,g=>cases h;cases g;exact#[_,y,z,p.1]
  |1,h,g=>cases h;cases g;exact#[_,C,F,p.2.1]
  |2,h,g=>cases h;cases g;exact#[_,g3,L,p.2.2]
inductive me(b:List V)(H:Hp)(Q:VK)(a:XK):Prop
 |mk(p:ε)(_:b=[.ref p])(_:ar H p)(_:∀(r:ε) (ds:List Df) (xs:List V) (H':Hp),H' r=δ (.tup xs)->b6 H' ds xs->ds.length=3->∀ns,lI ds ns->i8 H' ds ns->(∃r,ns=1::r)->ar H' p->ay p H H'->Q (.ref r) H')
def EX(L:List π)(_:Hp)(v:V):Prop:=∃x,v= .str x/\x∈L
section
variable {ys:List π}{H0 Hb:Hp}{p wl:ε}{σ:_L.St}
def Fv{K:Ω}(e:σ[0]?=δ (↑p))(r:Ev H0 p wl ys Hb σ t (sG a))(s:Ev H0 p wl ys Hb σ T (sG b))(u:Ev H0 p wl ys Hb σ x (sG c)):Ev H0 p wl ys Hb σ (eh (lv K) (nB$ al t$ al T$ al x aK)$ wO 3) (EX [a,b,c]):=λH Q m W q=>
 r H _ m W λy z (E:y= .str a) A k=>s z _ (m.trans k) A λC D (F:C= .str b) G f=>u D _ ((m.trans k).trans f) G λI R (J:I= .str c) h j=>#[eJ,λl n=>zi e LO LO _ _ ((((m.trans k).trans f).trans j).trans$ .new n) (h.same$ je n) λv L #[d,M,S,U] N o=>by
  obtain⟨g,i,O⟩:∃g,dM [ti a,.str b,.str c] d=δ (.str g)/\g∈[a,b,c]:=by
   rcases(by omega:d=0∨d=1∨d=2) with rfl |rfl |rfl
   .exact#[a,Z,LM]
   .exact#[b,Z,LM]
   .exact#[c,Z,LM]
  rw[<- E,<- F,<- J]at i;exact#[l,_,d,_,Z,M,aF.of$ o.b _ _ (h.B.ne n) jc,i,q _ L #[g,Z,O] N (((k.trans f).trans j).trans ((Fw.new n).trans o))]]
def tI{K:Ω}{lo:Nat}(e:σ[0]?=δ (↑p))(E:σ[1]?=δ (↑wl))(d:Ev H0 p wl ys Hb σ t (sG f))(l:Ev H0 p wl ys Hb σ T (EX L))(h:ys.length=14)(o:lo<=8)(s:i=(lo:Int))(u:j=((lo+6:Nat):Int)):
  Ev H0 p wl ys Hb σ (dR (dn n) [] E0$ al (a5 0)$ al t$ al T$ al (HW (Ah K) (a5 1) (nD$ tC$ .int i)$ nD$ tC$ .int j) aK) (PD (L.map λy=>(y,2)) n f):=λH Q m W q=>
 #[_,e,d H _ m W λv x (z:v= .str f) A k=>l x _ (m.trans k) A λV M #[g,D,c] b F=>#[_,E,_,Z,_,Z,wl,_,Z,aF.of b.w,λr N=>#[p,r,f,g,bf ys (δ i)$ δ j,by rw[z,D];rfl,b.B.upd_new N,by rw[jc,zW],by rw[s,u];exact Ir h o,λa G X I C=>
  q _ G #[a,Z,X.more λy J=>by rw[ρ.mp J];exact bS.mpr #[g,c,Z]] ((b.same$ je N).but I C) ((k.trans F).trans ((Fw.new N).trans$ .but (b.B.upd_new N) C))]]]
def qH{K:Ω}{k:Nat}(e:σ[j]?=δ (↑wl))(a:i=(k:Int))(h:ys[k]?=δ y):Ev H0 p wl ys Hb σ (eh (lv K) (a5 j)$ tC$ .int i) (sG y):=λH Q m W q=>
 #[_,e,wl,_,_,_,Z,Z,aF.of W.w,(by rw[a];exact jP (by rw[MK,h];rfl)),q _ H Z W .refl]
def Ft{n1 n2 n3:Nat}(s:n1<=100/\n2<=100/\n3<=100)(u:Ev H0 p wl ys Hb σ T (PD [(e,n1),(h,n2),(i,n3)] n1 e))(y:Ev H0 p wl ys Hb σ z (PD [(e,n1),(h,n2),(i,n3)] n2 h))(A:Ev H0 p wl ys Hb σ B (PD [(e,n1),(h,n2),(i,n3)] n3 i)):Ev H0 p wl ys Hb σ (bq$ al T$ al z$ al B aK) (λH v=>∃r D x,v= .ref r/\H r=δ (.tup x)/\b6 H D x/\D.length=3/\((∀d∈D,i' d/\d.b.Cs [(e,n1),(h,n2),(i,n3)])/\D.map Df.f=[e,h,i])/\i8 H D [n1,n2,n3]):=λH Q m W q=>
 u H _ m W λV C X E k=>y C _ (m.trans k) E λF G I J j=>A G _ ((m.trans k).trans j) J λL H4 M N l=>#[eJ,λr n=>q _ _ (by
  let t:=af.tm (je (o:=HO.tup [V,F,L]) n);let⟨a,O,R⟩:=lu _ _ _ t (lu _ _ _ (j.trans l).t X);let⟨b,S,U⟩:=lu _ _ _ t (lu _ _ _ l.t I);let⟨c,Y,h3⟩:=lu _ _ _ t M;let⟨D,g⟩:=Iu R U h3 s;exact#[r,D,_,Z,by rw[jc,O,S,Y],g]) (N.same$ je n) (((k.trans j).trans l).trans$ .new n)]
end
def gp:ak ["_law_box_here","_law_w","_law_body_here","_law_deeper","_law_further","_law_first"] z2z (ae vw):=bQ
def yE(F:xa K "_law_busy" vw f fd)(T:‹1› fT f0 z0z aY "_law_take")(cO:‹2› fO f1 z19z ni "_law_op")(cA:‹2› fA f7 z25z ff "_law_names")(cL:‹3› fL f8 z22z (dn 1) "_law_looped")(cK:‹3› fK f9 z22z (dn 1) "_law_ticking")(cI:‹3› fI f' z38z (dn 2) "_law_inner"):⇑4 f fd z2z me:=by
 erw[F.ok gp λc0 A U s H vs Q E i h=>?_]
 let⟨p,rfl,B,q⟩:=h;erw[#[_,(jd (jz 1 gp.nd$ cA.e i.m$ ja (pv 0)$ ja jf jb)$ jd (j5$ jx (zo$ T.e i.m$ ja (pv 0)$ ja jf jb) (jg$ zd (jr jp (pv 1) jf (λ_ _=>Z))$ Jm (pv 1) jf zU) jo)$ jd (jz 2 gp.nd$ jh$ ja (jh$ ja jj$ ja (jr jp (pv 1) jf (λ_ _=>Z))$ ja (jh$ ja jj$ ja (jr jp (pv 1) jf (λ_ _=>Z)) jb) jb)$ ja (jh$ ja jj$ ja (cO.e i.m$ ja (pv 0)$ ja (jh$ ja jj$ ja (jr jp (pv 1) jf (λ_ _=>Z)) jb)$ ja (jh$ ja jj$ ja (jr jp (pv 1) jf (λ_ _=>Z)) jb) jb) jb) jb)$ jd (jz 3 gp.nd$ jh$ ja (jr jp (pv 1) jf (λ_ _=>Z))$ ja (jh$ ja (jr jp (pv 1) jf (λ_ _=>Z))$ ja (jr jp (pv 1) jf (λ_ _=>Z)) jb)$ ja (pv 2) jb)$ jd (jz 4 gp.nd$ jr jp (jD$ ja (jr jp (pv 1) jf (λ_ _=>Z))$ ja (jr jp (pv 1) jf (λ_ _=>Z))$ ja (jr jp (pv 1) jf (λ_ _=>Z)) jb) (T.e i.m$ ja (pv 0)$ ja jf jb) (λ_ _=>Z))$ jd (jz 5 gp.nd$ cL.e i.m$ ja (pv 0)$ ja (jr jp (pv 1) jf (λ_ _=>Z))$ ja (jr jp (pv 1) jf (λ_ _=>Z))$ ja (jK kX (pv 1) (jI jf)$ jI jf) jb)$ jd (j5$ jx (zo$ T.e i.m$ ja (pv 0)$ ja jf jb) (jg$ jz 5 gp.nd$ cK.e i.m$ ja (pv 0)$ ja (jr jp (pv 1) jf (λ_ _=>Z))$ ja (jr jp (pv 1) jf (λ_ _=>Z))$ ja (jK kX (pv 1) (jI jf)$ jI jf) jb) jo)$ jg$ jm$ jh$ ja (pv 5)$ ja (cI.e i.m$ ja (pv 0)$ ja (jr jp (pv 1) jf (λ_ _=>Z))$ ja (pv 4)$ ja (jK kX (pv 1) (jI jf)$ jI jf) jb)$ ja (pv 3) jb),?_]];erw[ah λFa o=>#[_,Z,p,14,Z,B,LO,LO,λj ys Ha X u c d Ba ka=>o _ _ ?_]];clear o;let wp:j≠p:=qK Ba u;erw[ah λFa o=>dN (λn g=>∃Y:List π,n=[δ$ vr p,δ$ vr j,ζ,ζ,ζ,ζ]/\g j=δ (.lst$ Y.map ti)/\(Y.length=14/\(Y.take 3).Nodup/\∀y∈Y.take 3,y.length<=20)/\ar g p/\ay p H g) (λE0 _ fm=>Jy (W:=#[Ba,ka,u]) Z LO LO (λHb l kb=>?_) (λHb l kb=>fm _ _ #[_,Z,l.w,#[LN,d.2.1.sublist$ Ot _ _,λy hy=>d.1 y (Nh hy)],l.B,l.K])) λσ1 H0 h3=>?_]
 .clear o;let⟨v1,h6,z⟩:=KP (ys:=ys) (k:=1) LO LN;erw[#[_,Z,j,_,_,_,Z,Z,aF.of l.w,z,_,Z,j,_,8,8,Z,Z,l.w,Lr (k:=8) (by rw[Mv];omega),fm _ _ #[ys.set 8 v1,Z,?_,#[by rw[Rj];omega,by rw[List.take_set_of_le LO];exact#[d.2.1.sublist$ Ot _ _,λy hy=>d.1 y (Nh hy)]],l.B.eq$ ji$ MU wp,l.K.upd_own X]]];rw[jc,U1]
 obtain⟨ys,rfl,h4,⟨c,C,D⟩,B1,k1⟩:=h3;obtain⟨y0,h0⟩:∃y,ys[0]?=δ y:=#[_,Mw (by omega:0 < ys.length)];obtain⟨G,I⟩:∃y,ys[1]?=δ y:=#[_,Mw (by omega:1 < ys.length)];obtain⟨y2,N⟩:∃y,ys[2]?=δ y:=#[_,Mw (by omega:2 < ys.length)];let e3:ys.take 3=[y0,G,y2]:=by rw[NY,NY,NY,h0,I,N];rfl
 rw[e3]at C D;erw[o _ _ ?_];clear o;let W1:Wd H H0 p j ys:=#[B1,k1,h4];generalize H0=H1 at W1;erw[ah λF2 f2=>jO W1 (QT (Ka (Cf:=[]) (ke Z LO LN) (Jg$ ke Z LO LN) LO)$ QS (Cf:=[]) (KC Z (Jg$ ke Z LO LN)$ Jg$ ke Z LO LN) LO) λv2 H2 x2 W2 k2=>f2 _ _ ?_];erw[ah λF3 f3=>jO W2 (X2 (Cf:=[]) (qH (k:=2) Z Z N) (Br (ke Z LO LN)$ ke Z LO LN) (Ev.up (jH Z dO x2) λ_ _=>PB.lift) LO LN) λv3 H3 x3 W3 k3=>f3 _ _ ?_];erw[ah λF4 f4=>jO W3 (Fv Z (qH (k:=1) Z Z I) (qH (k:=2) Z Z N)$ qH (k:=2) Z Z N) λv4 H4 x4 W4 k4=>f4 _ _ ?_];erw[ah λF5 f5=>jO W4 (tI (lo:=6) Z Z (qH (k:=0) Z Z h0) (Ev.up (R:=EX [G]) (qH (k:=1) Z Z I) λ_ _ e=>#[_,e,MM]) c LO Z Z) λv5 H5 x5 W5 k5=>f5 _ _ ?_];erw[ah λF6 O=>dN (λn g=>∃(b:V),n=[δ$ vr p,δ$ vr j,δ$ v2,δ$ v3,δ$ v4,δ b]/\PD [(G,2)] 1 y0 g b/\Wd H g p j ys/\aj H5 g) (λE6 _ J=>Jy W5 Z LO LO (λH8 W8 S=>?_) (λH8 W8 S=>?_)) λσ2 H7 h5=>?_]
 .clear O;erw[jO W8 (tI (lo:=6) Z Z (qH (k:=0) Z Z h0) (Ev.up (R:=EX [G]) (qH (k:=1) Z Z I) λ_ _ e=>#[_,e,MM]) c LO Z Z) λv9 H9 x9 W9 k9=>J _ _ ?_];let M:aj H5 H9:=(S.t.trans k9.t);exact#[_,Z,x9,W9,M]
 .clear O;exact J _ _ #[_,Z,(lu _ _ _ S.t x5),W8,S.t]
 let⟨b7,rfl,x7,W7,k7⟩:=h5;erw[O _ _ ?_];clear O;let L:aj H3 H7:=((k4.t.trans k5.t).trans k7);erw[KW W7 (Ft (n1:=1) (n2:=2) (n3:=2) #[LO,LO,LO] (Ev.up (jH Z lu x7) (λ_ _ #[a,e,h]=>#[a,e,h.more LM])) (Ev.up (tI (lo:=7) Z Z (qH (k:=1) Z Z I) (jH (P:=EX [G,y2,y2]) Z (λ_ _ _ _ h=>h) x4) c LO Z Z) (λ_ _ #[a,e,h]=>#[a,e,h.more LM])) (Ev.up (jH Z lu$ lu _ _ _ L x3) (λ_ _ #[a,e,h]=>#[a,e,h.more LM]))) λv g x W'=>?_];let⟨r,ds,xs,rfl,g0,g1,g2,g3,g4⟩:=x;exact q r ds xs g g0 g1 g2 [1,2,2] #[by rw[g3.2];exact g3.1,by rw[g3.2];exact#[C,D]] g4 #[_,Z] W'.B W'.K
abbrev oU:da:=top 65
def Ew(h:0<=d)(H:d < 4):∃m:Int,dM [tT 3,.int 3,.int 3,.int 8] d=δ (.int m)/\3<=m/\m<=8:=by
 rcases(by omega:d=0∨d=1∨d=2∨d=3) with rfl |rfl |rfl |rfl
 .exact#[3,Z,LO,LO]
 .exact#[3,Z,LO,LO]
 .exact#[3,Z,LO,LO]
 .exact#[8,Z,LO,LO]
def CF(h:b6 H D v)(f:0<=k)(g:k < (v.length:Int)):∃d,dM v k=δ (.ref d.p)/\d∈D/\A7 H d (.ref d.p):=by
 let a:k.toNat < v.length:=by omega
 let E:k=((k.toNat:Nat):Int):=by omega
 let⟨d,c,b⟩:=h.at k.toNat _ (Mw a);let e:v[k.toNat]= .ref d.p:=b.elim λ_ z=>z.1;erw[#[d,?_,ML c,by rw[<- e];exact b]];rw[E];exact jP (by rw[<- e];exact Mw a)
def oE(H:Hp)(D:List Df)(v a:V):Prop:=∃(d:Df) (p:List π) (t:ε) (I:List Int),d∈D/\v= .str d.f/\H d.pa=δ (.tup$ p.map ti)/\a= .ref t/\H t=δ (.tup$ I.map tT)/\I.length=p.length/\I.length<=100/\∀i∈I,0<=i/\i < 1000000000000000000
inductive mf(b:List V)(H:Hp)(Q:VK)(a:XK):Prop
 |mk(p:ε)(_:b=[.ref p])(_:ar H p)(_:∀(t r:ε) (v2 v3:V) (ds:List Df) (xs:List V) (H':Hp),H' t=δ (.tup [.ref r,v2,v3])->H' r=δ (.tup xs)->b6 H' ds xs->1<=ds.length->ds.length<=8->∀ns,lI ds ns->i8 H' ds ns->oE H' ds v2 v3->eG (ds.map Df.f)->ar H' p->ay p H H'->Q (.ref t) H')
def gq:ak z44z z2z (ae oU):=bQ
def YC:hJ:=#[.function,[(".0",.local),("_law_one",.local),("_law_number",.globalImplicit),("_law_box_here",.free)],μ,μ,[]]
def uA:(["_law_one","_law_box_here"]:List π).Nodup:=by decide+kernel
def sV:aV z44z (ae oU) YC ["_law_one","_law_box_here"] 1 [0]:=nS
def yG(F:xa K "_law_case" oU f fd)(M:‹1› fT f3 z0z aY "_law_take")(cN:‹2› fN f4 z2z iY "_law_number")(cY:‹4› fY f5 z2z me "_law_busy")(cZ:‹22› fZ f6 z37z ph "_law_any")(ml:mg "len"=ζ)(m0:mg "tuple"=ζ):⇑23 f fd z2z mf:=by
 erw[F.ok gq λc0 A o1 s H vs Q E y h=>?_]
 symm;let⟨p,rfl,B,q⟩:=h;erw[#[_,(jd (jx (jB J9 (M.e y.m$ ja (pv 0)$ ja jf jb) jf$ ax _) (jd (jz 1 gq.nd$ cY.e y.m$ ja (pv 0) jb)$ jg$ jm$ jh$ ja (pv 1)$ ja (jy$ jr j6 (pv 1) jf (λ_ _=>Z))$ ja (jh$ ja (M.e y.m$ ja (pv 0)$ ja jf jb) jb) jb) jo)$ jd (jz 2 gq.nd$ jr jp (jD$ ja jf$ ja jf$ ja jf$ ja jf jb) (M.e y.m$ ja (pv 0)$ ja jf jb) (λ_ _=>Z))$ jd (jz 1 gq.nd$ cZ.e y.m$ ja (pv 0)$ ja (jw jS jf$ M.e y.m$ ja (pv 0)$ ja (pv 2) jb)$ ja jf jb)$ jd (zd (jr j6 (pv 1) (M.e y.m$ ja (pv 0)$ ja (jF jL Z ml NQ$ ja (pv 1) jb) jb) (λ_ _=>Z))$ qg (n:=3) Z$ jA (ju (i:=3) gq.nd Z$ Δ Z)$ jA (ju (i:=4) gq.nd Z$ Δ Z)$ jA (ju (i:=5) gq.nd Z$ Δ Z) kH)$ jg$ jm$ jh$ ja (pv 1)$ ja (pv 3)$ ja (jC jG Z m0 Of$ ja (@kY _ _ _ _ _ _ _ (["_law_one","_law_box_here"]) (1) ([0]) _ _ _ _ Z (zp$ pv 4) sV (λ_ _ _ _ _=>(ju (i:=0) uA Z$ Δ Z)) (λ_ _ _ _ _=>(@zR _)) (λ_ _ _ _ _=>(cN.e y.m$ ja (pv 1) jb)) (by intro _;rfl)) jb) jb),?_]];let b0:=aJ;sleep 4;erw[ah λF1 a=>oK λG1 g1=>#[_,Z,p,3,Z,B,LO,LO,λd1 H1 a0 a1 B1 e1=>#[_,_,Z,Z,_,Z,g1 _ _ ?_]]];clear g1;let k1:ay p H H1:=ay.of_eq e1;erw[b8 (λc=>?_) (λc=>a _ _ ?_)]
 .clear a;left;erw[ah λF2 f2=>#[_,Z,p,Z,B1,λr ds xs H2 N C hl ns D b O B2 k2=>f2 _ _ ?_]];clear f2;left;let ln:=C.len;symm;let⟨nr,rfl⟩:=O;cases ds with
  |nil=>cases hl
  |cons d r0=>
  let⟨p0,R,S,_⟩:=b.2 0 d 1 Z Z;let h0:=C;obtain⟨u0,rr,rfl,⟨bs,rfl,hp,_⟩,_⟩:=h0;let g:dM (vr d.p::rr) 0=δ (.ref d.p):=io;erw[#[_,Z,jq N g #[d.p,_,_,_,Z,Z,aB.of hp,io,_,Z,p,6,Z,B2,LO,LO,λd3 H3 d0 d4 B3 e3=>?_]]];let c3:ay p H2 H3:=ay.of_eq e3;erw[#[fg,λu nu=>#[eJ,λt U=>?_]]];let s4:af H3 (upd (upd H3 u$ .tup [.int d3]) t$ .tup [.ref r,.str d.f,.ref u]):=(je nu).trans (je U);let T:=(c3.tm B2).trans (af.tm s4);exact q t r _ _ _ _ _ jc (T _ _ N) (C.mono T) LN LN _ D (b.mono T) #[d,p0,u,[d3],MM,Z,T _ _ R,Z,am jc U,by rw[S];rfl,(by show 1<=100;decide),λi hi=>by rw[ρ.mp hi];omega] (eG.few (by rw[Mv];omega)) (B3.same s4) ((k1.trans k2).trans$ c3.trans$ ay.of_same s4)
 clear a;left;erw[ah λF1 a=>#[wE,λl W=>#[_,Z,p,4,Z,B1.upd_new W,LO,LO,λd2 H2 d6 d7 B2 e2=>?_]]];let k2:ay p H1 H2:=((ay.refl).upd_new W).trans (ay.of_eq e2);symm;let⟨m,g,m3,m8⟩:=Ew d6 d7;erw[#[l,_,_,_,Z,Z,aF.of (by rw[e2 l$ B1.ne W];exact jc),g,a _ _ ?_]];clear a;left;erw[ah λF1 a=>#[_,Z,_,Z,_,Z,p,m,Z,B2,LN,LN,λd3 H3 d0 d4 B3 e3=>#[_,_,Z,Z,p,1+d3,12,Z,B3,LN,LN,LO,LO,λr ds xs H4 G C hl ns D b f0 B4 k4=>a _ _ ?_]]];clear a;left;let ln:=C.len;let K4:ay p H H4:=(k1.trans k2).trans ((ay.of_eq e3).trans k4);erw[ah λF1 a=>#[_,Z,_,Z,_,Z,r,_,Z,.inr$ aB.of G,p,_,Z,B4,LN,LN,λd5 H5 d8 d' B5 e5=>?_]];let c5:ay p H4 H5:=ay.of_eq e5;let o:=c5.tm B4;symm;let⟨d,g,hd,bs,e,hp,_⟩:=CF (C.mono o) d8 d';erw[#[r,_,_,_,Z,Z,aB.of$ o _ _ G,g,d.p,_,Z,aB.of hp,Z,_,_,Z,_,_,Z,_,_,Z,Z,a _ _ ?_]];clear a;left;symm;let⟨pv,X,h4⟩:=b.v d hd;let z:=o _ _ X;erw[#[_,Z,_,Z,_,Z,d.pa,Z,#[_,aB.of z],?_]];erw[zP (K:=K) (xs:=pv.map ti) (by rw[Mv];omega) (λi L J=>(∃I:List Int,L=I.map tT/\I.length=i/\∀j∈I,0<=j/\j < 1000000000000000000)/\ar J p/\ay p H5 J) #[#[[],Z,Z,(λ_ h=>nomatch h)],B5,ay.refl] (λi L J k=>?_) (λi x L J hx k=>?_) (λL J k l W=>?_)]
 .exact#[aB.of$ k.2.2.tm B5 _ _ z,let #[I,e,l,_]:=k.1;by rw[e,Mv,l];exact Mx _]
 .exact#[_,Z,p,Z,k.2.1,λe H7 e0 e1 B7 e7=>#[let #[I,h1,l,h2]:=k.1;#[I++[e],by rw[h1,M0];rfl,by rw[Mz,l];rfl,qW h2 #[e0,e1]],B7,k.2.2.trans$ ay.of_eq e7]]
 .erw[#[l,_,Z,.inl #[aF.of jc,λl2 n0=>#[eJ,λt U=>?_]]]];let s7:af J (upd (upd (upd J l$ .lst L) l2$ .tup L) t$ .tup [.ref r,.str d.f,.ref l2]):=((je W).trans$ je n0).trans (je U);let T:=o.trans ((k.2.2.tm B5).trans$ af.tm s7);symm;let⟨I,hz,Y,h3⟩:=k.1;right;rw[Mv]at Y;exact q t r _ _ ds xs _ jc (T _ _ G) (C.mono T) LN LN ns D (b.mono T) #[d,pv,l2,I,hd,Z,T _ _ X,Z,by rw[<- hz];exact am jc U,Y,LN,h3] f0 (k.2.1.same s7) (K4.trans$ c5.trans$ k.2.2.trans$ ay.of_same s7)
abbrev lU:da:=top 2
abbrev ma:da:=top 3
abbrev aE:=List (bG×V)
def dE(x:Int):Prop:=0<=x/\x < 1000000000000000000
def GT(k:aE):Prop:=∀p∈k,∃i,p.2= .int i/\dE i
def GT.nil:GT []:=λ_ h=>absurd h MO
def GT.put(h:GT a)(k:bG)(H:dE i):GT (aD a k$ .int i):=by
 intro p hp;unfold aD at hp;split at hp
 .let⟨q,b,rfl⟩:=bS.mp hp;by_cases e:q.1=k
  .rw[MQ e];exact#[i,Z,H]
  .rw[MS e];exact h q b
 .rcases γ.mp hp with hp |hp
  .exact h p hp
  .rw[ρ.mp hp];exact#[i,Z,H]
def GT.val(h:GT a)(e:cg a k=δ v):∃i,v= .int i/\dE i:=by unfold cg at e;let⟨p,H,rfl⟩:=em.mp e;exact h p$ SK H
def look(a:aE)(k:bG)(z:Int):Int:=match cg a k with
 |some (.int i)=>i
 |_=>z
def qX(h:GT a)(k:bG)(z:Int):(cg a k).getD (.int z)= .int (look a k z):=by
 unfold look;cases e:cg a k with
 |none=>rfl
 |some v=>let⟨i,rfl,_⟩:=h.val e;rfl
def p8(h:GT a)(e:cg a k=δ v)(z:Int):v= .int (look a k z):=by unfold look;let⟨i,rfl,_⟩:=h.val e;rw[e]
def pZ(e:cg a k=ζ)(z:Int):look a k z=z:=by unfold look;rw[e]
def JD(h:GT a)(H:dE z):dE (look a k z):=by
 unfold look;cases e:cg a k with
 |none=>exact H
 |some v=>let⟨i,rfl,b⟩:=h.val e;exact b
def Ja:dE 0:=#[LO,LO]
def jn(i:Nat)(x y:Int):Int:=match i with
 |0=>(x+y) % 1000000000000000000
 |1=>(x - y) % 1000000000000000000
 |2=>x*y % 1000000000000000000
 |3=>if y=0 then 0 else x / y
 |4=>if x < y then 1 else 0
 |_=>if x=y then 1 else 0
def Tm.ev(k:aE):Tm->Int
 | .num n=>n
 | .var x=>look k (.inr x) 0
 | .op i a b=>jn i (a.ev k) (b.ev k)
def FN(H:dE x)(c:dE y):dE (jn i x y):=by
 let a:(1000000000000000000:Int)≠0:=by decide
 let b:(0:Int) < 1000000000000000000:=by decide
 match i with
 |0 |1 |2=>exact#[NB _ a,Nl _ b]
 |3=>
  show dE (if y=0 then 0 else x / y);by_cases h:y=0
  .rw[MQ h];exact#[LO,LO]
  .rw[MS h];let e:=c.1;let d:0 < y:=by omega
   erw[#[UH H.1 LN,Int.lt_of_le_of_lt ?_ H.2]];exact Int.ediv_le_self _ H.1
 |4=>show dE (if x < y then 1 else 0);split<;>exact#[LO,LO]
 |n+5=>show dE (if x=y then 1 else 0);split<;>exact#[LO,LO]
theorem z9(g:GT k):∀{t:Tm},t.Good y->dE (t.ev k)
 | .num _,h=>h
 | .var x,_=>JD g Ja
 | .op _ _ _,h=>FN (z9 g h.2.1) (z9 g h.2.2)
inductive iX(b:List V)(H:Hp)(Q:VK)(a:XK):Prop
 |mk(i:Nat)(x y:Int)(_:b=[.str (IK i),.int x,.int y])(_:i < 6)(_:dE x)(_:dE y)(_:Q (.int (jn i x y)) H)
def Lc(K:Ω)(H:Hp)(T:Tm)(a:ε):Prop:=aR H T a∨(T= .num 0/\aB K H a [.str "num",.int 0])
inductive cR(K:Ω)(n:Nat)(e:List V)(H:Hp)(Q:VK)(b:XK):Prop
 |mk(a d:ε)(T:Tm)(f:List π)(c:aE)(_:e=[.ref a,.ref d])(_:Lc K H T a)(_:T.depth < n)(_:T.Good f)(_:H d=δ (.dK c))(_:GT c)(_:Q (.int (T.ev c)) H)
def vW:ak z27z z27z (ae lU):=bQ
def rE(F:xa K "joined" lU f b)(m:mg "TOP"=δ (.int 1000000000000000000 t)):⇑1 f b z27z iX:=by
 erw[F.ok vW (λe A o s H d Q E r h=>?_)]
 let⟨i,x,y,rfl,u,g,j,q⟩:=h;erw[#[_,(jd (jx (jZ$ pv 0) (jg$ jm$ jw zk (jw jS (pv 1)$ pv 2)$ kG (v:=.int 1000000000000000000) Z m #[_,Z]) jo)$ jd (jx (jZ$ pv 0) (jg$ jm$ jw zk (jw kQ (pv 1)$ pv 2)$ kG (v:=.int 1000000000000000000) Z m #[_,Z]) jo)$ jd (jx (jZ$ pv 0) (jg$ jm$ jw zk (jw zH (pv 1)$ pv 2)$ kG (v:=.int 1000000000000000000) Z m #[_,Z]) jo)$ jd (jx (jZ$ pv 0) (jg$ jm$ zT (zo$ pv 2) jf$ jw JI (pv 1)$ pv 2) jo)$ jd (jx (jZ$ pv 0) (jg$ jm$ zT (jB Kz (pv 1) (pv 2)$ ax _) jf jf) jo)$ jg$ jm$ zT (jB zJ (pv 1) (pv 2)$ ax _) jf jf),?_]];let⟨k,l⟩:=g;let⟨n,p⟩:=j;rcases(by omega:i=0∨i=1∨i=2∨i=3∨i=4∨i=5) with rfl |rfl |rfl |rfl |rfl |rfl
 .erw[#[_,Z,Z,_,Z,bJ LL ?_]];exact#[_,Z,_,Z,_,_,Z,Z,_,_,Z,Z,(by show(0:Int) < 1000000000000000000;decide),q]
 .erw[#[_,Z,Z,_,Z,aI LL ?_]];erw[#[_,Z,Z,_,Z,bJ LL ?_]];exact#[_,Z,_,Z,_,_,Z,Z,_,_,Z,Z,(by show(0:Int) < 1000000000000000000;decide),q]
 .erw[#[_,Z,Z,_,Z,aI LL ?_]];erw[#[_,Z,Z,_,Z,aI LL ?_]];erw[#[_,Z,Z,_,Z,bJ LL ?_]];exact#[_,Z,_,Z,_,_,Z,Z,.inl #[LN,LN],_,_,Z,Z,(by show(0:Int) < 1000000000000000000;decide),q]
 .erw[#[_,Z,Z,_,Z,aI LL ?_]];erw[#[_,Z,Z,_,Z,aI LL ?_]];erw[#[_,Z,Z,_,Z,aI LL ?_]];erw[#[_,Z,Z,_,Z,bJ LL ?_]];let a:Q (.int (if y=0 then 0 else x / y)) H:=q;erw[#[_,Z,Z,_,Z,?_]];refine b8 (λc=>?_) (λc=>?_)
  .let C:tT y=tT 0:=Nu c;injection C with C;rw[MQ C]at a;exact a
  .let C:y≠0:=λz=>c (by rw[z];rfl);rw[MS C]at a;exact#[_,Z,_,Z,_,_,Z,Z,#[LN,LN],a]
 .erw[#[_,Z,Z,_,Z,aI LL ?_]];erw[#[_,Z,Z,_,Z,aI LL ?_]];erw[#[_,Z,Z,_,Z,aI LL ?_]];erw[#[_,Z,Z,_,Z,aI LL ?_]];erw[#[_,Z,Z,_,Z,bJ LL ?_]];let a:Q (.int (if x < y then 1 else 0)) H:=q;erw[#[_,Z,_,Z,_,_,Z,Z,_,Z,?_]];refine b8 (λc=>?_) (λc=>?_)
  .rw[MQ$ Nu c]at a;exact a
  .rw[MS$ Rm$ kc.mpr c]at a;exact a
 .erw[#[_,Z,Z,_,Z,aI LL ?_]];erw[#[_,Z,Z,_,Z,aI LL ?_]];erw[#[_,Z,Z,_,Z,aI LL ?_]];erw[#[_,Z,Z,_,Z,aI LL ?_]];erw[#[_,Z,Z,_,Z,aI LL ?_]];let a:Q (.int (if x=y then 1 else 0)) H:=q;erw[#[_,Z,_,Z,Z,_,Z,?_]];refine b8 (λc=>?_) (λc=>?_)
  .let C:tT x=tT y:=Nu c;injection C with C;rw[MQ C]at a;exact a
  .let C:x≠y:=λz=>c (by rw[z];exact Ng Z);rw[MS C]at a;exact a
def AA:ak z8z z8z (ae ma):=bQ
def uV(F:xa K "worth" ma f p)(C:‹n+1› f p z8z (cR K n) "worth")(v:‹1› R B z27z iX "joined"):⇑(n+2) f p z8z (cR K$ n+1):=by
 erw[F.ok AA (λD A o s H V Q E j h=>?_)]
 let⟨a,d,T,y,c,rfl,t,I,g,l,G,q⟩:=h;erw[#[_,(jd (jx (jZ$ jy$ pv 0) (jg$ jm$ jy$ pv 0) jo)$ jd (jx (jZ$ jy$ pv 0) (jg$ jm$ @qR _ _ _ _ _ _ _ _ _ (jR j) (pv 1) (jy$ pv 0) jf #[LK,LK,LK,LK]) jo)$ jg$ jm$ v.e j.m$ ja (jy$ pv 0)$ ja (C.e j$ ja (jy$ pv 0)$ ja (pv 1) jb)$ ja (C.e j$ ja (jy$ pv 0)$ ja (pv 1) jb) jb),?_]];cases T with
 |num m=>
  let b:aB K H a [.str "num",.int m]:=t.elim (λh=>aB.of h) λz=>by cases z.1;exact z.2
  erw[#[_,Z,a,_,_,_,Z,Z,b,Z,Z,_,Z,bJ LL ?_]];exact#[_,Z,a,_,_,_,Z,Z,b,Z,q]
 |var x=>
  let b:H a=δ (.tup [.str "var",.str x]):=t.resolve_right λz=>by cases z.1
  erw[(jq b Z #[Z,_,Z,aI LL ?_])];erw[(jq b Z #[Z,_,Z,bJ LL ?_])];erw[#[_,Z,d,Z,.inl #[c,.inl l],jq b Z #[_,a7.k (k:=Sum.inr x) l,?_]]];rw[qX G];exact q
 |op i r u=>
  let⟨J,L,b,M,N⟩:=t.resolve_right λz=>by cases z.1
  let O:max r.depth u.depth+1 < n+1:=I;erw[(jq b Z #[Z,_,Z,aI LL ?_])];erw[(jq b Z #[Z,_,Z,aI LL ?_])];erw[(jq b Z ?_)];erw[(jq b Z #[_,Z,J,d,r,y,c,Z,.inl M,LN,g.2.1,l,G,?_])];erw[(jq b Z #[_,Z,L,d,u,y,c,Z,.inl N,LN,g.2.2,l,G,?_])];exact#[i,_,_,Z,g.1,z9 G g.2.1,z9 G g.2.2,q]
def uF:⇑1 f e z8z (cR K 0):=by
 let n:∀v H Q E,¬cR K 0 v H Q E:=λv H Q E h=>by let⟨a,d,T,y,k,_,_,c,_⟩:=h;exact absurd c$ OU _
 exact#[λv H Q E h=>absurd h (n v H Q E),λA o s H b u v Q E _ _ _ _ h=>absurd h (n v H Q E)]
theorem xh(F:xa K "worth" ma f a)(b:au K a z8z [])(m:mg "worth"=↑f)(c:‹1› e d z27z iX "joined"):
  ∀n:Nat,⇑(n+1) f a z8z (cR K n)
 |0=>uF
 |n+1=>uV F #[(xh F b m c n),b,F.kp,m] c
def TV(H:Hp)(y:List π)(t:ε)(T:Tm):Prop:=aR H T t/\dj y T
def TV.mono(k:aj H a)(h:TV H y t T):TV a y t T:=#[h.1.mono k,h.2]
inductive Gl where
 |give (t:ε) (T:Tm) |nought |go (n:Nat)
structure WD where
 sets:List (π×ε×Tm)
 goal:Gl
def Gl.gol(N:ε):Gl->HG
 | .give t _=>.give t
 | .nought=>.give N
 | .go n=>.go (n:Int)
def WD.wy(n:ε)(w:WD):Wy:=#[w.sets.map λs=>(s.1,s.2.1),w.goal.gol n]
def ER(H:Hp)(y:List π)(m:Nat):Gl->Prop
 | .give t T=>TV H y t T
 | .nought=>True
 | .go n=>n < m
structure nJ(H:Hp)(ys:List π)(m N:Nat)(w:WD):Prop where
 sets:∀s∈w.sets,TV H ys s.2.1 s.2.2
 len:w.sets.length<=N
 goal:ER H ys m w.goal
def nR(H:Hp)(y:List π)(n:ε)(m N:Nat)(w:Wy):Prop:=∃d:WD,d.wy n=w/\nJ H y m N d
def Lm(F:gi)(H:Hp)(y:List π):Dd->Prop
 | .st p=>∃(l:Lf) (v:List V),H p=δ (.tup v)/\xu H l v/\l.Ok y/\l.isCut=ν/\l.Cs F
 | .ask t=>∃T,TV H y t T
def Dd.ways:Dd->Nat
 | .st _=>1
 | .ask _=>2
structure xH(F:gi)(H:Hp)(ys:List π)(nA:ε)(m N:Nat)(c:Ct):Prop where
 mem:∀x,c.M x->x∈ys
 deed:Lm F H ys c.d
 ways:∀w∈c.ws,nR H ys nA m N w
 len:c.ws.length=c.d.ways
structure xA(H:Hp)(ys:List π)(nA:ε)(m N:Nat)(pc:Pc):Prop where
 mem:∀x,pc.M x->x∈ys
 way:nR H ys nA m N pc.w
section
variable {F:gi}{H H':Hp}{ys:List π}{nA:ε}{m N N':Nat}
def ER.mono(k:aj H H')(h:ER H ys m g):ER H' ys m g:=by
 cases g with
 |give t T=>exact TV.mono k h
 |nought=>trivial
 |go n=>exact h
def nJ.mono(k:aj H H'){w:WD}(h:nJ H ys m N w):nJ H' ys m N w:=#[λs a=>(h.sets s a).mono k,h.len,h.goal.mono k]
def nR.up(a:N<=N'){w:Wy}(h:nR H ys nA m N w):nR H ys nA m N' w:=let #[d,e,v]:=h;#[d,e,v.sets,MT v.len a,v.goal]
def xH.up(a:N<=N')(h:xH F H ys nA m N c):xH F H ys nA m N' c:=#[h.mem,h.deed,λw b=>(h.ways w b).up a,h.len]
def xA.up(a:N<=N')(h:xA H ys nA m N p):xA H ys nA m N' p:=#[h.mem,h.way.up a]
def YJ{n:Nat}(a:k=(n:Int))(b:n < m):nR H ys nA m N #[[],.go k]:=#[#[[],.go n],by rw[a];rfl,(λ_ h=>absurd h MO),MH _,b]
theorem KF:∀(b:Bd) {X:List V} {g:Pc} {fs:List Ct} {N:Nat},de H b X->b.Ok ys->b.Cs F->xA H ys nA m N g->(∀c∈fs,xH F H ys nA m N c)->fs.length+b.cuts<=m->
  xA H ys nA m (N+b.size) (pB (m:Int) b g fs).1/\∀c∈(pB (m:Int) b g fs).2,xH F H ys nA m (N+b.size) c
 | .nil,_,_,_,_,_,_,_,o,y,_=>#[o,y]
 | .lf p l r,X,g,fs,N,C,i,k,o,y,D=>by
  let⟨vs,zs,_,h1,I,h3⟩:=C;let E:fs.length+(l.cut+r.cuts)<=m:=D;let⟨R,A⟩:=KF r h3 i.2 k.2 o y LN;let hl:=kl (m:Int) r g fs;let S:N+r.size<=N+(r.size+1):=by omega
  let j:=Lf.use_in i.1 R.mem;let J:l.isCut=ν->l.cut=1->xA H ys nA m (N+(r.size+1)) #[l.use (pB (m:Int) r g fs).1.M,#[[],.go ((m:Int) - ((pB (m:Int) r g fs).2.length:Int) - 1)]]/\∀c∈(pB (m:Int) r g fs).2++[#[l.use (pB (m:Int) r g fs).1.M,.st p,[(pB (m:Int) r g fs).1.w]]],xH F H ys nA m (N+(r.size+1)) c:=λG h0=>
   #[#[j,YJ (n:=m - (fs.length+r.cuts) - 1) (by rw[hl];omega) LN],λc L=>by
    rcases γ.mp L with z |z
    .exact(A c z).up S
    .rw[ρ.mp z];exact#[j,#[l,vs,h1,I,i.1,G,k.1],λw hw=>by rw[ρ.mp hw];exact R.way.up S,Z]]
  show xA H ys nA m (N+(r.size+1)) (pL (m:Int) p l$ pB (m:Int) r g fs).1/\∀c∈(pL (m:Int) p l$ pB (m:Int) r g fs).2,xH F H ys nA m (N+(r.size+1)) c;cases l with
  |gv t T=>exact#[#[j,#[#[[],.give t T],Z,(λ_ h=>absurd h MO),MH _,I.2,i.1]],λc G=>(A c G).up S]
  |st x t T=>
   erw[#[#[j,?_],λc G=>(A c G).up S]];show nR H ys nA m _ (gX x t (pB (m:Int) r g fs).1);unfold gX;split
   .let⟨d,e,v⟩:=R.way;erw[#[#[(x,t,T)::d.sets,d.goal],by rw[<- e];rfl,λs hs=>?_,NF v.len,v.goal]];rcases Ψ.mp hs with rfl |hs
    .exact#[I.2,i.1.2]
    .exact v.sets s hs
   .exact R.way.up S
  |rd x t T |wr t u T U |cl x f q ts=>exact J Z Z
 | .ite p t T a c r,X,g,fs,N,C,i,k,o,y,D=>by
  let⟨qa,qb,as,bs,zs,_,g1,O,g2,g3,Q,g5,W⟩:=C;let E:fs.length+(1+a.cuts+c.cuts+r.cuts)<=m:=D;let⟨R,A⟩:=KF r W i.2.2.2 k.2.2 o y LN;let B:=kl (m:Int) r g fs;let⟨c1,c2⟩:=KF c g5 i.2.2.1 k.2.1 R A LN;let h4:=kl (m:Int) c (pB (m:Int) r g fs).1 (pB (m:Int) r g fs).2;let⟨Y,a2⟩:=KF a Q i.2.1 k.1 (R.up$ Oh _ _) c2 LN;let S:N+r.size+c.size+a.size<=N+(a.size+c.size+r.size+1):=by omega
  let j:∀x,(Bd.ite p t T a c .nil).use (pB (m:Int) r g fs).1.M x->x∈ys:=Bd.use_in #[i.1,i.2.1,i.2.2.1,trivial] R.mem;let hk:(m:Int) - ((pB (m:Int) r g fs).2.length:Int) - ((Bd.ite p t T a c .nil).cuts:Int)=((m - (fs.length+r.cuts) - (1+a.cuts+c.cuts):Nat):Int):=by show(m:Int) - _ - ((1+a.cuts+c.cuts+0:Nat):Int)=_;rw[B];omega
  unfold pB;dsimp only;erw[#[#[j,YJ hk LN],λe he=>?_]];rcases γ.mp he with z |z
  .exact(a2 e z).up S
  .rw[ρ.mp z];erw[#[j,#[T,O,i.1],λw hw=>?_,Z]];rcases Ψ.mp hw with rfl |hw
   .exact Y.way.up S
   .rw[ρ.mp hw];exact c1.way.up (by show _<=N+(a.size+c.size+r.size+1);omega)
 | .loop p t T a r,X,g,fs,N,C,i,k,o,y,D=>by
  let⟨qa,as,zs,_,g1,O,g2,Q,W⟩:=C;let E:fs.length+(1+a.cuts+r.cuts)<=m:=D;let⟨R,A⟩:=KF r W i.2.2 k.2 o y LN;let B:=kl (m:Int) r g fs;let j:∀x,(Bd.loop p t T a .nil).use (pB (m:Int) r g fs).1.M x->x∈ys:=Bd.use_in #[i.1,i.2.1,trivial] R.mem;let hk:(m:Int) - ((pB (m:Int) r g fs).2.length:Int) - ((Bd.loop p t T a .nil).cuts:Int)=((m - (fs.length+r.cuts) - (1+a.cuts):Nat):Int):=by show(m:Int) - _ - ((1+a.cuts+0:Nat):Int)=_;rw[B];omega
  let pl:xA H ys nA m (N+r.size) #[(Bd.loop p t T a .nil).use (pB (m:Int) r g fs).1.M,#[[],.go ((m:Int) - ((pB (m:Int) r g fs).2.length:Int) - ((Bd.loop p t T a .nil).cuts:Int))]]:=#[j,YJ hk LN];let⟨Y,a2⟩:=KF a Q i.2.1 k.1 pl A LN;let S:N+r.size+a.size<=N+(a.size+r.size+1):=by omega
  unfold pB;dsimp only;erw[#[pl.up (by show _<=N+(a.size+r.size+1);omega),λe he=>?_]];rcases γ.mp he with z |z
  .exact(a2 e z).up S
  .rw[ρ.mp z];erw[#[j,#[T,O,i.1],λw hw=>?_,Z]];rcases Ψ.mp hw with rfl |hw
   .exact Y.way.up S
   .rw[ρ.mp hw];exact R.way.up (by show _<=N+(a.size+r.size+1);omega)
end
def bH(n:ε)(d:Df):List Ct:=(gJ n d).2.reverse
def ZR(n:ε)(d:Df):(bH n d).length=d.b.cuts:=by unfold bH;rw[Pf];exact(kl _ _ _ _).trans (Pm _)
def GJ{nA:ε}{d:Df}(f:de H d.b B)(g:d.b.Ok y):xA H y nA d.b.cuts d.b.size (gJ nA d).1/\∀c∈bH nA d,xH d.b.calls H y nA d.b.cuts d.b.size c:=by let p:xA H y nA d.b.cuts 0 (IE nA):=#[λx i=>absurd i MO,#[[],.nought],Z,(λ_ h=>absurd h MO),Mx _,trivial];let⟨a,e⟩:=KF (m:=d.b.cuts) d.b f g (zE d.b) p (fs:=[]) (λ_ h=>absurd h MO) (by show 0+_<=_;omega);rw[Pm]at a e;exact#[a,λc j=>e c (List.mem_reverse.mp j)]
def Xm{M:π->Prop}{y:List π}(h:∀x,M x->x∈y):(canon M).length<=y.length:=by
 by_cases e:∃s,Nm s M
 .let⟨s,H⟩:=e;rw[<- H.canon];exact H.len h
 .unfold canon;rw[dif_neg e];exact MH _
def bo:List (π×ε×Tm)->aE->aE
 | [],k=>k
 |s::r,k=>bo r (aD k (.inr s.1) (.int (s.2.2.ev k)))
def d9(N:ε)(d:Df)(n:Nat):List π:=match (bH N d)[n]? with
 |some c=>canon c.M
 |none=>[]
def uk(N:Nat->List π)(k:aE):Gl->Tr
 | .give _ T=>cp [dt "give",dH (T.ev k)]
 | .nought=>cp [dt "give",dH 0]
 | .go n=>cp [dt "go",dH (n:Int),cp ((N n).map λx=>dH (look k (.inr x) 0))]
theorem JE{H:Hp}{ys:List π}:∀{ss:List (π×ε×Tm)} {k:aE},(∀s∈ss,TV H ys s.2.1 s.2.2)->GT k->GT (bo ss k)
 | [],_,_,g=>g
 |s::r,k,h,g=>JE (H:=H) (ys:=ys) (ss:=r) (λS a=>h S (MX _ a)) (g.put _ (z9 g (h s MM).2.1))
def rV{S:List (π×ε×Tm)}:∀{i:Nat} {s:π×ε×Tm} {k:aE},S[i]?=δ s->bo (S.take$ i+1) k=aD (bo (S.take i) k) (.inr s.1) (.int$ s.2.2.ev$ bo (S.take i) k):=by
 induction S with
 |nil=>intro i s k h;simp at h
 |cons a r I=>
  intro i s k h;cases i with
  |zero=>cases h;rfl
  |succ i=>exact I (by simpa using h)
def JL{kvs:aE}{k:bG}{v:V}:(aD kvs k v).length<=kvs.length+1:=by
 unfold aD;split
 .rw[Mv];exact NM _
 .rw[Mz];exact Mx _
theorem Yh:∀{ss:List (π×ε×Tm)} {k:aE},(bo ss k).length<=k.length+ss.length
 | [],_=>Mx _
 |s::r,k=>by let h:=Yh (ss:=r) (k:=aD k (.inr s.1) (.int$ s.2.2.ev k));let H:=JL (kvs:=k) (k:=.inr s.1) (v:=.int (s.2.2.ev k));show(bo r _).length<=k.length+(r.length+1);omega
def aS(n:List π)(i:List Int):aE:=bX [] ((n.map Sum.inr).zip$ i.map tT)
theorem Yi:∀{m:aE} {k:aE},GT k->GT m->GT (bX k m)
 | [],_,g,_=>g
 |p::r,k,g,h=>by
  let⟨i,e,H⟩:=h p MM;let E:aD k p.1 p.2=aD k p.1 (.int i):=by rw[e]
  show GT (bX (aD k p.1 p.2) r);rw[E];exact Yi (g.put _ H) λq a=>h q (MX _ a)
def KY(h:∀i∈I,dE i):GT (aS n I):=by erw[Yi GT.nil λp H=>?_];let⟨i,a,e⟩:=bS.mp (Pd H).2;exact#[i,e.symm,h i a]
def ZS{ns:List π}{is:List Int}:(aS ns is).length<=ns.length:=by let h:=qj ((ns.map Sum.inr).zip$ is.map tT) [];rw[Sa,Mv]at h;show(bX [] _).length<=_;let H:(bX [] ((ns.map Sum.inr).zip$ is.map tT)).length<=0+min ns.length (is.map tT).length:=h;omega
abbrev nY:da:=top 23
abbrev lT:da:=top 24
abbrev iO:da:=top 27
abbrev lS:da:=top 28
abbrev iN:da:=top 29
abbrev lX:da:=top 30
structure oG(H:Hp)(nA:ε)(d:Df)(ys:List π)(v:V):Prop where
 tr:bh H (fX nA d) v []
 bd:∃bs,de H d.b bs
 ok:d.b.Ok ys
 y20:ys.length<=20
 sz:d.b.size<=400
structure EQ(H:Hp)(nA:ε)(d:Df)(ys:List π)(c:Ct)(ka na wa:ε)(dv:V)(wvs:List V):Prop where
 at':H ka=δ (.tup [.ref na,dv,.ref wa])
 nms:H na=δ (.tup ((canon c.M).map ti))
 deed:bh H (HQ c.d) dv []
 wat:H wa=δ (.tup wvs)
 ways:bh H (aU$ c.ws.map iz) .non wvs
 v:xH d.b.calls H ys nA d.b.cuts d.b.size c
theorem ZT:∀{S:List π} {v:List V},bh H (aU$ S.map dt) .non v->v=S.map ti
 | [],v,h=>h
 |s::S,v,h=>by obtain⟨_,_,y,Y,rfl,⟨rfl,_⟩,a⟩:=h;rw[ZT a];rfl
section
variable {H H':Hp}{nA:ε}{d:Df}{ys:List π}{v:V}
def oG.mono(k:aj H H')(h:oG H nA d ys v):oG H' nA d ys v:=#[h.tr.mono k,let #[b,a]:=h.bd;#[b,a.mono k],h.ok,h.y20,h.sz]
def oG.parts(h:oG H nA d ys v):∃(a c:ε) (W:V) (C:List V),v= .ref a/\H a=δ (.tup [.str d.f,.ref d.pa,W,.ref c])/\bh H (iz (gJ nA d).1.w) W []/\H c=δ (.tup C)/\bh H (aU ((bH nA d).map Fh)) .non C:=by obtain⟨_,a,x,rfl,i,_,_,n,Y,rfl,⟨rfl,_⟩,_,_,o,j,rfl,⟨rfl,_⟩,_,_,W,k,rfl,l,_,_,p,y,rfl,m,e⟩:=h.tr;let e:y=[]:=e;subst e;let⟨_,c,C,rfl,b,g⟩:=m;exact#[a,c,W,C,Z,i,l,b,g]
def oG.cut{C:List V}(h:oG H nA d ys v)(a:bh H (aU ((bH nA d).map Fh)) .non C){n:Nat}{c:Ct}(g:(bH nA d)[n]?=δ c):∃k N i D W,C[n]?=↑k/\EQ H nA d ys c k N i D W:=by
 let L:=zM a;rw[Mv]at L;let u:n < C.length:=by rw[L];exact(χ.mp g).1
 let j:C[n]?=δ C[n]:=Mw u;let⟨T,b,t⟩:=JW a n _ j;rw[MK,g]at b;cases b;let⟨B,y⟩:=h.bd;let z:=(GJ (nA:=nA) y h.ok).2 c (ML g);generalize C[n]=x at j t;let⟨_,k,E,rfl,l,_,_,F,G,rfl,m,_,_,D,I,rfl,o,_,_,J,A,rfl,p,e⟩:=t;let e:A=[]:=e;subst e;let⟨_,N,M,rfl,f,q⟩:=m;let⟨_,i,W,rfl,r,s⟩:=p;rw[ZT q]at f;exact#[k,N,i,D,W,j,l,f,o,r,s,z]
def uD(h:(bH nA d)[n]?=δ c):d9 nA d n=canon c.M:=by unfold d9;rw[h]
end
structure Im(H:Hp)(nA:ε)(w:WD)(wa sa ga:ε)(ss:List V)(wd:π)(u:V):Prop where
 at':H wa=δ (.tup [.ref sa,.ref ga])
 sat:H sa=δ (.tup ss)
 sets:∀(i:Nat) (x:V),ss[i]?=δ x->∃(s:π×ε×Tm) (p:ε),w.sets[i]?=δ s/\x= .ref p/\H p=δ (.tup [.str s.1,.ref s.2.1])
 len:ss.length=w.sets.length
 gat:H ga=δ (.tup [.str wd,u])
 goal:match w.goal with
  | .give t _=>wd="give"/\u= .ref t
  | .nought=>wd="give"/\u= .ref nA
  | .go n=>wd="go"/\u= .int (n:Int)
def A0{w:WD}(h:bh H (iz$ w.wy N) v []):∃(l S G:ε) (A:List V) (W:π) (u:V),v= .ref l/\Im H N w l S G A W u:=by
 obtain⟨_,r,X,rfl,C,_,_,y0,D,rfl,⟨_,s,c,rfl,E,m⟩,_,_,Y,y,rfl,b,e⟩:=h;let e:y=[]:=e;subst e;let L:=zM m;let st:∀(i:Nat) (x:V),c[i]?=δ x->∃(s:π×ε×Tm) (p:ε),w.sets[i]?=δ s/\x= .ref p/\H p=δ (.tup [.str s.1,.ref s.2.1]):=λi x F=>by let⟨tr,o,I⟩:=JW m i x F;rw[MK]at o;let⟨q,J,rfl⟩:=em.mp o;let a:(w.sets.map λs=>(s.1,s.2.1))[i]?=δ q:=J;rw[MK]at a;let⟨z,M,rfl⟩:=em.mp a;obtain⟨_,p,X,rfl,O,_,_,Q,R,rfl,⟨rfl,_⟩,_,_,U,B,rfl,⟨rfl,_⟩,e⟩:=I;let e:B=[]:=e;subst e;exact#[z,p,M,Z,O]
 let ln:c.length=w.sets.length:=by rw[L,Mv];exact Mv ..
 let f:∀g:Gl,w.goal=g->bh H (yi$ g.gol N) Y []->∃(G:ε) (W:π) (u:V),Y= .ref G/\H G=δ (.tup [.str W,u])/\match g with
  | .give t _=>W="give"/\u= .ref t
  | .nought=>W="give"/\u= .ref N
  | .go n=>W="go"/\u= .int (n:Int):=λg _ b=>by
  cases g with
  |give t T |nought |go n=>obtain⟨_,gl,X,rfl,d,_,_,Q,R,rfl,⟨rfl,_⟩,_,_,U,B,rfl,⟨rfl,_⟩,e⟩:=b;let e:B=[]:=e;subst e;exact#[gl,_,_,Z,d,Z,Z]
 let⟨G,W,u,rfl,j,k⟩:=f w.goal Z b;exact#[r,s,G,c,W,u,Z,C,E,st,ln,j,k]
inductive iU(b:ε)(e:List V)(H:Hp)(Q:VK)(a:XK):Prop
 |mk(v:V)(n:Nat)(d:Df)(f:List π)(c:Ct)(_:e=[v,.int (n:Int)])(_:oG H b d f v)(_:(bH b d)[n]?=δ c)(_:∀(ka na wa:ε) (dv:V) (wvs:List V),EQ H b d f c ka na wa dv wvs->Q (.ref ka) H)
inductive iW(f:ε)(g:List V)(H:Hp)(Q:VK)(a:XK):Prop
 |mk(v:V)(n:Nat)(b:ε)(d:Df)(h:List π)(c:Ct)(e:List Int)(_:g=[v,.int (n:Int),.ref b])(_:oG H f d h v)(_:(bH f d)[n]?=δ c)(_:H b=δ (.tup (e.map tT)))(_:e.length=(canon c.M).length)(_:∀dd:ε,H dd=ζ->Q (.ref dd) (upd H dd (.dK (aS (canon c.M) e))))
def ZU:∀(s:List π),(s.map (Sum.inr:π->bG)).map kV=s.map ti:=λs=>by rw[NJ];rfl
def Au:ak ["part","n"] ["part","n"] (ae nY):=bQ
def uI{f:ε}{g:Φ}{N:ε}(F:xa K "cut_at" nY f g):⇑1 f g ["part","n"] (iU N):=by
 erw[F.ok Au λl A o s H V Q E B h=>?_]
 let⟨v,n,d,y,c,rfl,i,m,q⟩:=h;erw[#[_,(jg$ jm$ jr j6 (jy$ pv 0) (pv 1) (λ_ _=>Z)),?_]];let⟨a,p,I,J,rfl,r,L,b,e⟩:=i.parts;let⟨t,u,x,D,W,z,C⟩:=i.cut e m;exact#[_,Z,a,_,_,_,Z,Z,aB.of r,jP (j:=3) Z,_,Z,p,_,_,_,Z,Z,aB.of b,jP z,q t u x D W C]
def vV:ak z12z z12z (ae lT):=bQ
def rC(F:xa K "held_at" lT f g)(i:‹1› J j ["part","n"] (iU N) "cut_at")(m:mg "dict"=ζ)(a:mg "zip"=ζ):⇑2 f g z12z (iW N):=by
 erw[F.ok vV λp A o s H V Q E r h=>?_]
 let⟨v,n,b,d,y,c,I,rfl,t,u,x,z,q⟩:=h;erw[#[_,(jg$ jm$ @XD _ _ _ _ _ _ _ _ Z m Z a Z (ja (jr j6 (i.e r$ ja (pv 0)$ ja (pv 1) jb) jf (λ_ _=>Z))$ ja (pv 2) jb) LK LK LK LK),?_]];erw[#[_,Z,_,Z,v,n,d,y,c,Z,t,u,λB D O R W C=>#[B,_,_,_,Z,Z,aB.of C.at',io,_,Z,D,b,(canon c.M).map Sum.inr,_,Z,by rw[ZU];exact aB.of C.nms,aB.of x,by rw[Mv,Mv,z],λl G=>q l G]]]
inductive Wh where
 |rd (a i:Int) |wr (a b:Int) |ask (b:Int) |cl (f:π) (is:List Int) (i:Int)
def Co(H:Hp)(u:V):Wh->Prop
 | .rd a i=>∃p,u= .ref p/\H p=δ (.tup [.str "read",.int a,.int i])
 | .wr a b=>∃p,u= .ref p/\H p=δ (.tup [.str "write",.int a,.int b])
 | .ask b=>∃p,u= .ref p/\H p=δ (.tup [.str "ask",.int b])
 | .cl f I i=>∃p c g e,u= .ref p/\H p=δ (.tup [.str "call",.ref c])/\H c=δ (.tup [.str f,.ref g,e,.int i])/\H g=δ (.tup (I.map tT))
def Co.mono{H d:Hp}(k:aj H d){u:V}{w:Wh}(h:Co H u w):Co d u w:=by
 cases w with
 |rd a i |wr a b |ask b=>let⟨p,e,h⟩:=h;exact#[p,e,k _ _ h]
 |cl f I i=>let⟨p,c,g,e,E,j,l,m⟩:=h;exact#[p,c,g,e,E,k _ _ j,k _ _ l,k _ _ m]
inductive DD where
 |st (p:ε) (l:Lf) |ask (t:ε) (T:Tm)
def DD.dd:DD->Dd
 | .st p _=>.st p
 | .ask t _=>.ask t
def A6(H:Hp)(y:List π):DD->Prop
 | .st p l=>∃v,H p=δ (.tup v)/\xu H l v/\l.Ok y/\l.isCut=ν
 | .ask t T=>TV H y t T
def A6.mono(k:aj H a)(h:A6 H y d):A6 a y d:=by
 cases d with
 |st p l=>let⟨v,b,c,e⟩:=h;exact#[v,k _ _ b,c.mono k,e]
 |ask t T=>exact TV.mono k h
def DD.Cs(F:gi):DD->Prop
 | .st _ l=>l.Cs F
 | .ask _ _=>True
def Hy:DD->Wh->Prop
 | .st _ (.rd _ _ _),.rd _ i=>dE i
 | .st _ (.wr _ _ _ _),.wr _ _=>True
 | .st _ (.cl _ _ _ _),.cl _ _ i=>dE i
 | .ask _ _,.ask b=>b=0∨b=1
 |_,_=>False
def pJ(d:DD)(w:Wh)(k:aE):aE:=match d,w with
 | .st _ (.rd x _ _),.rd _ i | .st _ (.cl x _ _ _),.cl _ _ i=>aD k (.inr x) (.int i)
 |_,_=>k
def Wh.side:Wh->Nat
 | .ask b=>if b=0 then 1 else 0
 |_=>0
def tQ(Q:VK)(H:Hp):Wh->Prop
 | .rd _ i | .cl _ _ i=>Q (.int i) H
 |_=>False
inductive fe(b:List V)(H:Hp)(Q:VK)(a:XK):Prop
 |mk(u:V)(w:Wh)(_:b=[u])(_:Co H u w)(_:tQ Q H w)
inductive mY(c:ε)(e:List V)(H:Hp)(Q:VK)(a:XK):Prop
 |mk(v f:V)(b:ε)(d:Df)(g:List π)(w:WD)(k:aE)(_:e=[v,f,.ref b])(_:oG H c d g v)(_:bh H (iz (w.wy c)) f [])(_:nJ H g d.b.cuts d.b.size w)(_:H b=δ (.dK k))(_:GT k)(_:k.length<=200)(_:∀(u:V) (H':Hp),bh H' (uk (d9 c d) (bo w.sets k) w.goal) u []->ay b H H'->Q u H')
inductive EI(c:ε)(a:_L.St)(j:List (π×ε×Tm))(k:aE)(H:Hp)(i:Nat)(l:_L.St)(b:Hp):Prop
 |mk(g h:Option V)(d:l=a++[g,h,ζ,ζ])(e:b c=δ (.dK (bo (j.take i) k)))(f:ay c H b)
theorem XF{H:Hp}:∀{is:List Int},bh H (aU$ is.map dH) .non (is.map tT)
 | []=>rfl
 |i::is=>jv Z Jo (XF (is:=is))
def rZ:ak ["what"] ["what"] (ae iO):=bQ
def uK(F:xa K "found_in" iO f n):⇑1 f n ["what"] fe:=by
 erw[F.ok rZ λC A o s H v Q E t h=>?_]
 let⟨u,W,rfl,d,q⟩:=h;erw[#[_,(jg$ jm$ zT (jZ$ jy$ pv 0) (jy$ jr j6 (pv 0) jf (λ_ _=>Z))$ jr j6 (pv 0) (X0 KM jf) (λ_ _=>Z)),?_]];cases W with
 |rd a i=>let⟨p,rfl,l⟩:=d;exact(jq l io #[Z,_,Z,aI LL #[_,Z,_,Z,p,_,_,_,Z,Z,aB.of l,Z,q]])
 |cl f I i=>let⟨p,c,g,e,rfl,m,r,_⟩:=d;exact(jq m io #[Z,_,Z,bJ LL$ jq m oH #[c,_,_,_,Z,Z,aB.of r,jP (j:=3) Z,q]])
 |wr a b |ask b=>exact q.elim
def gQ:ak ["part","way","numbers","name","term","goal","held"] ["part","way","numbers"] (ae lS):=bQ
def Zl:hJ:=#[.function,[(".0",.local),("name",.local),("numbers",.free)],μ,μ,[]]
def yv:(["name","numbers"]:List π).Nodup:=by decide+kernel
def xP:aV ["part","way","numbers","name","term","goal","held"] (ae lS) Zl ["name","numbers"] 1 [2]:=nS
def uJ(F:xa K "end_of" lS f fd)(cC:‹1› fC f2 ["part","n"] (iU U) "cut_at")(cW:‹7› fW f3 z8z (cR K 6) "worth")(m0:mg "tuple"=ζ)(no:nO K U):⇑8 f fd ["part","way","numbers"] (mY U):=by
 erw[F.ok gQ λc0 A o1 s H vs Q E Y h=>?_]
 symm;let⟨v,w1,D,d,ys,O,k,rfl,hp,hw,wv,hd,gk,hk,q⟩:=h;erw[#[_,(jd (kP Ni Z (zp$ jy$ pv 1) (qg (n:=2) Z$ jA (ju (i:=3) gQ.nd Z$ Δ Z)$ jA (ju (i:=4) gQ.nd Z$ Δ Z) kH)$ jg$ za (jR Y) (pv 2) (pv 3) (cW.e Y.m$ ja (pv 4)$ ja (pv 2) jb) Z)$ jd (jz 5 gQ.nd$ jy$ pv 1)$ jd (jx (jZ$ jy$ pv 5) (jg$ jm$ jh$ ja jj$ ja (cW.e Y.m$ ja (jy$ pv 5)$ ja (pv 2) jb) jb) jo)$ jd (@ZC _ _ _ _ _ _ _ _ _ _ (6) (["name","numbers"]) (1) ([2]) _ _ _ _ gQ.nd Z (Δ Z) Z (zp$ jr j6 (cC.e Y.m$ ja (pv 0)$ ja (jy$ pv 5) jb) jf (λ_ _=>Z)) xP (λ_ _ _ _ _=>(ju (i:=0) yv Z$ Δ Z)) (λ_ _ _ _ _=>(@zR _)) (λ_ _ _ _ _=>(@qR _ _ _ _ _ _ _ _ _ (jR Y) (pv 1) (pv 0) jf #[LK,LK,LK,LK])) LK (by first |exact .inl Z |exact .inr Z) (by intro _;rfl))$ jg$ jm$ jh$ ja jj$ ja (jy$ pv 5)$ ja (jC jG Z m0 Of$ ja (pv 6) jb) jb),?_]];let b0:=aJ;symm;let⟨wa,sa,ga,ss,wd,u,rfl,W⟩:=A0 hw;let R:∀g,ay D H g->aj H g:=λg k b xs e=>k b _ (jE e hd (by intro z;cases z)) e;let h2:=hp.sz;let h3:=wv.len;sleep 4;erw[ah λF1 C=>gn λJ j=>(jq W.at' io #[sa,Z,#[_,aB.of W.sat],j _ _ ?_])];clear j;erw[qU (K:=K) (xs:=ss) (EI D [δ v,↑wa,↑D] O.sets k H) #[_,_,Z,hd,ay.refl] (λi σ g _ h=>?_) ?_ (λσ g h=>C _ _ ?_)]
 .symm;let⟨_,_,_,_,I⟩:=h;exact aB.of$ R _ I _ _ W.sat
 .intro E _ i x σ H1 hx f0 Gq kq h;symm;let⟨o3,o4,rfl,L,I⟩:=h;clear C;left;symm;let⟨s,p,hs,rfl,h0⟩:=W.sets i x hx;let S:=R _ I;let tv:=(wv.sets s$ ML hs).mono S;let g1:GT (bo (O.sets.take i) k):=JE (H:=H) (ys:=ys) (λs hs=>wv.sets s (Nh hs)) gk;let l1:=Yh (ss:=O.sets.take i) (k:=k);right;rw[M1]at l1;erw[kq ?_];clear kq;erw[#[p,_,Z,aB.of$ S _ _ h0,Z,_,_,Z,_,_,Z,Z,?_]];erw[#[_,Z,_,Z,s.2.1,D,s.2.2,ys,_,Z,.inl tv.1,tv.2.2,tv.2.1,L,g1,_,Z,_,Z,D,_,Z,.inl #[_,.inr s.1,L,Z,LN,Z],f0 _ _ #[_,_,Z,?_,λc o X e=>by rw[ji X];exact I c o X e]]];rw[rV hs];exact jc
 .symm;let⟨o3,o4,rfl,L,I⟩:=h;right;rw[W.len,NC]at L;let S:=R _ I;let g1:GT (bo O.sets k):=JE (H:=H) (ys:=ys) wv.sets gk;let B:=wv.goal;let a:=W.goal;generalize bo O.sets k=N at L g1 q;erw[ah λF1 C=>(jq (S _ _ W.at') oH$ C _ _ ?_)];clear C;left;let G:=S _ _ W.gat;erw[ah λF1 C=>oJ λG1 k3 k0=>(jq G io #[Z,_,Z,?_])];let give:∀(t:ε) (T:Tm),wd="give"->u= .ref t->Lc K g T t->dj ys T->(∀(u':V) (H9:Hp),bh H9 (cp [dt "give",dH$ T.ev N]) u' []->ay D H H9->Q u' H9)->G1 (decide$ ti wd=ti "give") g:=by intro t T e1 e2 x1 x2 x3;subst e1;subst e2;rw[Ng Z];erw[k3 _$ jq G oH #[_,Z,t,D,T,ys,N,Z,x1,x2.2,x2.1,L,g1,bg,λr nr=>?_]];exact x3 _ _ (jN jc$ jv Z zf$ jv Z Jo jJ) λc o X e=>je nr _ _ (I c o X e)
  cases hg:O.goal with
  |give t T=>rw[hg]at B a q;exact give t T a.1 a.2 (.inl$ B.1.mono S) B.2 q
  |nought=>rw[hg]at a q;exact give U (.num 0) a.1 a.2 (.inr #[Z,no _]) #[#[LO,LO],LO] q
  |go n=>
   rw[hg]at B a q;clear give k3;symm;let⟨e1,e2⟩:=a;subst e1;subst e2;let hn:n < (bH U d).length:=by rw[ZR];exact B
   obtain⟨c,hc⟩:∃c,(bH U d)[n]?=δ c:=#[_,Mw hn];let e0:decide (ti "go"=ti "give")=μ:=by decide+kernel
   right;rw[e0];erw[k0 _$ C _ _ ?_];clear k0 C;erw[ah λF1 C=>#[_,Z,jq G oH #[v,n,d,ys,c,Z,hp.mono S,hc,λka na w2 dv w3 ca=>#[ka,_,_,_,Z,Z,aB.of ca.at',io,na,Z,#[_,aB.of ca.nms],?_]]]];let cl:=MT (Xm ca.v.mem) hp.y20;let q:∀(u:V) (g:Hp),bh g (cp [dt "go",dH (n:Int),cp ((d9 U d n).map λx=>dH (look N (.inr x) 0))]) u []->ay D H g->Q u g:=q;rw[uD hc]at q;erw[zP (K:=K) (xs:=(canon c.M).map ti) (by rw[Mv];omega) (λi zs Hx=>zs=((canon c.M).take i).map (λx=>tT (look N (.inr x) 0))/\Hx=g) #[Z,Z] (λi zs Hx h=>?_) (λi x zs Hx hx h=>?_) (λzs Hx h l nl=>C _ _ ?_)]
   .symm;let⟨rfl,rfl⟩:=h;exact#[aB.of ca.nms,by rw[Mv,M1];omega]
   .symm;let⟨rfl,rfl⟩:=h;right;rw[MK]at hx;symm;let⟨y,hy,rfl⟩:=em.mp hx;erw[#[_,Z,D,Z,.inl #[N,.inl L],_,Z,_,a7.k (k:=Sum.inr y) L,?_,Z]];rw[qX g1,Ou,hy,M0];rfl
   .let⟨rfl,rfl⟩:=h;rw[Mv,NC];erw[(jq (je nl _ _ G) oH #[_,Z,l,_,Z,.inl #[aF.of jc,λtl n0=>#[eJ,λr nr=>?_]]])];erw[q _ _ (jN jc$ jv Z zf$ jv Z Jo$ jv Z (jN (am jc nr) ?_) jJ) λc' o X e=>je nr _ _ (je n0 _ _$ je nl _ _$ I c' o X e)];let:=XF (H:=upd (upd (upd Hx l$ .lst ((canon c.M).map (λx=>tT (look N (.inr x) 0)))) tl$ .tup ((canon c.M).map (λx=>tT (look N (.inr x) 0)))) r (.tup [.str "go",.int (n:Int),.ref tl])) (is:=(canon c.M).map λx=>look N (.inr x) 0);rw[NJ,NJ]at this;exact this
structure mH(H:Hp)(nA:ε)(d:Df)(ys:List π)(v:V)(sa:ε)(n:Nat)(hv:ε)(uw:V)(c:Ct)(is:List Int)(wh:Wh)(e:DD)(wd:WD):Prop where
 prt:oG H nA d ys v
 at':H sa=δ (.tup [.int (n:Int),.ref hv,uw])
 cut:(bH nA d)[n]?=δ c
 hat:H hv=δ (.tup$ is.map tT)
 hl:is.length=(canon c.M).length
 hin:∀i∈is,dE i
 whv:Co H uw wh
 ed:e.dd=c.d
 dv:A6 H ys e
 fit:Hy e wh
 way:c.ws[wh.side]?=δ (wd.wy nA)
 wdv:nJ H ys d.b.cuts d.b.size wd
def mH.mono(k:aj H a)(h:mH H N d y v s n b u c i f e g):mH a N d y v s n b u c i f e g:=
 #[h.prt.mono k,k _ _ h.at',h.cut,k _ _ h.hat,h.hl,h.hin,h.whv.mono k,h.ed,h.dv.mono k,h.fit,h.way,h.wdv.mono k]
def ID(n:ε)(d:Df)(c:Ct)(i:List Int)(a:Wh)(e:DD)(W:WD):Tr:=uk (d9 n d) (bo W.sets$ pJ e a$ aS (canon c.M) i) W.goal
inductive gZ(e:ε)(g:List V)(H:Hp)(Q:VK)(a:XK):Prop
 |mk(v:V)(b:ε)(d:Df)(h f:List π)(c:List Int)(w:WD)(_:g=[v,.ref b])(_:oG H e d h v)(_:H d.pa=δ (.tup (f.map ti)))(_:f.length<=100)(_:H b=δ (.tup (c.map tT)))(_:c.length=f.length)(_:∀i∈c,dE i)(_:w.wy e=(gJ e d).1.w)(_:nJ H h d.b.cuts d.b.size w)(_:∀(u:V) (H':Hp),bh H' (uk (d9 e d) (bo w.sets (aS f c)) w.goal) u []->af H H'->Q u H')
inductive wu(g:ε)(j:List V)(H:Hp)(Q:VK)(a:XK):Prop
 |mk(v i:V)(h b:ε)(n:Nat)(d:Df)(m:List π)(c:Ct)(f:List Int)(l:Wh)(e:DD)(k:WD)(_:j=[v,.ref h])(_:mH H g d m v h n b i c f l e k)(_:∀(u:V) (H':Hp),bh H' (ID g d c f l e k) u []->af H H'->Q u H')
def sP(h:Hy e a)(g:GT k):GT (pJ e a k):=by
 unfold pJ;split
 .exact g.put _ h
 .exact g.put _ h
 .exact g
def xO{e:DD}{wh:Wh}{k:aE}:(pJ e wh k).length<=k.length+1:=by
 unfold pJ;split
 .exact JL
 .exact JL
 .exact NM _
def rY:ak ["part","args"] ["part","args"] (ae iN):=bQ
def Zm(F:xa K "first_of" iN f I)(J:‹8› fE L ["part","way","numbers"] (mY T) "end_of")(M:mg "dict"=ζ)(b:mg "zip"=ζ):⇑9 f I ["part","args"] (gZ T):=by
 erw[F.ok rY λR A O s H vs Q E U h=>?_]
 let⟨v,x,d,y,p,is,z,rfl,C,g,V,i,n,r,t,W,q⟩:=h;erw[#[_,(jg$ jm$ J.e U.m$ ja (pv 0)$ ja (jy$ pv 0)$ ja (@XD _ _ _ _ _ _ _ _ Z M Z b Z (ja (jy$ pv 0)$ ja (pv 1) jb) LK LK LK LK) jb),?_]];let⟨a,ca,X,cs,rfl,D,G,Y,h0⟩:=C.parts;rw[<- t]at G;erw[#[_,Z,_,Z,a,_,_,_,Z,Z,aB.of D,jP (j:=2) Z,jq D oH #[_,Z,d.pa,x,p.map Sum.inr,_,Z,by rw[ZU];exact aB.of g,aB.of i,by rw[Mv,Mv,n],λl N=>?_]]];let S:af H (upd H l$ .dK$ aS p is):=je N;let zl:=ZS (ns:=p) (is:=is);exact#[.ref a,X,l,d,y,z,aS p is,Z,C.mono$ af.tm S,G.mono$ af.tm S,W.mono$ af.tm S,jc,KY r,LN,λu H' tu k=>q u H' tu λc o e=>k c o (jk e N) (S _ _ e)]
def eX:ak ["part","step","cut","numbers","what","way"] ["part","step"] (ae lX):=bQ
def rK{f:ε}{fd:Φ}{nA fC fD fF fE:ε}{f0 f3 f4 f5:Φ}(F:xa K "onward" lX f fd)(cC:‹1› fC f0 ["part","n"] (iU nA) "cut_at")(cD:‹2› fD f3 z12z (iW nA) "held_at")(cF:‹1› fF f4 ["what"] fe "found_in")(cE:‹8› fE f5 ["part","way","numbers"] (mY nA) "end_of"):⇑9 f fd ["part","step"] (wu nA):=by
 erw[F.ok eX λc0 A o2 s H vs Q E hr h=>?_]
 symm;let⟨v,L,Y,hv,n,d,ys,c,is,wh,e,wd,rfl,C,q⟩:=h;erw[#[_,(jd (jz 2 eX.nd$ cC.e hr.m$ ja (pv 0)$ ja (jy$ pv 1) jb)$ jd (jz 3 eX.nd$ cD.e hr.m$ ja (pv 0)$ ja (jy$ pv 1)$ ja (jy$ pv 1) jb)$ jd (jz 4 eX.nd$ jy$ pv 1)$ jd (jx (jB zO (jy$ pv 4) (jh$ ja jj$ ja jj jb) Z) (jg$ za (jR hr) (pv 3) (jy$ jr j6 (pv 2) jf (λ_ _=>Z)) (cF.e hr.m$ ja (pv 4) jb) Z) jo)$ jd (jz 5 eX.nd$ zT (jB (YG$ jR hr) (pv 4) (jh$ ja jj$ ja jf jb)$ ax _) (jy$ jr j6 (pv 2) jf (λ_ _=>Z))$ jy$ jr j6 (pv 2) jf (λ_ _=>Z))$ jg$ jm$ cE.e hr.m$ ja (pv 0)$ ja (pv 5)$ ja (pv 3) jb),?_]];let b0:=aJ;symm;let⟨a,ca,wv,cs,rfl,ha,hw,a0,a1⟩:=C.prt.parts;let h0:=C.at';sleep 5;erw[ah λF1 J=>#[_,Z,jq h0 io #[_,n,d,ys,c,Z,C.prt,C.cut,λka na wa dv w0 cu=>J _ _ ?_]]];clear J;left;erw[ah λF1 J=>#[_,Z,jq h0 io$ jq h0 oH #[_,n,hv,d,ys,c,is,Z,C.prt,C.cut,C.hat,C.hl,λD n0=>J _ _ ?_]]];clear J;left;let s1:af H (upd H D$ .dK$ aS (canon c.M) is):=je n0;let d1:upd H D (.dK$ aS (canon c.M) is) D=δ (.dK$ aS (canon c.M) is):=jc;generalize upd H D (.dK$ aS (canon c.M) is)=H1 at s1 d1;let O:=C.mono (af.tm s1);let g0:GT (aS (canon c.M) is):=KY C.hin;let z0:=ZS (ns:=canon c.M) (is:=is);let z1:=Xm cu.v.mem;let z2:=C.prt.y20;generalize h7:aS (canon c.M) is=k0 at d1 g0 z0;erw[ah λF1 J=>#[_,Z,Y,_,_,_,Z,Z,aB.of O.at',jP (j:=2) Z,J _ _ ?_]];clear J;left;let o1:ID nA d c is wh e wd=uk (d9 nA d) (bo wd.sets$ pJ e wh k0) wd.goal:=by unfold ID;rw[h7]
 rw[o1]at q;let h1:=zM cu.ways;rw[Mv]at h1;let G:∃x,w0[wh.side]?=δ x/\bh H (iz$ wd.wy nA) x []:=by
  let hj:wh.side < w0.length:=by rw[h1];exact(χ.mp C.way).1
  symm;let⟨tr,ht,tx⟩:=JW cu.ways wh.side _ (Mw hj);right;rw[MK,C.way]at ht;symm;cases ht;exact#[_,Mw hj,tx]
 symm;let⟨wx,G,t0⟩:=G;let h4:=cu.at';let h8:=cu.wat;erw[ah λF1 J=>?_];let r0:∀(H3:Hp),H3 D=δ (.dK$ pJ e wh k0)->ay D H1 H3->F1 [↑a,↑Y,↑ka,↑D,δ L,ζ] H3:=by
  intro H3 h3 k3;erw[J _ _ ?_];clear J;left;let s3:af H H3:=λc o x=>k3 c o (jk x n0) (s1 _ _ x);let l3:=xO (e:=e) (wh:=wh) (k:=k0);erw[ah λF2 f2=>?_];let f6:∀H4,af H3 H4->F2 [↑a,↑Y,↑ka,↑D,δ L,δ wx] H4:=λH4 s4=>f2 _ _ (by
   let S:=s3.trans s4;exact#[_,Z,_,Z,_,Z,.ref a,wx,D,d,ys,wd,_,Z,C.prt.mono$ af.tm S,t0.mono$ af.tm S,C.wdv.mono$ af.tm S,s4 _ _ h3,sP C.fit g0,LN,λu R tu k=>q u R tu λc o x=>k c o (jk x n0) (S _ _ x)])
  clear f2;left;let wk:=C.whv.mono (af.tm s3);let dP:∀(H4:Hp) (j:Nat),af H3 H4->w0[j]?=δ wx->eh (fj K) (eh (fj K) (a5 2)$ tC$ .int 2) (tC$ .int (j:Int)) [↑a,↑Y,↑ka,↑D,δ L,ζ] H4 λx H5=>F2 ([↑a,↑Y,↑ka,↑D,δ L,ζ].set 5 (δ x)) H5:=λH4 j s4 hj=>
   #[_,Z,ka,_,_,_,Z,Z,aB.of ((s3.trans s4) _ _ h4),jP (j:=2) Z,wa,_,_,_,Z,Z,aB.of ((s3.trans s4) _ _ h8),jP hj,f6 H4 s4]
  symm;cases wh with
  |rd a' i |wr a' b=>let⟨p,rfl,B⟩:=wk;exact#[_,Z,bg,λt N=>#[p,t,_,_,Z,Z,aB.of$ je N _ _ B,aB.of jc,.inl #[Z,Z,_,Z,aI (by unfold tE;exact Sz _)$ dP _ 0 (je N) G]]]
  |ask b=>
   let⟨p,rfl,B⟩:=wk;let hb:b=0∨b=1:=by
    let:=C.fit;symm;cases e with
    |st p l=>cases l<;>exact this.elim
    |ask t T=>exact this
   rcases hb with rfl |rfl
   .exact#[_,Z,bg,λt N=>#[p,t,_,_,Z,Z,aB.of$ je N _ _ B,aB.of jc,.inl #[Z,Z,_,Z,bJ LL$ dP _ 1 (je N) G]]]
   .exact#[_,Z,bg,λt N=>#[p,t,_,_,Z,Z,aB.of$ je N _ _ B,aB.of jc,.inl #[Z,Z,_,Z,aI LL$ dP _ 0 (je N) G]]]
  |cl f' i0 i=>let⟨p,c',g,e',rfl,B,h',_⟩:=wk;exact#[_,Z,bg,λt N=>#[p,t,_,_,Z,Z,aB.of$ je N _ _ B,aB.of jc,.inr #[_,c',_,_,_,Z,aB.of$ je N _ _ h',Z,_,Z,aI Z$ dP _ 0 (je N) G]]]
 let wk:=O.whv;let dk:=O.dv;let fk:=O.fit;let h5:=s1 _ _ h4;let d0:=cu.deed;rw[<- C.ed]at d0;let skip:∀(p:ε) (W:π) (r:List V),L= .ref p->H1 p=δ (.tup (.str W::r))->iK (.str W) [.str "read",.str "call"]=μ->pJ e wh k0=k0->lB (lG$ eh (EN K μ) (eh (fj K) (a5 4)$ tC$ .int 0)$ bq$ al (tC$ .str "read")$ al (tC$ .str "call") aK) (vA (a5 3) (eh (fj K) (eh (fj K) (a5 2)$ tC$ .int 1)$ tC$ .int 1)$ dR fe [] E0$ al (a5 4) aK) wL { nx:=F1,rt:=Q } [↑a,↑Y,↑ka,↑D,δ L,ζ] H1:=by intro p W r I B e2 e3;subst I;erw[oJ λG1 k1 k2=>(jq B io #[bg,λt N=>#[t,_,Z,.inr$ aB.of jc,Z,Z,_,Z,?_]])];show G1 (iK (.str W) [.str "read",.str "call"]) _;rw[e2];exact k2 _$ r0 _ (by rw[e3];exact am d1 N) λc o _ x=>je N _ _ x
 let p0:∀(p p':ε) (W:π) (r:List V) (i:Int) (x:π) (y:V) (r':List V),L= .ref p->H1 p=δ (.tup (.str W::r))->iK (.str W) [.str "read",.str "call"]=ν->dv= .ref p'->H1 p'=δ (.tup (y:: .str x::r'))->(∀R:Hp,af H1 R->Co R L wh)->(∀(Q':VK) (R:Hp),Q' (.int i) R->tQ Q' R wh)->pJ e wh k0=aD k0 (.inr x) (.int i)->lB (lG$ eh (EN K μ) (eh (fj K) (a5 4)$ tC$ .int 0)$ bq$ al (tC$ .str "read")$ al (tC$ .str "call") aK) (vA (a5 3) (eh (fj K) (eh (fj K) (a5 2)$ tC$ .int 1)$ tC$ .int 1)$ dR fe [] E0$ al (a5 4) aK) wL { nx:=F1,rt:=Q } [↑a,↑Y,↑ka,↑D,δ L,ζ] H1:=by intro p p' W r i x y r' I B e2 e4 X e5 e6 e3;subst I;subst e4;erw[oJ λG1 k1 k2=>(jq B io #[bg,λt N=>#[t,_,Z,.inr$ aB.of jc,Z,Z,_,Z,?_]])];show G1 (iK (.str W) [.str "read",.str "call"]) _;rw[e2];erw[k1 _ #[_,Z,.ref p,wh,Z,e5 _$ je N,e6 _ _ ?_]];exact#[_,Z,jq (je N _ _ h5) oH #[p',_,_,_,Z,Z,aB.of$ je N _ _ X,oH,D,_,Z,.inl #[k0,.inr x,am d1 N,Z,LN,Z],r0 _ (by rw[e3];exact jc) λc o nc z=>by rw[ji nc];exact je N _ _ z]]
 symm;cases e with
 |ask t T=>
  cases wh with
  |ask b=>let⟨p,I,B⟩:=wk;exact skip p _ _ I B LL Z
  |_=>exact fk.elim
 |st p' l=>
  let⟨vs,X,h6,_⟩:=dk;let ed:dv= .ref p':=d0.1;cases l with
  |rd x t T=>
   cases wh with
   |rd b i=>let⟨p,I,B⟩:=wk;let⟨rfl,_⟩:=h6;exact p0 p p' _ _ i x _ _ I B LL ed X (λR s'=>#[p,I,s' _ _ B]) (λ_ _ h=>h) Z
   |_=>exact fk.elim
  |wr t u T U=>
   cases wh with
   |wr b i=>let⟨p,I,B⟩:=wk;exact skip p _ _ I B LL Z
   |_=>exact fk.elim
  |cl x f' q' ts=>
   cases wh with
   |cl f2 i1 i=>let⟨p,c2,g2,e2,I,B,h2,h3⟩:=wk;let⟨rfl,_⟩:=h6;exact p0 p p' _ _ i x _ _ I B LL ed X (λR s'=>#[p,c2,g2,e2,I,s' _ _ B,s' _ _ h2,s' _ _ h3]) (λ_ _ h=>h) Z
   |_=>exact fk.elim
  |st x t T |gv t T=>cases wh<;>exact fk.elim
abbrev iF:da:=top 25
abbrev lQ:da:=top 26
def Le(k:aE):DD->Tr
 | .st _ (.rd _ _ T)=>cp [dt "read",dH (T.ev k)]
 | .st _ (.wr _ _ T U)=>cp [dt "write",dH (T.ev k),dH (U.ev k)]
 | .st _ (.cl _ f _ t)=>cp [dt "call",dt f,cp (t.map λc=>dH (c.2.ev k))]
 | .ask _ T=>cp [dt "ask",dH (if T.ev k=0 then 0 else 1)]
 |_=>.nil
inductive gY(g:ε)(h:List V)(H:Hp)(Q:VK)(a:XK):Prop
 |mk(v:V)(n:Nat)(b:ε)(d:Df)(j:List π)(c:Ct)(f:List Int)(e:DD)(_:h=[v,.int (n:Int),.ref b])(_:oG H g d j v)(_:(bH g d)[n]?=δ c)(_:H b=δ (.tup (f.map tT)))(_:f.length=(canon c.M).length)(_:∀i∈f,dE i)(_:e.dd=c.d)(_:A6 H j e)(_:∀(u:V) (H':Hp),bh H' (Le (aS (canon c.M) f) e) u []->af H H'->Q u H')
inductive hX(f:List V)(H:Hp)(Q:VK)(b:XK):Prop
 |mk(a d:ε)(e:List (ε×Tm))(g:List π)(k:aE)(_:f=[.ref a,.ref d])(_:H a=δ (.tup (e.map λc=>vr c.1)))(_:e.length<=6)(_:∀c∈e,aR H c.2 c.1/\dj g c.2)(_:H d=δ (.dK k))(_:GT k)(_:∀(r:ε) (H':Hp),H' r=δ (.tup (e.map λc=>tT (c.2.ev k)))->af H H'->Q (.ref r) H')
def wc:ak ["terms","numbers"] ["terms","numbers"] (ae iF):=bQ
def Zn:hJ:=#[.function,[(".0",.local),("term",.local),("worth",.globalImplicit),("numbers",.free)],μ,μ,[]]
def yy:(["term","numbers"]:List π).Nodup:=by decide+kernel
def xV:aV ["terms","numbers"] (ae iF) Zn ["term","numbers"] 1 [1]:=nS
def rM(F:xa K "worths" iF f v)(C:‹7› U B z8z (cR K 6) "worth")(M:mg "tuple"=ζ):⇑8 f v ["terms","numbers"] hX:=by
 erw[F.ok wc λG A o s H R Q E I h=>?_]
 let⟨a,D,t,g,k,rfl,p,W,b,J,L,q⟩:=h;erw[#[_,(jg$ jm$ jC jG Z M Of$ ja (@kY _ _ _ _ _ _ _ (["term","numbers"]) (1) ([1]) _ _ _ _ Z (zp$ pv 0) xV (λ_ _ _ _ _=>(ju (i:=0) yy Z$ Δ Z)) (λ_ _ _ _ _=>(@zR _)) (λ_ _ _ _ _=>(C.e I.m$ ja (pv 0)$ ja (pv 1) jb)) (by intro _;rfl)) jb),?_]];let N:=aJ;erw[#[_,Z,a,Z,#[_,aB.of p],?_]];erw[zP (K:=K) (xs:=t.map λc=>vr c.1) (by rw[Mv];omega) (λi z d=>z=(t.take i).map (λc=>tT (c.2.ev k))/\d=H) #[Z,Z] (λi z d h=>?_) (λi x z d r h=>?_) (λz d h l O=>?_)]
 .let⟨rfl,rfl⟩:=h;exact#[aB.of p,by rw[Mv,M1];omega]
 .let⟨rfl,rfl⟩:=h;rw[MK]at r;let⟨y,u,rfl⟩:=em.mp r;let Y:=ML u;erw[#[_,Z,_,Z,y.1,D,y.2,g,k,Z,.inl (b y Y).1,(b y Y).2.2,(b y Y).2.1,J,L,?_,Z]];rw[Ou,u,M0];rfl
 .let⟨rfl,rfl⟩:=h;rw[Mv,NC];exact#[l,_,Z,.inl #[aF.of jc,λT n=>q T _ jc ((je O).trans$ je n)]]
def gO:ak ["part","n","held","numbers","deed","word"] z12z (ae lQ):=bQ
def rA(F:xa K "deed_at" lQ f fd)(cH:‹2› fH f0 z12z (iW nA) "held_at")(cC:‹1› fC f2 ["part","n"] (iU nA) "cut_at")(cW:‹7› fW f3 z8z (cR K 6) "worth")(cS:‹8› fS f4 ["terms","numbers"] hX "worths"):⇑9 f fd z12z (gY nA):=by
 erw[F.ok gO λc0 A o1 s H vs Q E L h=>?_]
 symm;let⟨v,n,hv,d,Y,c,is,e,rfl,hp,hc,hh,hl,h0,h1,h2,q⟩:=h;erw[#[_,(jd (jz 3 gO.nd$ cH.e L.m$ ja (pv 0)$ ja (pv 1)$ ja (pv 2) jb)$ jd (jz 4 gO.nd$ jr j6 (cC.e L.m$ ja (pv 0)$ ja (pv 1) jb) jf (λ_ _=>Z))$ jd (jz 5 gO.nd$ jy$ pv 4)$ jd (jx (jZ$ pv 5) (jg$ jm$ jh$ ja (pv 5)$ ja (zT (jB zJ (cW.e L.m$ ja (jy$ pv 4)$ ja (pv 3) jb) jf$ ax _) jf jf) jb) jo)$ jd (jx (jZ$ pv 5) (jg$ jm$ jh$ ja (pv 5)$ ja (jy$ pv 4)$ ja (cS.e L.m$ ja (jy$ pv 4)$ ja (pv 3) jb) jb) jo)$ jd (jx (jZ$ pv 5) (jg$ jm$ jh$ ja (pv 5)$ ja (cW.e L.m$ ja (jy$ pv 4)$ ja (pv 3) jb) jb) jo)$ jg$ jm$ jw zb (jh$ ja (pv 5) jb)$ cS.e L.m$ ja (jK qx (pv 4) (jI jf) ki)$ ja (pv 3) jb),?_]];let b0:=aJ;symm;let⟨a,ca,p0,cs,rfl,ha,_,h7,h8⟩:=hp.parts;sleep 6;erw[ah λi b=>#[_,Z,_,Z,_,Z,.ref a,n,hv,d,Y,c,is,Z,hp,hc,hh,hl,λC n0=>b _ _ ?_]];clear b;left;let S:af H (upd H C$ .dK$ aS (canon c.M) is):=je n0;let O:upd H C (.dK$ aS (canon c.M) is) C=δ (.dK$ aS (canon c.M) is):=jc;show cy _ _ _ _ (upd H C$ .dK$ aS (canon c.M) is);generalize upd H C (.dK$ aS (canon c.M) is)=H1 at S O;let V:GT (aS (canon c.M) is):=KY h0;generalize aS (canon c.M) is=k at O V q;let dk:=h2.mono (af.tm S);erw[ah λi b=>#[_,Z,_,Z,.ref a,n,d,Y,c,Z,hp.mono$ af.tm S,hc,λka na wa dv w0 cu=>#[ka,_,_,_,Z,Z,aB.of cu.at',oH,b _ _ ?_]]];clear b;left;let D:=cu.deed;rw[<- h1]at D;symm;cases e with
 |ask t T=>
  obtain⟨_,p,xs,rfl,g,_,_,y0,z0,rfl,⟨rfl,_⟩,_,_,y1,z1,rfl,⟨rfl,_⟩,e⟩:=D;let e:z1=[]:=e;subst e;erw[ah λi b=>(jq g io$ b _ _ ?_)];clear b;left;erw[ah λi b=>#[_,Z,Z,_,Z,bJ LL #[_,Z,jq g oH #[_,Z,t,C,T,Y,k,Z,.inl dk.1,dk.2.2,dk.2.1,O,V,Z,_,Z,?_]]]];symm;by_cases z:T.ev k=0
  .erw[bJ (by rw[z];decide+kernel) #[bg,λr G=>q _ _ (jN jc$ jv Z zf$ jv Z #[?_,Z] jJ) (S.trans$ je G)]];rw[MQ z]
  .erw[aI (by rw[MY];intro e;injection e with e;exact z e) #[bg,λr G=>q _ _ (jN jc$ jv Z zf$ jv Z #[?_,Z] jJ) (S.trans$ je G)]];rw[MS z]
 |st p l=>
  let ed:dv= .ref p:=D.1;subst ed;let⟨vs,g,I,B,h3⟩:=dk;cases l with
  |rd x t T=>let⟨rfl,ht⟩:=I;sleep 4;erw[ah λi b=>(jq g io$ b _ _ ?_)];clear b;left;erw[ah λi b=>#[_,Z,Z,_,Z,aI LL$ b _ _ ?_]];clear b;left;erw[ah λi b=>#[_,Z,Z,_,Z,aI LL$ b _ _ ?_]];clear b;left;erw[ah λi b=>#[_,Z,Z,_,Z,bJ LL #[_,Z,_,Z,p,_,_,_,Z,Z,aB.of g,jP (j:=2) Z,_,Z,t,C,T,Y,k,Z,.inl ht,B.2.2,B.2.1,O,V,bg,λr G=>?_]]];exact q _ _ (jN jc$ jv Z zf$ jv Z Jo jJ)$ S.trans$ je G
  |wr t u T U=>
   let⟨rfl,ht,hu⟩:=I;sleep 4;erw[ah λi b=>(jq g io$ b _ _ ?_)];clear b;left;erw[ah λi b=>#[_,Z,Z,_,Z,aI LL$ b _ _ ?_]];clear b;left;erw[ah λi b=>#[_,Z,Z,_,Z,aI LL$ b _ _ ?_]];clear b;left;erw[ah λi b=>#[_,Z,Z,_,Z,aI LL$ b _ _ ?_]];clear b;left;erw[#[_,Z,fg,λr1 N=>#[_,Z,1,Z,p,_,Z,je N _ _ g,λr2 H2 J R=>#[_,Z,r2,C,[(t,T),(u,U)],Y,k,Z,J,(by show 2<=6;decide),?_,R _ _$ je N _ _ O,V,λr3 H3 h4 s3=>#[r1,r3,_,_,Z,Z,s3 _ _$ R _ _ jc,h4,eJ,λr4 H4 h5 s4=>?_]]]]]
   .intro y W;let X:=(je (o:=.tup [.str "write"]) N).trans R;simp only[Nv,MO,OZ]at W;symm;rcases W with rfl |rfl
    .exact#[ht.same X,B.1]
    .exact#[hu.same X,B.2]
   .exact q _ _ (jN h5$ jv Z zf$ jv Z Jo$ jv Z Jo jJ)$ S.trans ((je N).trans$ R.trans$ s3.trans s4)
  |cl x f' qa ts=>let⟨rfl,hq,h6⟩:=I;sleep 4;erw[ah λi b=>(jq g io$ b _ _ ?_)];clear b;left;erw[ah λi b=>#[_,Z,Z,_,Z,aI LL$ b _ _ ?_]];clear b;left;let l6:ts.length<=6:=B.2.1;erw[ah λi b=>#[_,Z,Z,_,Z,bJ LL #[_,Z,_,Z,p,_,_,_,Z,Z,aB.of g,jP (j:=2) Z,_,Z,p,_,_,_,Z,Z,aB.of g,jP (j:=3) Z,_,Z,qa,C,ts,Y,k,Z,hq,l6,λy W=>#[h6 y W,B.2.2 y W],O,V,λr2 H2 J R=>#[eJ,λr G=>?_]]]];erw[q _ _ (jN jc$ jv Z zf$ jv Z zf$ jv Z (jN (am J G) ?_) jJ)$ S.trans$ R.trans$ je G];let:=XF (H:=upd H2 r (.tup [.str "call",.str f',.ref r2])) (is:=ts.map λc=>c.2.ev k);rw[NJ,NJ]at this;exact this
  |st x t T |gv t T=>cases h3
abbrev iE:da:=top 17
abbrev nW:da:=top 18
abbrev lR:da:=top 19
abbrev vM:da:=bP (top 20) 0
abbrev og:da:=bP (top 20) 1
abbrev vN:da:=bP (top 20) 2
abbrev lY:da:=top 22
def Bc(H:Hp)(x:V)(g:π):Prop:=∃p r,x= .ref p/\H p=δ (.tup (.str g::r))
inductive mj(c:List V)(H:Hp)(Q:VK)(b:XK):Prop
 |mk(a:ε)(f:π)(d:List V)(i:Nat)(v:V)(_:c=[.ref a,.str f])(_:H a=δ (.tup d))(_:d[i]?=δ v)(_:Bc H v f)(_:∀j x,j < i->d[j]?=δ x->∃g,Bc H x g/\g≠f)(_:Q v H)
def iI(e:List (π×V))(c l p:ε)(m:Int)(t:Nat):List (π×V):=ry (("cells":π),vr c) (ry (("most":π),tT m)$ ry (("left":π),vr l)$ ry (("turns":π),tT (t:Int))$ ry (("parts":π),vr p) e)
structure Tl(ex:List (π×V)):Prop where
 l:ex.length<=10
 t:ex.lookup ("take_turn":π)=ζ
 n:ex.lookup ("number_in":π)=ζ
 c:ex.lookup ("chain_of":π)=ζ
 w:ex.lookup ("what_of":π)=ζ
def Tl.nil:Tl []:=#[MH _,Z,Z,Z,Z]
structure Rn(H:Hp)(C r dx:ε)(ex:List (π×V))(cA lA pA:ε)(m:Int)(t:Nat)(L Cs:aE):Prop where
 ins:H r=δ (.ins C dx$ iI ex cA lA pA m t)
 lf:H lA=δ (.dK L)
 ce:H cA=δ (.dK Cs)
 iL:GT L
 iC:GT Cs
 cl:cA≠lA
 tl:Tl ex
 hm:m<=1000
structure RK(K:Ω)(C:ε):Prop where
 cl:sw K C
 n1:aW K C "cells"
 n2:aW K C "most"
 n3:aW K C "left"
 n4:aW K C "turns"
 n5:aW K C "parts"
inductive g9(C:ε)(i:List V)(H:Hp)(Q:VK)(a:XK):Prop
 |mk(r e:ε)(f:List (π×V))(d g h:ε)(m c:Int)(t:Nat)(L b:aE)(_:i=[.ref r,.int c])(_:Rn H C r e f d g h m t L b)(_:Q (.int (look L (.inl c) (look b (.inl c) 0))) H)
inductive mw(C:ε)(e:List V)(H:Hp)(Q:VK)(a:XK):Prop
 |mk(r c:ε)(d:List (π×V))(b:ε)(m:Int)(_:e=[.ref r,.ref b,.int m])(_:H r=δ (.ins C c []))(_:∀lA,H lA=ζ->Q .non (upd (upd H lA (.dK [])) r (.ins C c [("cells",.ref b),("most",.int m),("left",.ref lA),("turns",.int 0)])))
structure XM(K:Ω)(mg:π->Option η)(x:π)(L:ε):Prop where
 ex:excIn K L dG "ValueError.__new__"=ν
 kp:fx K (.ref L)=ν
 xc:ie K L
 ty:typeIn K (.ref L)=δ (.type "type")
 m:mg x=↑L
def NX(o:HO):Prop:=∀a,o≠ .ext a
def Kp(H h:Hp):Prop:=∀b o,NX o->H b=δ o->h b=δ o
def Kp.of_same(s:af H h):Kp H h:=λb o _ e=>s _ _ e
def Kp.trans(a:Kp H h)(b:Kp h d):Kp H d:=λc o n e=>b c o n (a c o n e)
def mJ(E:XK):XK:=λC d H=>∀x T t c,C= .ref c->H x=δ (fc c d T x)->H T=δ (fb T)->H t=ζ->E (.ref c) d (upd (upd H t$ fb t) x$ fc c d t x)
def zu{P:ψ}{w:bU}{K:Ω}{mg:π->Option η}{base:ef}:c7 (eI P w) (eP (eI P w) P w K mg base N q s f g A o a H E) (mJ E):=
 yZ λx C d T t i b c e h=>h x T t C Z b c e
def zA{H h:Hp}(e:h b=δ o)(n:NX o)(a:h x=δ (fc C d T x))(c:h t=ζ):upd (upd h t$ fb t) x (fc C d t x) b=δ o:=by
 let N:b≠x:=λz=>by rw[z,a]at e;injection e with e;exact n _ e.symm
 rw[ji N,ji$ jk e c];exact e
def Fl(E:XK)(L:ε)(R:Hp->Prop):Prop:=∀(_:Unit) H,R H->E (.ref L) ζ H
inductive i6(C L:ε)(f:List V)(H:Hp)(Q:VK)(E:XK):Prop
 |mk(r b:ε)(c:List (π×V))(a d e:ε)(m:Int)(t:Nat)(_:f=[.ref r])(_:H r=δ (.ins C b (iI c a d e m t)))(_:Tl c)(_:(t:Int) < m->Q .non (upd H r (.ins C b (iI c a d e m (t+1)))))(_:m<=(t:Int)->Fl E L (Kp H))
inductive eY(D:ε)(a:List V)(H:Hp)(Q:VK)(E:XK):Prop
 |mk(d:Int)(_:a=[.int d])(_:d < 15->Q (.int (d+1)) H)(_:15<=d->Fl E D (Kp H))
def Yj{H:Hp}(a:H x=ζ)(N:upd H x (hZ L ζ x) T=ζ):af H (upd (upd (upd H x$ hZ L ζ x) T$ fb T) x$ fc L d T x):=by intro b o e;let n:b≠x:=jk e a;rw[ji n,ji (λz=>by rw[<- z,ji n,e]at N;cases N),ji n];exact e
def gU:ak ["ones","f","one"] ["ones","f"] (ae iE):=bQ
def rG(F:xa K "named" iE f D):⇑1 f D ["ones","f"] mj:=by
 erw[F.ok gU λG A o s H W Q E X h=>?_]
 let⟨a,f,xs,i,v,rfl,t,u,L,d,q⟩:=h;erw[#[_,(jd (kP Ni Z (zp$ pv 0) (ju (i:=2) gU.nd Z$ Δ Z)$ jg$ jx (jB zJ (jy$ pv 2) (pv 1)$ ax _) (jg$ jm$ pv 2) jo)$ @DR _ _),?_]];let M:i < xs.length:=(χ.mp u).1;erw[ah λY f1=>gn λJ j=>#[_,Z,a,Z,#[_,aB.of t],j _ _ ?_]];clear j;erw[qU (K:=K) (xs:=xs) (λk c e=>(∃O,c=[↑a,δ$ .str f,O])/\e=H/\k<=i) #[#[_,Z],Z,MH _] (λk c e _ h=>by rw[h.2.1];exact aB.of t) ?_ (λc e h=>?_)]
 .intro l R k x c H2 m N I b h;obtain⟨⟨O,rfl⟩,rfl,y⟩:=h;erw[b ?_];clear b;by_cases S:k=i
  .subst S;rw[u]at m;cases m;let⟨p,r,rfl,n⟩:=id L;show lB _ _ _ l _ _;erw[oJ λT B C=>(jq n io #[_,Z,Z,_,Z,?_])];rw[Ng (Z:ti f=ti f)];erw[B _ ?_];show iw _ l _ _;unfold iw;rw[R];exact#[_,Z,q]
  .obtain⟨g,⟨p,r,rfl,n⟩,U⟩:=d k x LN m;show lB _ _ _ l _ _;erw[oJ λT B C=>(jq n io #[_,Z,Z,_,Z,?_])];rw[MY (λz=>U (by injection z))];exact C _$ N _ _ #[#[_,Z],Z,LN]
 .let⟨_,_,y⟩:=h;exact absurd y LN
def vZ:ak ["parts","f"] ["parts","f"] (ae lY):=bQ
def rL(F:xa K "part_of" lY f c)(C:‹1› r d ["ones","f"] mj "named"):⇑2 f c ["parts","f"] mj:=by
 erw[F.ok vZ λg A o s H V Q E j h=>?_]
 let⟨a,f,x,i,v,rfl,l,n,p,b,q⟩:=h;erw[#[_,(jg$ jm$ C.e j.m$ ja (pv 0)$ ja (pv 1) jb),?_]];exact#[_,Z,_,Z,a,f,x,i,v,Z,l,n,p,b,q]
def oY:ak ["ones","f","args","one"] ["ones","f","args"] (ae nW):=bQ
def vS:ak ["deep"] ["deep"] (ae lR):=bQ
def rB(F:xa K "deeper" lR f a)(M:mg "DEEPEST"=δ (.int 15 t))(X:XM K mg "TooDeep" D):ai P w K mg base (eI P w) 1 f a ["deep"] (eY D):=by
 erw[F.ok1 vS λC A o s H V Q E g h=>?_]
 let⟨d,rfl,q,e⟩:=h;erw[#[_,(jd (jx (jB uX (pv 0) (kG (v:=.int 15) Z M #[t,Z])$ ax _) (jg$ @JK _ _ _ _ _ Z Jc$ @Xb _ _ _ _ _ X.ex X.kp Z X.m LO) jo)$ jg$ jm$ jw jS (pv 0) jf),?_]];erw[ah λi b=>#[_,Z,_,_,Z,Z,_,Z,?_]];by_cases c:(15:Int)<=d
 .erw[bJ (Ng c) λx n=>?_];exact#[x,D,ζ,Z,jc,X.xc,X.ty,λT N=>e c () _ (Kp.of_same$ Yj n N)]
 .exact aI (MY c)$ b _ _ #[_,Z,_,_,Z,Z,q LN]
def Eb:ak z28z z28z (ae vM):=bQ
def yU(F:aM K "__init__" "Turns.__init__" vM f u)(c:RK K C):⇑1 f u z28z (mw C):=by
 erw[F.ok Eb λv A o s H V Q E B h=>?_]
 let⟨r,D,x,y,m,rfl,pW,q⟩:=h;erw[#[_,(jd (@Jn _ _ _ _ _ _ _ _ (pv 0) (pv 1) Z)$ jd (@Jn _ _ _ _ _ _ _ _ (pv 0) (pv 2) Z)$ jd (@Jn _ _ _ _ _ _ _ _ (pv 0) K9 Z)$ jg$ @Jn _ _ _ _ _ _ _ _ (pv 0) jf Z),?_]];erw[ah λi a=>#[_,Z,_,Z,r,C,D,_,Z,pW,c.cl,c.n1,LO,a _ _ ?_]];clear a;erw[ah λi a=>#[_,Z,_,Z,r,C,D,_,Z,jc,c.cl,c.n2,(by show 1 < 1000;decide),a _ _ ?_]];clear a;erw[ah λi a=>λl n=>#[_,Z,r,C,D,_,Z,am jc n,c.cl,c.n3,(by show 2 < 1000;decide),a _ _ ?_]];clear a;erw[#[_,Z,r,C,D,_,Z,jc,c.cl,c.n4,(by show 3 < 1000;decide),?_]];let N:l≠r:=λe=>by rw[e,jc]at n;cases n
 let z:H l=ζ:=by rw[ji N,ji N]at n;exact n
 let e:∀j p t O:HO,upd (upd (upd (upd (upd H r j) r p) l$ .dK []) r t) r O=upd (upd H l$ .dK []) r O:=λj p t O=>by
  funext b;by_cases d:b=r
  .rw[d,jc,jc]
  .rw[ji d,ji d,ji d];by_cases g:b=l
   .rw[g,jc,jc]
   .rw[ji g,ji d,ji d,ji g]
 rw[e];exact q l z
def Ay:ak ["self"] ["self"] (ae og):=bQ
def uR(F:aM K "take_turn" "Turns.take_turn" og f g)(a:RK K C)(X:XM K mg "TooLong" L):ai P w K mg base (eI P w) 1 f g ["self"] (i6 C L):=by
 erw[F.ok1 Ay λi A o s H V Q E z h=>?_]
 let⟨r,d,b,j,n,p,m,t,rfl,pW,u,q,e⟩:=h;erw[#[_,(jd (jx (jB uX (zQ (pv 0) Z) (zQ (pv 0) Z)$ ax _) (jg$ @JK _ _ _ _ _ Z Jc$ @Xb _ _ _ _ _ X.ex X.kp Z X.m LO) jo)$ jg$ @rR _ _ _ _ _ _ _ _ _ _ (pv 0) jf C1),?_]];erw[ah λB v=>#[_,Z,r,C,d,_,_,Z,pW,a.cl,a.n4,Z,_,Z,r,C,d,_,_,Z,pW,a.cl,a.n2,Z,_,_,Z,Z,_,Z,?_]];by_cases c:m<=(t:Int)
 .erw[bJ (Ng c) λx N=>?_];exact#[x,L,ζ,Z,jc,X.xc,X.ty,λT y=>e c () _ (Kp.of_same$ Yj N y)]
 .exact aI (MY c)$ v _ _ #[_,Z,r,C,d,_,_,Z,pW,a.cl,a.n4,Z,_,_,Z,Z,d,_,pW,(by let:=u.l;show b.length+1+1+1+1+1 < 1000;omega),q LN]
def Ec:ak ["self","cell"] ["self","cell"] (ae vN):=bQ
def yV(F:aM K "number_in" "Turns.number_in" vN f p)(b:RK K C):⇑1 f p ["self","cell"] (g9 C):=by
 erw[F.ok Ec λu A o s H V Q E g h=>?_]
 let⟨r,d,x,i,l,y,m,c,t,L,j,rfl,a,q⟩:=h;erw[#[_,(jg$ jm$ zT (DS$ @DL _ _ _ _ _ (jR g) (pv 1)$ zQ (pv 0) Z) (kj (jR g) (zQ (pv 0) Z) (pv 1) (λ_ _=>Z))$ @qR _ _ _ _ _ _ _ _ _ (jR g) (zQ (pv 0) Z) (pv 1) jf #[LK,LK,LK,LK]),?_]];erw[#[_,Z,_,Z,r,C,d,_,_,Z,a.ins,b.cl,b.n3,Z,l,_,Z,a7.k (k:=.inl c) a.lf,_,Z,?_]];cases e:cg L (.inl c) with
 |some v=>erw[bJ Z #[_,Z,r,C,d,_,_,Z,a.ins,b.cl,b.n3,Z,_,Z,l,v,Z,by rw[<- e];exact a7.k (k:=.inl c) a.lf,?_]];rw[p8 a.iL e$ look j (.inl c) 0];exact q
 |none=>erw[aI Z #[_,Z,r,C,d,_,_,Z,a.ins,b.cl,b.n1,Z,i,Z,.inl #[_,.inl a.ce],_,Z,_,a7.k (k:=.inl c) a.ce,?_]];rw[qX a.iC];rw[pZ e]at q;exact q
abbrev vt:da:=bP (top 32) 0
abbrev Ai:da:=bP (top 32) 1
abbrev Aj:da:=bP (top 32) 2
abbrev D3:da:=top 33
inductive Sk where
 |nil |st (n:Int) (hs:List Int) (w r:Sk) |ask (b:Int) |rd (c i:Int) |wr (c i:Int) |cl (f:π) (is:List Int) (s:Sk) (a:Int)
def Sk.dep:Sk->Nat
 | .st _ _ w r=>max w.dep r.dep
 | .cl _ _ s _=>s.dep+1
 |_=>0
def Sk.size:Sk->Nat
 | .st _ _ w r=>w.size+r.size+1
 | .cl _ _ s _=>s.size
 |_=>0
def Sk.ok:Bool->Sk->Prop
 |true,.nil=>True
 |true,.st _ _ w r=>w.ok μ/\r.ok ν
 |false,.cl _ _ s _=>s.ok ν
 |false,.ask _ |false,.rd _ _ |false,.wr _ _=>True
 |_,_=>False
def mE(H:Hp):Sk->V->List V->Prop
 | .nil,_,x=>x=[]
 | .st n d w r,_,x=>∃p h u y,x= .ref p::y/\H p=δ (.tup [.int n,.ref h,u])/\H h=δ (.tup (d.map tT))/\mE H w u []/\mE H r .non y
 | .ask b,u,_=>∃p,u= .ref p/\H p=δ (.tup [.str "ask",.int b])
 | .rd c i,u,_=>∃p,u= .ref p/\H p=δ (.tup [.str "read",.int c,.int i])
 | .wr c i,u,_=>∃p,u= .ref p/\H p=δ (.tup [.str "write",.int c,.int i])
 | .cl f I s a,u,_=>∃p c g e S,u= .ref p/\H p=δ (.tup [.str "call",.ref c])/\H c=δ (.tup [.str f,.ref g,.ref e,.int a])/\H g=δ (.tup (I.map tT))/\H e=δ (.tup S)/\mE H s .non S
theorem mE.mono(k:aj H i):∀{s:Sk} {u:V} {x:List V},mE H s u x->mE i s u x
 | .nil,_,_,h=>h
 | .st _ _ _ _,_,_,z=>by let⟨p,h,u,y,e,a,b,d,f⟩:=z;exact #[p,h,u,y,e,k _ _ a,k _ _ b,mE.mono k d,mE.mono k f]
 | .ask _,_,_,z | .rd _ _,_,_,z | .wr _ _,_,_,z=>by let⟨p,e,h⟩:=z;exact #[p,e,k _ _ h]
 | .cl _ _ _ _,_,_,z=>by let⟨p,c,g,e,S,E,a,b,d,f,j⟩:=z;exact #[p,c,g,e,S,E,k _ _ a,k _ _ b,k _ _ d,k _ _ f,mE.mono k j]
def Sk.put(n:Int)(h:List Int)(W:Sk):Sk->Sk
 | .st a b c r=>.st a b c (Sk.put n h W r)
 |_=>.st n h W .nil
theorem BJ{H:Hp}{n:Int}{a:List Int}{w:Sk}{p h:ε}{u:V}(b:H p=δ (.tup [.int n,.ref h,u]))(c:H h=δ (.tup$ a.map tT))(d:mE H w u []):∀{s:Sk} {x:List V},s.ok ν->mE H s .non x->mE H (Sk.put n a w s) .non (x++[.ref p])
 | .nil,_,_,e=>by let e:_=[]:=e;rw[e];exact#[p,h,u,[],Z,b,c,d,Z]
 | .st _ _ _ r,_,o,z=>by let⟨f,g,U,y,e,i,j,k,l⟩:=z;rw[e];exact#[f,g,U,y++[.ref p],Z,i,j,k,BJ b c d o.2 l]
theorem ZV{w:Sk}(h:w.ok μ):∀{s:Sk},s.ok ν->(Sk.put n H w s).ok ν
 | .nil,_=>#[h,trivial]
 | .st _ _ _ _,o=>#[o.1,ZV h o.2]
theorem Yk{n:Int}{hs:List Int}{w:Sk}:∀{s:Sk},s.ok ν->(Sk.put n hs w s).size=s.size+(w.size+1)
 | .nil,_=>by show w.size+0+1=0+(w.size+1);omega
 | .st _ _ c r,o=>by let:=Yk (n:=n) (hs:=hs) (w:=w) (s:=r) o.2;show c.size+(Sk.put n hs w r).size+1=c.size+r.size+1+(w.size+1);omega
theorem ZW{n:Int}{hs:List Int}{w:Sk}{j:Nat}(H:w.dep<=j):∀{s:Sk},s.ok ν->s.dep<=j->(Sk.put n hs w s).dep<=j
 | .nil,_,_=>by show max w.dep 0<=j;omega
 | .st _ _ c r,o,h=>by let h:max c.dep r.dep<=j:=h;let:=ZW (n:=n) (hs:=hs) H (s:=r) o.2 LN;show max c.dep (Sk.put n hs w r).dep<=j;omega
theorem wn:∀{s:Sk} {x:List V},s.ok ν->mE H s .non x->x.length<=s.size
 | .nil,_,_,e=>by let e:_=[]:=e;rw[e];exact Mx 0
 | .st _ _ w r,_,o,z=>by let⟨_,_,_,y,e,_,_,_,h⟩:=z;let:=wn o.2 h;rw[e];show y.length+1<=w.size+r.size+1;omega
def IZ(H:Hp)(f:π)(i:List Int)(s:Sk)(a:Int)(u:V):Prop:=∃c g e S,u= .ref c/\H c=δ (.tup [.str f,.ref g,.ref e,.int a])/\H g=δ (.tup$ i.map tT)/\H e=δ (.tup S)/\mE H s .non S
def Sk.wh:Sk->Wh
 | .ask b=>.ask b
 | .rd c i=>.rd c i
 | .wr c i=>.wr c i
 | .cl f I _ a=>.cl f I a
 |_=>.ask 0
def IY{s:Sk}(o:s.ok μ)(h:mE H s u []):Co H u s.wh:=by
 cases s with
 |nil |st=>exact o.elim
 |ask b |rd c i |wr c i=>exact h
 |cl f I s a=>let⟨p,c,g,e,S,E,d,j,k,_⟩:=h;exact#[p,c,g,.ref e,E,d,j,k]
inductive Gd where
 |give (a:Int) |go (n:Nat) (hs:List Int)
def dh(N:Nat->List π)(k:aE):Gl->Gd
 | .give _ T=>.give (T.ev k)
 | .nought=>.give 0
 | .go n=>.go n ((N n).map λx=>look k (.inr x) 0)
structure Ci where
 nm:List π
 e:DD
 ws:List WD
structure fh where
 f:π
 ps:List π
 way:WD
 cs:List Ci
structure Hw(H:Hp)(ys:List π)(nA:ε)(d:Df)(c:Ct)(cd:Ci):Prop where
 nm:cd.nm=canon c.M
 ed:cd.e.dd=c.d
 dv:A6 H ys cd.e
 cs:cd.e.Cs d.b.calls
 len:cd.ws.length=c.ws.length
 ws:∀(j:Nat) (w:Wy) (wd:WD),c.ws[j]?=δ w->cd.ws[j]?=δ wd->wd.wy nA=w/\nJ H ys d.b.cuts d.b.size wd
structure Bg(H:Hp)(nA:ε)(d:Df)(ys:List π)(pd:fh):Prop where
 f:pd.f=d.f
 ps:H d.pa=δ (.tup$ pd.ps.map ti)
 wy:pd.way.wy nA=(gJ nA d).1.w
 wv:nJ H ys d.b.cuts d.b.size pd.way
 len:pd.cs.length=(bH nA d).length
 cs:∀(n:Nat) (c:Ct) (cd:Ci),(bH nA d)[n]?=δ c->pd.cs[n]?=δ cd->Hw H ys nA d c cd
def Hw.mono(k:aj H f)(h:Hw H y n d c C):Hw f y n d c C:=#[h.nm,h.ed,h.dv.mono k,h.cs,h.len,λj w W a b=>let #[e,v]:=h.ws j w W a b;#[e,v.mono k]]
def Bg.mono(k:aj H e)(h:Bg H N d y p):Bg e N d y p:=#[h.f,k _ _ h.ps,h.wy,h.wv.mono k,h.len,λn c C a b=>(h.cs n c C a b).mono k]
def nV(p:fh)(n:Nat):List π:=match p.cs[n]? with
 |some c=>c.nm
 |none=>[]
def Bg.nms(h:Bg H N d y p):d9 N d=nV p:=by
 funext n;unfold d9 nV;by_cases a:n < p.cs.length
 .let b:n < (bH N d).length:=by rw[<- h.len];exact a
  rw[Mw a,Mw b];exact(h.cs n _ _ (Mw b)$ Mw a).nm.symm
 .rw[NG$ PZ a,NG (by rw[<- h.len];exact PZ a)]
inductive OW where
 |ok (w:Sk) (L:aE) (t:Nat) |long |deep
inductive OC where
 |ok (s:Sk) (a:Int) (L:aE) (t:Nat) |long |deep
def OC.cons(n:Int)(h:List Int)(w:Sk):OC->OC
 | .ok s a L t=>.ok (.st n h w s) a L t
 | .long=>.long
 | .deep=>.deep
def Sk.app:Sk->Sk->Sk
 | .st n h w r,s=>.st n h w (r.app s)
 |_,s=>s
def OC.pre(S:Sk):OC->OC
 | .ok s a L t=>.ok (S.app s) a L t
 | .long=>.long
 | .deep=>.deep
theorem Yl:∀{s:Sk},s.ok ν->s.app .nil=s
 | .nil,_=>rfl
 | .st n h w r,o=>by show Sk.st n h w (r.app .nil)=_;rw[Yl o.2]
theorem ZX{w:Sk}:∀{s:Sk},s.ok ν->(Sk.put n h w s).app q=s.app (.st n h w q)
 | .nil,_=>rfl
 | .st a b c r,o=>by show Sk.st a b c ((Sk.put n h w r).app q)=Sk.st a b c (r.app (.st n h w q));rw[ZX o.2]
def vj{w s:Sk}(o:OC)(h:s.ok ν):(o.cons n H w).pre s=o.pre (Sk.put n H w s):=by
 cases o with
 |ok q a L t=>show OC.ok (s.app (.st n H w q)) a L t= .ok ((Sk.put n H w s).app q) a L t;rw[ZX h]
 |long |deep=>rfl
abbrev xo:=π->List Int->aE->Nat->OC
def OC.cl(f:π)(i:List Int):OC->OW
 | .ok s a L t=>.ok (.cl f i s a) L t
 | .long=>.long
 | .deep=>.deep
def mG(M:Nat)(call:xo)(C:aE)(k L:aE)(t:Nat)(e:DD):OW:=if t < M then match e with
 | .ask _ T=>.ok (.ask (if T.ev k=0 then 0 else 1)) L (t+1)
 | .st _ (.rd _ _ T)=>.ok (.rd (T.ev k) (look L (.inl (T.ev k)) (look C (.inl (T.ev k)) 0))) L (t+1)
 | .st _ (.wr _ _ T U)=>.ok (.wr (T.ev k) (U.ev k)) (aD L (.inl (T.ev k)) (.int (U.ev k))) (t+1)
 | .st _ (.cl _ f _ a)=>(call f (a.map λc=>c.2.ev k) L (t+1)).cl f (a.map λc=>c.2.ev k)
 |_=>.long
 else .long
def Kx{call:xo}(h:¬t < M):mG M call C k L t e= .long:=by unfold mG;rw[MS h]
def Xv{call:xo}(h:t < M):mG M call C k L t (.ask p T)= .ok (.ask (if T.ev k=0 then 0 else 1)) L (t+1):=by unfold mG;rw[MQ h]
def Bm{call:xo}(h:t < M):mG M call C k L t (.st p$ .rd x a T)= .ok (.rd (T.ev k)$ look L (.inl$ T.ev k)$ look C (.inl$ T.ev k) 0) L (t+1):=by unfold mG;rw[MQ h]
def Bn{call:xo}(h:t < M):mG M call C k L t (.st p$ .wr a b T U)= .ok (.wr (T.ev k)$ U.ev k) (aD L (.inl$ T.ev k)$ .int$ U.ev k) (t+1):=by unfold mG;rw[MQ h]
def Kc{call:xo}(h:t < M):mG M call C k L t (.st p$ .cl x f q T)=(call f (T.map λc=>c.2.ev k) L$ t+1).cl f (T.map λc=>c.2.ev k):=by unfold mG;rw[MQ h]
def oN(p:fh)(c:Ci)(h:List Int)(w:Wh):Gd:=match c.ws[w.side]? with
 |some W=>dh (nV p) (bo W.sets (pJ c.e w (aS c.nm h))) W.goal
 |none=>.give 0
def fi(M:Nat)(call:xo)(C:aE)(p:fh):Nat->Gd->aE->Nat->OC
 |0,_,_,_=>.long
 |_+1,.give a,L,t=>.ok .nil a L t
 |m+1,.go n h,L,t=>match p.cs[n]? with
  |none=>.long
  |some c=>match mG M call C (aS c.nm h) L t c.e with
   | .ok w l T=>(fi M call C p m (oN p c h w.wh) l T).cons (n:Int) h w
   | .long=>.long
   | .deep=>.deep
def dP:List fh->π->Option fh
 | [],_=>ζ
 |p::r,f=>if p.f=f then δ p else dP r f
theorem ZY:∀{b:List fh} {i:Nat} {a:fh},b[i]?=δ a->(∀(j:Nat) (p:fh),j < i->b[j]?=δ p->p.f≠a.f)->dP b a.f=δ a
 | [],i,a,h,_=>by simp at h
 |p::r,0,a,h,_=>by cases h;show(if p.f=p.f then δ p else _)=_;rw[MQ Z]
 |p::r,i+1,a,h,k=>by show(if p.f=a.f then δ p else dP r a.f)=_;rw[MS$ k 0 p (Nat.succ_pos _) Z];exact ZY (i:=i) (by simpa using h) λj q H c=>k (j+1) q (Nat.succ_lt_succ H) (by simpa using c)
def bY(M:Nat)(p:List fh)(C:aE):Nat->xo
 |0=>λ_ _ _ _=>.deep
 |j+1=>λf i L t=>match dP p f with
  |none=>.long
  |some a=>fi M (bY M p C j) C a (M+2) (dh (nV a) (bo a.way.sets (aS a.ps i)) a.way.goal) L t
structure Ps(H:Hp)(nA pA:ε)(ds:List Df)(ns:List Nat)(xs:List V)(pds:List fh):Prop where
 at':H pA=δ (.tup xs)
 tr:bh H (aU$ ds.map$ fX nA) .non xs
 dv:∃zs,b6 H ds zs
 ok:lI ds ns
 pa:i8 H ds ns
 dl:pds.length=ds.length
 pr:∀(i:Nat) (d:Df) (pd:fh),ds[i]?=δ d->pds[i]?=δ pd->∃ys,(d.b.Ok ys/\ys.length<=20)/\Bg H nA d ys pd
def Ps.mono(h:Ps H n c D N x p)(k:aj H e):Ps e n c D N x p:=#[k _ _ h.at',h.tr.mono k,let #[f,z]:=h.dv;#[f,z.mono k],h.ok,h.pa.mono k,h.dl,λi d g a b=>let #[Y,y,r]:=h.pr i d g a b;#[Y,y,r.mono k]]
def ZZ(h:bh H (fX n d) v []):Bc H v d.f:=by obtain⟨_,a,x,rfl,b,_,_,Y,y,rfl,⟨rfl,_⟩,_⟩:=h;exact#[a,_,Z,b]
theorem Bp:∀{D:List Df} {z:List V},b6 H D z->∀{i:Nat} {d:Df},D[i]?=δ d->∃B,de H d.b B
 |_::_,_,q,0,d,a=>by obtain⟨u,r,e,⟨B,_,_,_,h⟩,c⟩:=q;cases a;exact#[B,h]
 |_::_,_,#[u,r,e,_,c],i+1,d,a=>Bp c (by simpa using a)
section
variable {H:Hp}{nA pA:ε}{ds:List Df}{ns:List Nat}{xs:List V}{pds:List fh}
def Ps.part(h:Ps H nA pA ds ns xs pds){i:Nat}{d:Df}{v:V}(b:ds[i]?=δ d)(q:xs[i]?=δ v):∃y c,oG H nA d y v/\pds[i]?=δ c/\Bg H nA d y c/\dP pds d.f=δ c:=by
 let⟨T,n,t⟩:=JW h.tr i v q;rw[MK,b]at n;cases n;let⟨z,r⟩:=h.dv;let⟨_,_,s⟩:=(h.ok.1 d$ ML b).1;let u:i < ds.length:=(χ.mp b).1;let g:pds[i]?=δ (pds[i]'(by rw[h.dl];exact u)):=Mw _;obtain⟨y,⟨O,Y⟩,k⟩:=h.pr i d _ b g;erw[#[y,_,#[t,Bp r b,O,Y,s],g,k,?_]];rw[<- k.f];erw[ZY g λj p A l e=>?_];let a:j < ds.length:=by omega
 let⟨_,_,m⟩:=h.pr j _ p (Mw a) l;rw[m.f,k.f]at e;let x:(ds.map Df.f)[j]?=δ (ds[j]).f:=by rw[MK,Mw a];rfl
 let o:(ds.map Df.f)[i]?=δ d.f:=by rw[MK,b];rfl
 rw[<- e]at o;let:=(T7 (by rw[Mv];exact a) h.ok.2.1).mp (x.trans o.symm);omega
def Ps.cs(h:Ps H nA pA ds ns xs pds){i:Nat}{d:Df}(a:ds[i]?=δ d):∀f∈d.b.calls,f∈(ds.map Df.f).zip ns:=zX (h.ok.1 d$ ML a).2
def Ps.at(h:Ps H nA pA ds ns xs pds){i:Nat}{d:Df}(b:ds[i]?=δ d):∃v,xs[i]?=δ v/\bh H (fX nA d) v []/\Bc H v d.f/\∀j x,j < i->xs[j]?=δ x->∃g,Bc H x g/\g≠d.f:=by
 let L:=zM h.tr;rw[Mv]at L;let r:i < ds.length:=(χ.mp b).1;let t:∀(j:Nat) (x:V),xs[j]?=δ x->∃c,ds[j]?=δ c/\bh H (fX nA c) x []:=λj x k=>by let⟨s,m,t⟩:=JW h.tr j x k;rw[MK]at m;let⟨c,a,rfl⟩:=em.mp m;exact#[c,a,t]
 let n:xs[i]?=δ (xs[i]'LN):=Mw LN;let⟨c,a,T⟩:=t _ _ n;rw[b]at a;cases a;erw[#[_,n,T,ZZ T,λj x u k=>?_]];let⟨c,a,q⟩:=t j x k;erw[#[c.f,ZZ q,λe=>?_]];let o:(ds.map Df.f)[j]?=δ c.f:=by rw[MK,a];rfl
 let p:(ds.map Df.f)[i]?=δ d.f:=by rw[MK,b];rfl
 rw[<- e]at p;let l:j < (ds.map Df.f).length:=(χ.mp o).1;let:=(T7 l h.ok.2.1).mp (o.trans p.symm);omega
def Ps.find(h:Ps H nA pA ds ns xs pds)(a:(f,n)∈(ds.map Df.f).zip ns):∃(i:Nat) (d:Df),ds[i]?=δ d/\ns[i]?=δ n/\d.f=f:=by
 let⟨i,b,e⟩:=kv.mp a;let E:((ds.map Df.f).zip ns)[i]?=δ (f,n):=by rw[<- e];exact Mw b
 rw[SM]at E;rw[MK]at E;let⟨d,c,g⟩:=em.mp E.1;exact#[i,d,c,E.2,g]
end
def Rn.tm(h:Rn H C r d E c l p m t L f)(k:aZ r l H a):aj H a:=λb x e=>k b _ (jE e h.ins (by intro z;cases z)) (jE e h.lf (by intro z;cases z)) e
def Rn.same(h:Rn H C r d e c l p m t L a)(s:af H b):Rn b C r d e c l p m t L a:=#[s _ _ h.ins,s _ _ h.lf,s _ _ h.ce,h.iL,h.iC,h.cl,h.tl,h.hm]
def Rn.rl(h:Rn H C r d e c l p m t L a):r≠l/\r≠c:=#[jE h.ins h.lf (by intro z;cases z),jE h.ins h.ce (by intro z;cases z)]
def EK(r l:ε)(H h:Hp):Prop:=∀b o,b≠r->b≠l->NX o->H b=δ o->h b=δ o
def Fl.next(h:Fl E L (EK r l H)):Fl (mJ E) L (EK r l H):=λd i k x T t c e a j f=>by cases e;exact h d _ λb o N g n e=>zA (H:=H) (k b o N g n e) n a f
def Fl.nextK(h:Fl E L (Kp H)):Fl (mJ E) L (Kp H):=λd g k x T t c e a i f=>by cases e;exact h d _ λb o n e=>zA (H:=H) (k b o n e) n a f
def Fl.mono{R S:Hp->Prop}(h:Fl E L R)(k:∀H,S H->R H):Fl E L S:=λd H s=>h d H (k H s)
inductive mn(C:ε)(e:List V)(H:Hp)(Q:VK)(a:XK):Prop
 |mk(r c d b:ε)(m:Int)(_:e=[.ref r,.ref d,.ref b,.int m])(_:H r=δ (.ins C c []))(_:∀lA,H lA=ζ->Q .non (upd (upd H lA (.dK [])) r (.ins C c (iI [] b lA d m 0))))
def nQ(A B:Prop)(E:XK)(T t:ε)(R:Hp->Prop):Prop:=(A->Fl E T R)/\(B->Fl E t R)
def nQ.mono{R S:Hp->Prop}(h:nQ A B E T t R)(k:∀H,S H->R H):nQ A B E T t S:=#[λa=>(h.1 a).mono k,λb=>(h.2 b).mono k]
def nQ.next(h:nQ A B E T t (EK r l H)):nQ A B (mJ E) T t (EK r l H):=#[λa=>(h.1 a).next,λb=>(h.2 b).next]
def nQ.imp{R:Hp->Prop}(h:nQ A B E T t R)(a:c->A)(b:d->B):nQ c d E T t R:=#[λx=>h.1 (a x),λx=>h.2 (b x)]
inductive dY(C g f q:ε)(j:Nat)(x:List V)(H:Hp)(Q:VK)(E:XK):Prop
 |mk(M:Nat)(r m:ε)(n:List (π×V))(k p w h:ε)(b t i:Nat)(L e:aE)(v:V)(d:Df)(l:List Df)(s:List Nat)(y:List V)(c:List fh)(o:List Int)(_:x=[.ref r,v,.ref h,.int (b:Int)])(_:b+j=16)(_:1<=j)(_:Rn H C r m n k p w M t L e)(_:L.length<=t)(_:t<=M)(_:Ps H q w l s y c)(_:l[i]?=δ d)(_:s[i]?=δ o.length)(_:y[i]?=δ v)(_:H h=δ (.tup (o.map tT)))(_:∀z∈o,dE z)(_:∀(u:V) (sk:Sk) (a:Int) (L':aE) (H':Hp),bY M c e j d.f o L t= .ok sk a L' (t+sk.size)->IZ H' d.f o sk a u->sk.ok ν->sk.dep+1<=j->dE a->Rn H' C r m n k p w M (t+sk.size) L' e->L'.length<=t+sk.size->t+sk.size<=M->aZ r p H H'->Q u H')(_:nQ (bY M c e j d.f o L t= .long) (bY M c e j d.f o L t= .deep) E g f (EK r p H))
inductive oy(C f d n:ε)(j:Nat)(q:List V)(H:Hp)(Q:VK)(E:XK):Prop
 |mk(M:Nat)(r i:ε)(l:List (π×V))(g m p:ε)(a t:Nat)(L c k:aE)(u:V)(e:DD)(x:List π)(h:List Df)(o:List Nat)(s:List V)(b:List fh)(_:q=[.ref r,u,.int (a:Int)])(_:a+j=15)(_:Rn H C r i l g m p M t L c)(_:L.length<=t)(_:t<=M)(_:Ps H n p h o s b)(_:bh H (Le k e) u [])(_:A6 H x e)(_:GT k)(_:e.Cs ((h.map Df.f).zip o))(_:∀(w:Sk) (v:V) (L':aE) (H':Hp),mG M (bY M b c j) c k L t e= .ok w L' (t+1+w.size)->mE H' w v []->w.ok μ->Hy e w.wh->w.dep<=j->Rn H' C r i l g m p M (t+1+w.size) L' c->L'.length<=t+1+w.size->t+1+w.size<=M->aZ r m H H'->Q v H')(_:nQ (mG M (bY M b c j) c k L t e= .long) (mG M (bY M b c j) c k L t e= .deep) E f d (EK r m H))
def Ea:ak z29z z29z (ae vt):=bQ
def yM(F:aM K "__init__" "BookRun.__init__" vt f p)(i:RK K C)(GT:⇑1 t c z28z (mw C))(B:au K c z28z [])(M:mg "Turns"=↑T)(u:Ce K T "__init__" t):⇑2 f p z29z (mn C):=by
 erw[F.ok Ea λv A o s H V Q E x h=>?_]
 let⟨r,d,y,j,m,rfl,pW,q⟩:=h;erw[#[_,(jd (jT$ @y4 _ _ _ _ _ _ _ _ _ _ _ _ _ _ _ _ _ _ _ _ Z M u GT x.m B .nil bu (ja (pv 0)$ ja (pv 2)$ ja (pv 3) jb) LO LK LK LK)$ jg$ @Jn _ _ _ _ _ _ _ _ (pv 0) (pv 1) Z),?_]];erw[ah λz l=>#[_,Z,_,Z,_,Z,r,d,[],j,m,Z,pW,λL N=>l _ _ ?_]];clear l;erw[#[_,Z,_,Z,r,C,d,_,Z,jc,i.cl,i.n5,(by show 4 < 1000;decide),?_]];let e:∀(g:Hp) (n O:HO),upd (upd g r n) r O=upd g r O:=λg n O=>by
  funext b;by_cases a:b=r
  .rw[a,jc,jc]
  .rw[ji a,ji a,ji a]
 rw[e];exact q L N
def XG(h:bh H (cp t) u []):∃a x,u= .ref a/\H a=δ (.tup x)/\bh H (aU t) .non x:=let #[_,a,x,e,b,c]:=h;#[a,x,e,b,c]
def qy(h:bh H (aU (t::T)) .non x):∃y Y,x=y::Y/\bh H t y []/\bh H (aU T) .non Y:=let #[_,_,y,Y,e,a,b]:=h;#[y,Y,e,a,b]
def Z0(h:bh H (dt x) y []):y= .str x:=h.1
def Ky(h:bh H (dH n) y []):y= .int n:=h.1
theorem Qb:∀{I:List Int} {v:List V},bh H (aU$ I.map dH) .non v->v=I.map tT
 | [],v,h=>h
 |i::I,v,h=>by let⟨y,Y,rfl,a,b⟩:=qy h;rw[Ky a,Qb b];rfl
def XH{H:Hp}{w:π}{t:List Tr}{u:V}(h:bh H (cp (dt w::t)) u []):∃a x,u= .ref a/\H a=δ (.tup (.str w::x))/\bh H (aU t) .non x:=by let⟨a,x,rfl,b,h⟩:=XG h;let⟨y,Y,rfl,c,d⟩:=qy h;rw[Z0 c]at b;exact#[a,Y,Z,b,d]
def Xw{H:Hp}{w:π}{i:Int}{u:V}(h:bh H (cp [dt w,dH i]) u []):∃a,u= .ref a/\H a=δ (.tup [.str w,.int i]):=by let⟨a,x,rfl,b,h⟩:=XH h;let⟨y,Y,rfl,c,d⟩:=qy h;let e:Y=[]:=d;rw[Ky c,e]at b;exact#[a,Z,b]
def wW{H:Hp}{w:π}{i:Int}{t:Tr}{u:V}(h:bh H (cp [dt w,dH i,t]) u []):∃a y,u= .ref a/\H a=δ (.tup [.str w,.int i,y])/\bh H t y []:=by let⟨a,x,rfl,b,h⟩:=XH h;let⟨y,Y,rfl,c,d⟩:=qy h;let⟨z,f,rfl,g,j⟩:=qy d;let e:f=[]:=j;rw[Ky c,e]at b;exact#[a,z,Z,b,g]
def GX:ak z23z z23z (ae Aj):=bQ
def Dt(F:aM K "what_of" "BookRun.what_of" Aj f fd)(ck:RK K C)(GT:ai P w K mg base (eI P w) 1 fT f0 ["self"] (i6 C TL))(bT:au K f0 ["self"] [])(m0:cq K C "take_turn" fT)(GI:⇑1 fI f2 ["self","cell"] (g9 C))(bI:au K f2 ["self","cell"] [])(m1:cq K C "number_in" fI)(GD:ai P w K mg base (eI P w) 1 fD f3 ["deep"] (eY TD))(bD:au K f3 ["deep"] [])(kD:fx K (.ref fD)=ν)(mD:mg "deeper"=↑fD)(cP:‹2› fP f6 ["parts","f"] mj "part_of")(GC:ai P w K mg base (eI P w) (2*j+12) fC f4 z13z (dY C TL TD nA j))(bC:au K f4 z13z [])(m2:cq K C "chain_of" fC):ai P w K mg base (eI P w) (2*j+13) f fd z23z (oy C TL TD nA j):=by
 erw[F.ok1 GX λc5 A o2 s H vs Q E hr h=>?_]
 symm;let⟨M,r,I,Y,cA,N,W,O,t,L,Cs,k,u,e,ys,ds,ns,xs,p1,rfl,h4,D,h5,ht,hP,J,h0,hk,h1,q,t0⟩:=h;erw[#[_,(jd (jT$ u7 (pv 0) ck.cl m0 GT hr.m bT .nil zu)$ jd (jx (jZ$ jy$ pv 1) (jg$ jm$ jh$ ja jj$ ja (jy$ pv 1)$ ja (zn (pv 0) ck.cl m1 GI hr.m bI .nil bu$ ja (jy$ pv 1) jb) jb) jo)$ jd (jx (jZ$ jy$ pv 1) (jg$ jm$ jh$ ja jj$ ja (zn (pv 0) ck.cl m2 GC hr.m bC .nil zu$ ja (cP.e hr.m$ ja (zQ (pv 0) Z)$ ja (jy$ pv 1) jb)$ ja (jy$ pv 1)$ ja (kf GD hr.m Z mD kD bD .nil zu$ ja (pv 2) jb) jb) jb) jo)$ jd (jx (jZ$ jy$ pv 1) (jg$ za (jR hr) (zQ (pv 0) Z) (jy$ pv 1) (jy$ pv 1) Z) jo)$ jg$ jm$ pv 1),?_]];let b0:=aJ;let hM:=D.hm;sleep 4;erw[ah λF1 B=>#[_,Z,r,I,_,Z,D.ins,D.tl.t,r,I,Y,cA,N,W,M,t,Z,D.ins,D.tl,λlt=>B _ _ ?_,λge=>((t0.1$ Kx LN).mono λH' kk=>λb o _ _ nx e=>kk b o nx e).nextK]];clear B;left;let t1:aj H (upd H r$ .ins C I$ iI Y cA N W M$ t+1):=λb xs e=>by rw[ji$ jE e D.ins (by intro z;cases z)];exact e
 let R:Rn (upd H r$ .ins C I$ iI Y cA N W M$ t+1) C r I Y cA N W M (t+1) L Cs:=#[jc,by rw[ji D.rl.1.symm];exact D.lf,by rw[ji D.rl.2.symm];exact D.ce,D.iL,D.iC,D.cl,D.tl,D.hm];let k1:aZ r N H (upd H r$ .ins C I$ iI Y cA N W M$ t+1):=λb o n1 n2 e=>by rw[ji n1];exact e
 generalize upd H r (.ins C I$ iI Y cA N W M$ t+1)=H1 at t1 R k1;let J:=J.mono t1;let lt':t+1<=M:=by omega
 let f5:∀(w:Sk) (xs:List V) (X:Hp) (v:ε),X v=ζ->mE (upd X v$ .tup xs) w (.ref v) []->w.ok μ->mG M (bY M p1 Cs j) Cs k L t e= .ok w L (t+1)->Hy e w.wh->w.size=0->w.dep<=j->H1=X->Q (.ref v) (upd X v$ .tup xs):=λw xs X v nv hw ok eq ft sz dp e2=>by subst e2;exact q w _ L _ (by rw[sz];exact eq) hw ok ft dp (by rw[sz];exact R.same$ je nv) LN LN$ k1.trans$ aZ.of_same$ je nv
 symm;cases e with
 |ask ta T=>
  let⟨p,rfl,G⟩:=Xw J;erw[ah λF1 B=>(jq G Z #[Z,_,Z,aI LL$ B _ _ ?_])];clear B;left;erw[ah λF1 B=>(jq G Z #[Z,_,Z,aI LL$ B _ _ ?_])];clear B;left;erw[ah λF1 B=>(jq G Z #[Z,_,Z,aI LL$ B _ _ ?_])];clear B;left;erw[#[_,Z,q (.ask (if T.ev k=0 then 0 else 1)) _ L _ (Xv LN) #[p,Z,G] trivial ?_ (MH _) R (by show L.length<=t+1+0;omega) lt' k1]];show(if T.ev k=0 then (0:Int) else 1)=0∨(if T.ev k=0 then (0:Int) else 1)=1;split
  .exact .inl Z
  .exact .inr Z
 |st p0 l=>
  let⟨vs,_,h6,o1,c0⟩:=h0;cases l with
  |gv ta T |st x ta T=>cases c0
  |rd x ta T=>let⟨p,rfl,G⟩:=Xw J;sleep 3;erw[ah λF1 B=>(jq G Z #[Z,_,Z,bJ LL$ jq G Z #[_,Z,r,I,_,Z,R.ins,R.tl.n,jq G Z #[r,I,Y,cA,N,W,M,_,_,_,_,Z,R,eJ,λv nv=>?_]]])];exact f5 (.rd (T.ev k)$ look L (.inl$ T.ev k)$ look Cs (.inl$ T.ev k) 0) _ _ v nv #[v,Z,jc] trivial (Bm LN) (JD R.iL$ JD R.iC Ja) Z (MH _) Z
  |wr ta ub T U=>
   let⟨p,y,rfl,G,hy⟩:=wW J;right;rw[Ky hy]at G;sleep 3;erw[ah λF1 B=>(jq G Z #[Z,_,Z,aI LL$ B _ _ ?_])];clear B;left;erw[ah λF1 B=>(jq G Z #[Z,_,Z,aI LL$ B _ _ ?_])];clear B;left;erw[ah λF1 B=>(jq G Z #[Z,_,Z,bJ LL$ jq G Z #[_,Z,r,C,I,_,_,Z,R.ins,ck.cl,ck.n3,Z,jq G Z #[N,_,Z,gc.k (k:=.inl (T.ev k)) R.lf LN,B _ _ ?_]]])];clear B;left;let pl:=JL (kvs:=L) (k:=.inl (T.ev k)) (v:=.int (U.ev k));let t3:aj H1 (upd H1 N$ .dK$ aD L (.inl$ T.ev k)$ .int$ U.ev k):=λb xs e=>by rw[ji$ jE e R.lf (by intro z;cases z)];exact e
   erw[#[_,Z,q (.wr (T.ev k)$ U.ev k) _ (aD L (.inl$ T.ev k)$ .int$ U.ev k) _ (Bn LN) #[p,Z,t3 _ _ G] trivial trivial (MH _) #[by rw[ji D.rl.1];exact R.ins,jc,by rw[ji D.cl];exact R.ce,R.iL.put _$ z9 hk o1.2.1,R.iC,R.cl,R.tl,R.hm] (by show _<=t+1+0;omega) lt' λb o n1 n2 e=>?_]];rw[ji n2];exact k1 b o n1 n2 e
  |cl x f q' ts=>
   let⟨p,y3,rfl,G,hy⟩:=XH J;let⟨y1,y5,rfl,e1,hy⟩:=qy hy;let⟨y2,y0,rfl,e2,hy⟩:=qy hy;let e3:y0=[]:=hy;subst e3;right;rw[Z0 e1]at G;symm;let⟨ag,a0,rfl,ha,S⟩:=XG e2;let S:bh H1 (aU ((ts.map λc=>c.2.ev k).map dH)) .non a0:=by rw[NJ];exact S
   right;rw[Qb S]at ha;symm;let⟨i,d,hd,hn,rfl⟩:=hP.find h1;let P1:=hP.mono t1;let⟨v,hv,_,h2,h3⟩:=P1.at hd;sleep 3;erw[ah λF1 B=>(jq G Z #[Z,_,Z,aI LL$ B _ _ ?_])];clear B;left;erw[ah λF1 B=>(jq G Z #[Z,_,Z,bJ LL ?_])];clear B;left;erw[#[_,Z,r,I,_,Z,R.ins,R.tl.c,_,Z,r,C,I,_,_,Z,R.ins,ck.cl,ck.n5,Z,jq G Z #[W,d.f,xs,i,v,Z,P1.at',hv,h2,h3,jq G Z #[_,Z,(O:Int),Z,λdl=>?_,λdg=>((t0.2 (by let z:j=0:=LN;rw[Kc LN,z];rfl)).mono λX kk=>λb o n1 n2 nx e=>kk b o nx (k1 b o n1 n2 e)).nextK]]]];erw[#[M,r,I,Y,cA,N,W,ag,O+1,t+1,i,L,Cs,v,d,ds,ns,xs,p1,ts.map λc=>c.2.ev k,Z,LN,LN,R,LN,lt',P1,hd,by rw[Mv];exact hn,hv,ha,λz hz=>?_,λu sk a L' X eq hc ok dp ia R2 l2 t2 k2=>?_,nQ.next ((t0.imp (λz=>by rw[Kc LN,z];rfl) (λz=>by rw[Kc LN,z];rfl)).mono λX kk=>λb o n1 n2 nx e=>kk b o n1 n2 nx (k1 b o n1 n2 e))]]
   .symm;let⟨c,hc,rfl⟩:=bS.mp hz;exact z9 hk (o1.2.2 c hc).1
   .symm;let⟨c,g,ee,ss,rfl,c1,c2,c3,c4⟩:=hc;erw[#[bg,λv2 nv=>?_]];let s2:af X (upd X v2$ .tup [.str "call",.ref c]):=je nv;erw[q (.cl d.f (ts.map λc=>c.2.ev k) sk a) _ L' _ (by rw[Kc LN,eq];rfl) #[v2,c,g,ee,ss,Z,jc,s2 _ _ c1,s2 _ _ c2,s2 _ _ c3,c4.mono$ af.tm s2] ok ia (by show sk.dep+1<=j;omega) (R2.same s2) l2 t2 ((k1.trans k2).trans$ aZ.of_same s2)]
def Cr:dM (s++[x]) (-1)=δ x:=by
 let l:(s++[x]).length=s.length+1:=by rw[Mz];rfl
 unfold dM nK;rw[l,MS LN,MQ LN];let e:(-1+((s.length+1:Nat):Int)).toNat=s.length:=by omega
 show(s++[x])[(-1+((s.length+1:Nat):Int)).toNat]?=_;rw[e];simp
inductive Hz(H:Hp)(nA:ε)(d:Df)(u:V):Gd->Prop
 |give (p:ε) (a:Int) (e:u= .ref p) (h:H p=δ (.tup [.str "give",.int a])) (i:dE a):Hz H nA d u (.give a)
 |go (p hv:ε) (n:Nat) (c:Ct) (is:List Int) (e:u= .ref p) (h:H p=δ (.tup [.str "go",.int (n:Int),.ref hv])) (h2:H hv=δ (.tup (is.map tT))) (hc:(bH nA d)[n]?=δ c) (hl:is.length=(canon c.M).length) (hi:∀i∈is,dE i):Hz H nA d u (.go n is)
def um{H:Hp}(h:bh f (uk (d9 N d) k g) u [])(j:GT k)(l:ER H Y d.b.cuts g):Hz f N d u (dh (d9 N d) k g):=by
 cases g with
 |give t T=>let⟨p,e,h⟩:=Xw h;exact .give p _ e h (z9 j l.2.1)
 |nought=>let⟨p,e,h⟩:=Xw h;exact .give p 0 e h Ja
 |go n=>
  let⟨p,y,e,h,q⟩:=wW h;let⟨a,X,rfl,m,c⟩:=XG q;let r:n < (bH N d).length:=by rw[ZR];exact l
  let o:(bH N d)[n]?=δ (bH N d)[n]:=Mw r;let c:bh f (aU (((d9 N d n).map λx=>look k (.inr x) 0).map dH)) .non X:=by rw[NJ];exact c
  rw[Qb c]at m;erw[.go p a n _ _ e h m o (by rw[Mv,uD o]) λi s=>?_];let⟨x,_,rfl⟩:=bS.mp s;exact JD j Ja
inductive CI(M:Nat)(a:xo)(N:fh)(h:OC)(C r o:ε)(E:List (π×V))(n G K l P I:ε)(b t j:Nat)(i:aE)(v:V)(d:Df)(H:Hp)(F:Nat)(R:_L.St)(k:Hp):Prop
 |mk(J:Option V)(u:V)(g:Gd)(m:Nat)(O:Sk)(Q:List V)(L:aE)(p:R=[↑r,δ v,↑l,δ (.int (b:Int)),↑P,δ u,J])(q:k P=δ (.lst Q))(s:mE k O .non Q)(w:O.ok ν)(x:O.dep+1<=j)(y:Hz k I d u g)(z:Rn k C r o E n G K M (t+O.size) L i)(A:L.length<=t+O.size)(B:t+O.size<=M)(D:aZ r G H k)(c:F+t+O.size=M+1)(e:(fi M a i N m g L (t+O.size)).pre O=h)(f:M+2<=m+(t+O.size))
def mO:ak ["self","part","args","deep","steps","goal","what"] z13z (ae Ai):=bQ
def Dq(F:aM K "chain_of" "BookRun.chain_of" Ai f fd)(ck:RK K C)(cF:‹9› fF f2 ["part","args"] (gZ nA) "first_of")(cD:‹9› fD f3 z12z (gY nA) "deed_at")(cO:‹9› fO f4 ["part","step"] (wu nA) "onward")(GW:ai P w K mg base (eI P w) (2*j+13) fW f0 z23z (oy C TL TD nA j))(bW:au K f0 z23z [])(m0:cq K C "what_of" fW)(m1:mg "tuple"=ζ):ai P w K mg base (eI P w) (2*j+14) f fd z13z (dY C TL TD nA$ j+1):=by
 erw[F.ok1 mO λc3 A o2 s H vs Q E hr h=>?_]
 symm;let⟨M,r,dx,ex,cA,lA,pA,ag,U,t,i,L,y,v,d,ds,ns,xs,x,is,rfl,b4,_,hR,a0,ht,hP,hd,hn,hv,ha,h3,q,t4⟩:=h;erw[#[_,(jd (jz 4 mO.nd$ jD jb)$ jd (jz 5 mO.nd$ cF.e hr.m$ ja (pv 1)$ ja (pv 2) jb)$ jd (K8 PassesOwn.leaving (jZ$ jy$ pv 5)$ jd (jz 6 mO.nd$ zn (pv 0) ck.cl m0 GW hr.m bW .nil zu$ ja (cD.e hr.m$ ja (pv 1)$ ja (jy$ pv 5)$ ja (jy$ pv 5) jb)$ ja (pv 3) jb)$ jd (jT$ zh PySem.F.plainAttrs_list PySem.F.slot_list_append PySem.F.type_list_append jQ (pv 4)$ ja (jh$ ja (jy$ pv 5)$ ja (jy$ pv 5)$ ja (pv 6) jb) jb)$ jg$ jz 5 mO.nd$ cO.e hr.m$ ja (pv 1)$ ja (jr jp (pv 4) (X0 KM jf) (λ_ _=>Z)) jb)$ jg$ jm$ jh$ ja (jy$ pv 1)$ ja (pv 2)$ ja (jC jG Z m1 boot_tuple$ ja (pv 4) jb)$ ja (jy$ pv 5) jb),?_]];let b5:=aJ;let hM:=hR.hm;symm;let⟨ys,g,h1,b9,pr,a1⟩:=hP.part hd hv;let⟨ps,h4,a2,a3⟩:=hP.pa.2 i d _ hd hn;let e3:ps=g.ps:=by let z:=h4.symm.trans pr.ps;injection z with z;injection z with z;exact(List.map_inj_right λa b e=>by injection e).mp z
 subst e3;let e0:bY M x y (j+1) d.f is L t=fi M (bY M x y j) y g (M+2) (dh (nV g) (bo g.way.sets$ aS g.ps is) g.way.goal) L t:=by show(match dP x d.f with |none=>OC.long |some g=>fi M (bY M x y j) y g (M+2) (dh (nV g) (bo g.way.sets$ aS g.ps is) g.way.goal) L t)=_;rw[a1]
 right;generalize bY M x y (j+1) d.f is L t=X at q t4 e0;sleep 3;erw[ah λF1 J=>#[pC,λS Y=>J _ _ ?_]];clear J;left;let s1:af H (upd H S$ .lst []):=je Y;let l1:upd H S (.lst []) S=δ (.lst []):=jc;generalize upd H S (.lst [])=H1 at s1 l1 ⊢;let e4:=pr.wy;let h2:=pr.wv;erw[ah λF1 J=>#[_,Z,_,Z,v,ag,d,ys,g.ps,is,g.way,Z,h1.mono$ af.tm s1,s1 _ _ h4,LN,s1 _ _ ha,a2.symm,h3,e4,h2.mono$ af.tm s1,λu H2 hu s2=>J _ _ ?_]];clear J;left;let S2:=s1.trans s2;let gz:GT (aS g.ps is):=KY h3;let g0:=um (H:=H) hu (JE h2.sets gz) h2.goal;rw[pr.nms]at g0;let s0:S≠r:=Ne.symm (jk hR.ins Y);let s3:S≠lA:=Ne.symm (jk hR.lf Y);let s9:cA≠S:=jk hR.ce Y;erw[ah λF1 J=>?_];erw[oC (CI M (bY M x y j) g X C r dx ex cA lA pA ag S nA U t (j+1) y v d H) (M+1 - t) #[ζ,u,_,M+2,.nil,[],L,Z,s2 _ _ l1,Z,trivial,by show 0+1<=j+1;omega,g0,hR.same S2,a0,ht,aZ.of_same S2,by show M+1 - t+t+0=M+1;omega,by rw[e0];show OC.pre .nil (fi M (bY M x y j) y g (M+2) _ L t)=_;cases fi M (bY M x y j) y g (M+2) (dh (nV g) (bo g.way.sets$ aS g.ps is) g.way.goal) L t<;>rfl,by show M+2<=M+2+(t+0);omega] ?_];intro kk σ H3 E' rt fE F kT cF.k Gq kq hW;symm;let⟨o6,u,gd,m,N,R,L1,rfl,w1,w2,w3,w4,w5,w6,w7,w8,w9,b',W,c4⟩:=hW;obtain⟨m,rfl⟩:∃m',m=m'+1:=#[m - 1,LN];let t0:=hR.tm w9;let P3:=hP.mono t0;cases w5 with
 |give p a e h5 ia=>subst e;erw[kq$ jq h5 Z #[Z,_,Z,?_]];rw[show decide (ti (Str.ofString "give")=ti (Str.ofString "go"))=μ by decide+kernel];erw[cF.k _$ J _ _ ?_];symm;let⟨pa,ca,wv,cs,e,h7,_⟩:=(h1.mono t0).parts;subst e;erw[(jq h7 Z #[_,Z,_,Z,S,R,Z,.inl #[aF.of w1,λl2 n0=>?_]])];let s4:af H3 (upd H3 l2$ .tup R):=je n0;erw[(jq (s4 _ _ h5) Z #[wE,λv2 nv=>?_])];let s5:=s4.trans (je (o:=.tup [.str d.f,.ref ag,.ref l2,.int a]) nv);let S5:aZ r lA H (upd (upd H3 l2$ .tup R) v2$ .tup [.str d.f,.ref ag,.ref l2,.int a]):=w9.trans (aZ.of_same s5);let W:OC.ok (N.app .nil) a L1 (t+N.size)=X:=W;rw[Yl w3]at W;exact q _ N a L1 _ W.symm #[v2,ag,l2,R,Z,jc,hR.tm S5 _ _ ha,am jc nv,w2.mono$ af.tm s5] w3 w4 ia (w6.same s5) w7 w8 S5
 |go p D n c hs e h5 h6 hc hl hi=>
  subst e;erw[kq$ jq h5 Z #[Z,_,Z,?_]];rw[show decide (ti (Str.ofString "go")=ti (Str.ofString "go"))=ν by decide+kernel];erw[kT _ ?_];clear kT cF.k J;let P0:=h1.mono t0;symm;let⟨pa,ca,wv,cs,e9,h7,_,_,a4⟩:=P0.parts;let⟨ka,na,wa,dv,c5,_,c1⟩:=P0.cut a4 hc;let a':n < g.cs.length:=by rw[pr.len];exact(χ.mp hc).1
  obtain⟨cd,h8⟩:∃cd,g.cs[n]?=δ cd:=#[_,lq a'];let cr:=(pr.cs n c cd hc h8).mono t0;let⟨c2,e,c0⟩:=cd;let⟨e1,ed,d0,e5,HR,b0⟩:=cr;let e1:c2=canon c.M:=e1;subst e1;let W:OC.pre N (match g.cs[n]? with
   |none=>OC.long
   |some c=>match mG M (bY M x y j) y (aS c.nm hs) L1 (t+N.size) c.e with
    | .ok w L1 t1=>(fi M (bY M x y j) y g m (oN g c hs w.wh) L1 t1).cons (n:Int) hs w
    | .long=>.long
    | .deep=>.deep)=X:=W
  right;rw[h8]at W;let W:OC.pre N (match mG M (bY M x y j) y (aS (canon c.M) hs) L1 (t+N.size) e with
    | .ok w L1 t1=>(fi M (bY M x y j) y g m (oN g #[canon c.M,e,c0] hs w.wh) L1 t1).cons (n:Int) hs w
    | .long=>.long
    | .deep=>.deep)=X:=W
  let gk:GT (aS (canon c.M) hs):=KY hi;sleep 2;erw[ah λF1 J=>#[_,Z,r,dx,_,Z,w6.ins,w6.tl.w,_,Z,jq h5 Z$ jq h5 Z #[v,n,D,d,ys,c,hs,e,Z,P0,hc,h6,hl,hi,ed,d0,λud H4 b1 s4=>?_]]];let t8:=t0.trans (af.tm s4);erw[#[_,Z,M,r,dx,ex,cA,lA,pA,U,t+N.size,L1,y,aS (canon c.M) hs,ud,e,ys,ds,ns,xs,x,Z,LN,w6.same s4,w7,w8,hP.mono t8,b1,d0.mono$ af.tm s4,gk,?_,λw uw L' H5 e7 hw o1 ft d1 R5 l5 t5 k5=>J _ _ ?_,?_]]
  .symm;cases e with
   |ask=>right;trivial
   |st p0 l=>cases l<;>first |trivial |exact hP.cs hd _ e5
  .clear J;left;let K5:aZ r lA H3 H5:=(aZ.of_same s4).trans k5;let t6:aj H3 H5:=w6.tm K5;let g5:=t6 _ _ h5;let w0:H5 S=δ (.lst R):=K5 _ _ s0 s3 w1;let l0:=wn w3 w2;erw[ah λF1 J=>#[_,Z,.inl #[Z,_,aF.of w0],jq g5 Z$ jq g5 Z #[_,Z,eJ,λO n3=>?_]]];let s6:af H5 (upd H5 O$ .tup [.int (n:Int),.ref D,uw]):=je n3;let e6:upd H5 O (.tup [.int (n:Int),.ref D,uw]) O=δ (.tup [.int (n:Int),.ref D,uw]):=jc;erw[#[S,_,_,Z,Z,s6 _ _ w0,LN,J _ _ ?_]];clear J;left;generalize upd H5 O (.tup [.int (n:Int),.ref D,uw])=H6 at s6 e6;let b7:ay S H6 (upd H6 S$ .lst$ R++[.ref O]):=λb o nb e=>by rw[ji nb];exact e
   let t3:aj H6 (upd H6 S$ .lst$ R++[.ref O]):=λb xs e=>b7 _ _ (jE e (s6 _ _ w0) (by intro z;cases z)) e;let w':upd H6 S (.lst$ R++[.ref O]) S=δ (.lst$ R++[.ref O]):=jc;generalize upd H6 S (.lst$ R++[.ref O])=H7 at b7 t3 w';let t2:aj H5 H7:=λb xs e=>t3 _ _ (s6 _ _ e);let B:aj H3 H7:=t6.trans t2;let G:w.wh.side < c.ws.length:=by
    rw[c1.v.len,<- ed];symm;cases e with
    |ask ta T=>show _ < 2;unfold Wh.side;split<;>(try split)<;>omega
    |st p0 l=>show _ < 1;symm;cases w<;>first |exact Nat.one_pos |exact o1.elim | (cases l<;>exact ft.elim)
   symm;obtain⟨I,h0⟩:∃I,c0[w.wh.side]?=δ I:=#[_,lq (by rw[HR];exact G)];let⟨e2,h'⟩:=b0 _ _ I (lq G) h0;let sv:mH H7 nA d ys v O n D uw c hs w.wh e I:=#[P0.mono B,t3 _ _ e6,hc,B _ _ h6,hl,hi,(IY o1 hw).mono t2,ed,d0.mono B,ft,by rw[e2];exact lq G,h'.mono B];let b2:dM (R++[vr O]) (-1)=↑O:=Cr;erw[#[_,Z,_,Z,_,Z,S,_,_,_,Z,Z,aF.of w',b2,v,uw,O,D,n,d,ys,c,hs,w.wh,e,I,Z,sv,λu2 H8 b3 s8=>?_]];let t7:=af.tm s8;let t':=B.trans t7;let g1:=um (H:=H7) b3 (JE sv.wdv.sets$ sP ft gk) sv.wdv.goal;let e8:oN g #[canon c.M,e,c0] hs w.wh=dh (nV g) (bo I.sets$ pJ e w.wh$ aS (canon c.M) hs) I.goal:=by show(match c0[w.wh.side]? with |some wd=>dh (nV g) (bo wd.sets$ pJ e w.wh$ aS (canon c.M) hs) wd.goal |none=>Gd.give 0)=_;rw[h0]
   rw[pr.nms,<- e8]at g1;rw[e7]at W;let W:OC.pre N ((fi M (bY M x y j) y g m (oN g #[canon c.M,e,c0] hs w.wh) L'$ t+N.size+1+w.size).cons (n:Int) hs w)=X:=W;rw[vj _ w3]at W;let s7:=Yk (n:=(n:Int)) (hs:=hs) (w:=w) w3;let R7:Rn H7 C r dx ex cA lA pA M (t+N.size+1+w.size) L' y:=#[b7 _ _ (Ne.symm s0)$ s6 _ _ R5.ins,b7 _ _ (Ne.symm s3)$ s6 _ _ R5.lf,b7 _ _ s9$ s6 _ _ R5.ce,R5.iL,R5.iC,R5.cl,R5.tl,R5.hm];let ez:t+N.size+1+w.size=t+(Sk.put (n:Int) hs w N).size:=by rw[s7];omega
   rw[ez]at R7 l5 t5 W;erw[fE (kk - (w.size+1)) _ _ LN #[_,u2,_,m,Sk.put (n:Int) hs w N,R++[.ref O],L',Z,s8 _ _ w',(BJ (t3 _ _ e6) (B _ _ h6) (hw.mono t2) w3$ w2.mono B).mono t7,ZV o1 w3,?_,g1,R7.same s8,l5,t5,?_,by rw[s7];omega,W,LN]]
   .let:=ZW (n:=(n:Int)) (hs:=hs) (w:=w) (j:=j) d1 w3 LN;omega
   .intro b o n1 n2 e;exact s8 _ _$ b7 _ _ (jk e Y)$ s6 _ _$ K5 _ _ n1 n2$ w9 _ _ n1 n2 e
  .exact nQ.next ((t4.imp (λz=>by rw[z]at W;exact W.symm) (λz=>by rw[z]at W;exact W.symm)).mono λH5 kk=>λb o n1 n2 nx e=>kk b o n1 n2 nx (s4 _ _$ w9 _ _ n1 n2 e))
def yY(h:bh H (fX n d) v []):∃p r,v= .ref p/\H p=δ (.tup (.str d.f:: .ref d.pa::r)):=by obtain⟨_,a,x,rfl,b,_,_,c,y,rfl,⟨rfl,_⟩,_,_,e,Y,rfl,⟨rfl,_⟩,_⟩:=h;exact#[a,_,Z,b]
def Dm:ai P w K mg base (eI P w) k f c z13z (dY C T b N 0):=by
 let n:∀{V H Q E},¬dY C T b N 0 V H Q E:=by rintro V H Q E ⟨M,r,e,g,j,l,m,q,D,t,i,L,u,v,d,x,y,X,p,I,_,_,z,_⟩;omega
 exact#[λV H Q E h=>(n h).elim,λA o s H a U V Q E B F G J h=>(n h).elim]
theorem Fc(d:RK K C)(F:aM K "chain_of" "BookRun.chain_of" Ai k f)(B:au K f z13z [])(m:cq K C "chain_of" k)(l:aM K "what_of" "BookRun.what_of" Aj D e)(o:au K e z23z [])(M:cq K C "what_of" D)(p:‹9› Q E ["part","args"] (gZ n) "first_of")(q:‹9› U H z12z (gY n) "deed_at")(r:‹9› Y I ["part","step"] (wu n) "onward")(GT:ai P w K mg base (eI P w) 1 J g ["self"] (i6 C T))(s:au K g ["self"] [])(a:cq K C "take_turn" J)(G:⇑1 L h ["self","cell"] (g9 C))(t:au K h ["self","cell"] [])(b:cq K C "number_in" L)(u:ai P w K mg base (eI P w) 1 v i ["deep"] (eY N))(x:au K i ["deep"] [])(y:fx K (.ref v)=ν)(z:mg "deeper"=↑v)(A:‹2› fP O ["parts","f"] mj "part_of")(c:mg "tuple"=ζ):∀j,ai P w K mg base (eI P w) (2*j+12) k f z13z (dY C T N n j)
 |0=>Dm
 |j+1=>Dq F d p q r (Dt l d GT s a G t b u x y z A (Fc d F B m l o M p q r GT s a G t b u x y z A c j) B m) o M c
def BR:ak ["parts","f","args","cells","most","part"] z32z (ae D3):=bQ
def j'(T:Tm):Prop:=T.depth < 8/\∃y,T.Good y
inductive sM where
 |set (x:π) (T:Tm)
 |rd (x:π) (T:Tm)
 |wr (T U:Tm)
 |cl (x f:π) (ts:List Tm)
 |gv (T:Tm)
inductive bZ where
 |nil
 |lf (l:sM) (r:bZ)
 |ite (T:Tm) (a b r:bZ)
 |loop (T:Tm) (a r:bZ)
def bZ.app:bZ->bZ->bZ
 | .nil,s=>s
 | .lf l r,s=>.lf l (r.app s)
 | .ite T a b r,s=>.ite T a b (r.app s)
 | .loop T a r,s=>.loop T a (r.app s)
def bZ.size:bZ->Nat
 | .nil=>0
 | .lf _ r=>r.size+1
 | .ite _ a b r=>a.size+b.size+r.size+1
 | .loop _ a r=>a.size+r.size+1
def bZ.top:bZ->Nat
 | .nil=>0
 | .lf _ r | .ite _ _ _ r | .loop _ _ r=>r.top+1
def sM.Ok:sM->Prop
 | .set _ T | .rd _ T=>j' T
 | .wr T U=>j' T/\j' U
 | .cl _ _ t=>(∀T∈t,j' T)/\t.length<=100
 | .gv T=>j' T
def bZ.Ok:bZ->Prop
 | .nil=>True
 | .lf l r=>l.Ok/\r.Ok
 | .ite T a b r=>(j' T/\a.top<=400/\b.top<=400)/\a.Ok/\b.Ok/\r.Ok
 | .loop T a r=>(j' T/\a.top<=400)/\a.Ok/\r.Ok
def ll(H:Hp):List Tm->List V->Prop
 | [],v=>v=[]
 |T::t,v=>∃p r,v= .ref p::r/\aR H T p/\ll H t r
theorem ll.mono{H a:Hp}(k:aj H a):∀{t:List Tm} {v:List V},ll H t v->ll a t v
 | [],_,h=>h
 |_::_,_,z=>by let⟨p,r,e,b,c⟩:=z;exact #[p,r,e,b.mono k,c.mono k]
theorem ll.len{H:Hp}:∀{t:List Tm} {v:List V},ll H t v->v.length=t.length
 | [],_,h=>by rw[show _=[] from h];rfl
 |_::_,_,z=>by let⟨p,r,e,b,a⟩:=z;rw[e,MZ,MZ,a.len]
theorem ll.at{H:Hp}:∀{t:List Tm} {b:List V},ll H t b->∀(i:Nat) (v:V),b[i]?=δ v->∃T p,t[i]?=δ T/\v= .ref p/\aR H T p
 | [],_,h,i,v,a=>by rw[show _=[] from h]at a;simp at a
 |T::_,_,q,0,v,a=>by let⟨p,r,e,c,d⟩:=q;rw[e]at a;cases a;exact#[T,p,Z,Z,c]
 |_::t,_,q,i+1,v,a=>by let⟨p,r,e,c,d⟩:=q;rw[e]at a;simpa using d.at i v (by simpa using a)
def pH(H:Hp)(v:V):sM->Prop
 | .set x T=>∃p t,v= .ref p/\H p=δ (.tup [.str "set",.str x,.ref t])/\aR H T t
 | .rd x T=>∃p t,v= .ref p/\H p=δ (.tup [.str "read",.str x,.ref t])/\aR H T t
 | .wr T U=>∃p t u,v= .ref p/\H p=δ (.tup [.str "write",.ref t,.ref u])/\aR H T t/\aR H U u
 | .cl x f b=>∃p q a,v= .ref p/\H p=δ (.tup [.str "call",.str x,.str f,.ref q])/\H q=δ (.tup a)/\ll H b a
 | .gv T=>∃p t,v= .ref p/\H p=δ (.tup [.str "give",.ref t])/\aR H T t
def pH.mono{H d:Hp}(k:aj H d){v:V}{s:sM}(h:pH H v s):pH d v s:=by
 cases s with
 |set x T |rd x T |gv T=>let⟨p,t,e,a,b⟩:=h;exact#[p,t,e,k _ _ a,b.mono k]
 |wr T U=>let⟨p,t,u,e,a,b,c⟩:=h;exact#[p,t,u,e,k _ _ a,b.mono k,c.mono k]
 |cl x f i=>let⟨p,q,g,e,a,b,c⟩:=h;exact#[p,q,g,e,k _ _ a,k _ _ b,c.mono k]
def eN(H:Hp):bZ->List V->Prop
 | .nil,c=>c=[]
 | .lf l r,c=>∃v W,c=v::W/\pH H v l/\eN H r W
 | .ite T a b r,c=>∃p t d e A B W,c= .ref p::W/\H p=δ (.tup [.str "if",.ref t,.ref d,.ref e])/\aR H T t/\H d=δ (.tup A)/\eN H a A/\H e=δ (.tup B)/\eN H b B/\eN H r W
 | .loop T a r,c=>∃p t d A W,c= .ref p::W/\H p=δ (.tup [.str "while",.ref t,.ref d])/\aR H T t/\H d=δ (.tup A)/\eN H a A/\eN H r W
theorem eN.mono{H j:Hp}(k:aj H j):∀{b:bZ} {l:List V},eN H b l->eN j b l
 | .nil,_,h=>h
 | .lf _ _,_,z=>by let⟨v,W,e,a,c⟩:=z;exact #[v,W,e,a.mono k,c.mono k]
 | .ite _ _ _ _,_,z=>by let⟨p,t,d,m,A,B,W,e,a,c,f,g,i,n,o⟩:=z;exact #[p,t,d,m,A,B,W,e,k _ _ a,c.mono k,k _ _ f,g.mono k,k _ _ i,n.mono k,o.mono k]
 | .loop _ _ _,_,z=>by let⟨p,t,d,A,W,e,a,c,f,g,i⟩:=z;exact #[p,t,d,A,W,e,k _ _ a,c.mono k,k _ _ f,g.mono k,i.mono k]
theorem eN.len{H:Hp}:∀{b:bZ} {c:List V},eN H b c->c.length=b.top
 | .nil,_,h=>by rw[show _=[] from h];rfl
 | .lf _ _,_,z=>by let⟨v,W,e,d,a⟩:=z;rw[e,MZ,a.len];rfl
 | .ite _ _ _ _,_,z=>by let⟨p,t,g,l,A,B,W,e,d,a,i,j,f,m,k⟩:=z;rw[e,MZ,k.len];rfl
 | .loop _ _ _,_,z=>by let⟨p,t,g,A,W,e,d,a,i,j,f⟩:=z;rw[e,MZ,f.len];rfl
structure df where
 f:π
 ps:List π
 body:bZ
def pG(H:Hp)(v:V)(d:df):Prop:=∃p a b B,v= .ref p/\H p=δ (.tup [.str d.f,.ref a,.ref b])/\H a=δ (.tup$ d.ps.map ti)/\H b=δ (.tup B)/\eN H d.body B
def pG.mono{H a:Hp}(k:aj H a){v:V}{d:df}(h:pG H v d):pG a v d:=by let⟨p,b,c,B,e,f,g,i,j⟩:=h;exact#[p,b,c,B,e,k _ _ f,k _ _ g,k _ _ i,j.mono k]
def fV(H:Hp):List df->List V->Prop
 | [],a=>a=[]
 |d::D,a=>∃v r,a=v::r/\pG H v d/\fV H D r
theorem fV.mono{H a:Hp}(k:aj H a):∀{d:List df} {v:List V},fV H d v->fV a d v
 | [],_,h=>h
 |_::_,_,z=>by let⟨p,r,e,b,c⟩:=z;exact #[p,r,e,b.mono k,c.mono k]
theorem fV.len{H:Hp}:∀{d:List df} {v:List V},fV H d v->v.length=d.length
 | [],_,h=>by rw[show _=[] from h];rfl
 |_::_,_,z=>by let⟨p,r,e,b,a⟩:=z;rw[e,MZ,MZ,a.len]
theorem fV.at{H:Hp}:∀{D:List df} {b:List V},fV H D b->∀(i:Nat) (v:V),b[i]?=δ v->∃d,D[i]?=δ d/\pG H v d
 | [],_,h,i,v,a=>by rw[show _=[] from h]at a;simp at a
 |d::_,_,q,0,v,a=>by let⟨u,r,e,c,f⟩:=q;rw[e]at a;cases a;exact#[d,Z,c]
 |_::D,_,q,i+1,v,a=>by let⟨u,r,e,c,f⟩:=q;rw[e]at a;simpa using f.at i v (by simpa using a)
def be(P:List df)(f:π):Option df:=P.find? λd=>decide (d.f=f)
def bV(p:List π)(i:List Int):aE:=bX [] ((p.map Sum.inr).zip$ i.map tT)
inductive iJ where
 |done (a:Int) (L:aE) (t:Nat)
 |long
 |deep
def sM.turn:sM->Bool
 | .set _ _ | .gv _=>μ
 |_=>ν
inductive Ex(P:List df)(C:aE)(m:Int):Nat->Nat->bZ->aE->aE->Nat->iJ->Prop
 |nil {n h L} {t:Nat}:Ex P C m n 0 .nil h L t (.done 0 L t)
 |gv {n T r h L} {t:Nat}:Ex P C m n 0 (.lf (.gv T) r) h L t (.done (T.ev h) L t)
 |set {n k x T r h L o} {t:Nat} (q:Ex P C m n k r (aD h (.inr x) (.int (T.ev h))) L t o):Ex P C m n (k+1) (.lf (.set x T) r) h L t o
 |longL {n l r h L} {t:Nat} (e:l.turn=ν) (g:m<=(t:Int)):Ex P C m n 0 (.lf l r) h L t .long
 |longI {n T a b r h L} {t:Nat} (g:m<=(t:Int)):Ex P C m n 0 (.ite T a b r) h L t .long
 |longW {n T a r h L} {t:Nat} (g:m<=(t:Int)):Ex P C m n 0 (.loop T a r) h L t .long
 |rd {n k x T r h L o} {t:Nat} (g:(t:Int) < m) (q:Ex P C m n k r (aD h (.inr x) (.int (look L (.inl (T.ev h)) (look C (.inl (T.ev h)) 0)))) L (t+1) o):Ex P C m n (k+1) (.lf (.rd x T) r) h L t o
 |wr {n k T U r h L o} {t:Nat} (g:(t:Int) < m) (q:Ex P C m n k r h (aD L (.inl (T.ev h)) (.int (U.ev h))) (t+1) o):Ex P C m n (k+1) (.lf (.wr T U) r) h L t o
 |ite {n k T a b r h L o} {t:Nat} (g:(t:Int) < m) (q:Ex P C m n k ((if T.ev h=0 then b else a).app r) h L (t+1) o):Ex P C m n (k+1) (.ite T a b r) h L t o
 |loop1 {n k T a r h L o} {t:Nat} (g:(t:Int) < m) (e:T.ev h≠0) (q:Ex P C m n k (a.app (.loop T a r)) h L (t+1) o):Ex P C m n (k+1) (.loop T a r) h L t o
 |loop0 {n k T a r h L o} {t:Nat} (g:(t:Int) < m) (e:T.ev h=0) (q:Ex P C m n k r h L (t+1) o):Ex P C m n (k+1) (.loop T a r) h L t o
 |cl {n k1 k x f ts r h L d a L1 t1 o} {t:Nat} (g:(t:Int) < m) (hf:be P f=δ d) (hl:d.ps.length=ts.length) (hk:k1<=130000) (c:Ex P C m n k1 d.body (bV d.ps (ts.map (Tm.ev h))) L (t+1) (.done a L1 t1)) (q:Ex P C m (n+1) k r (aD h (.inr x) (.int a)) L1 t1 o):Ex P C m (n+1) (k+1) (.lf (.cl x f ts) r) h L t o
 |clL {n k1 x f ts r h L d} {t:Nat} (g:(t:Int) < m) (hf:be P f=δ d) (hl:d.ps.length=ts.length) (hk:k1<=130000) (c:Ex P C m n k1 d.body (bV d.ps (ts.map (Tm.ev h))) L (t+1) .long):Ex P C m (n+1) 0 (.lf (.cl x f ts) r) h L t .long
 |clD {n k1 x f ts r h L d} {t:Nat} (g:(t:Int) < m) (hf:be P f=δ d) (hl:d.ps.length=ts.length) (hk:k1<=130000) (c:Ex P C m n k1 d.body (bV d.ps (ts.map (Tm.ev h))) L (t+1) .deep):Ex P C m (n+1) 0 (.lf (.cl x f ts) r) h L t .deep
 |deep {x f ts r h L} {t:Nat} (g:(t:Int) < m):Ex P C m 0 0 (.lf (.cl x f ts) r) h L t .deep
def Jb(a:aE)(k:bG)(v:V):(aD a k v).length<=a.length+1:=by
 unfold aD;split
 .rw[Mv];exact NM _
 .rw[Mz];exact Mx _
def Lf.er:Lf->sM
 | .rd x _ T=>.rd x T
 | .st x _ T=>.set x T
 | .wr _ _ T U=>.wr T U
 | .cl x f _ t=>.cl x f (t.map (·.2))
 | .gv _ T=>.gv T
def Bd.er:Bd->bZ
 | .nil=>.nil
 | .lf _ l r=>.lf l.er r.er
 | .ite _ _ T a b r=>.ite T a.er b.er r.er
 | .loop _ _ T a r=>.loop T a.er r.er
theorem J1:∀(a b:Bd),(a.app b).er=a.er.app b.er
 | .nil,_=>rfl
 | .lf _ l r,b=>by show bZ.lf l.er (r.app b).er=bZ.lf l.er (r.er.app b.er);rw[J1 r b]
 | .ite _ _ T x y r,b=>by show bZ.ite T x.er y.er (r.app b).er=bZ.ite T x.er y.er (r.er.app b.er);rw[J1 r b]
 | .loop _ _ T x r,b=>by show bZ.loop T x.er (r.app b).er=bZ.loop T x.er (r.er.app b.er);rw[J1 r b]
structure iq where
 M:π->Prop
 w:WD
structure dA where
 M:π->Prop
 e:DD
 ws:List WD
def dA.cd(c:dA):Ci:={ nm:=canon c.M,e:=c.e,ws:=c.ws }
open Classical in
def mQ(x:π)(t:ε)(T:Tm)(p:iq):WD:=if p.M x then #[(x,t,T)::p.w.sets,p.w.goal] else p.w
def EM(m:Nat)(p:ε)(l:Lf)(q:iq×List dA):iq×List dA:=match l with
 | .gv t T=>(#[λx=>x∈T.vars,#[[],.give t T]],q.2)
 | .st x t T=>(#[(Lf.st x t T).use q.1.M,mQ x t T q.1],q.2)
 | .rd x t T=>(#[(Lf.rd x t T).use q.1.M,#[[],.go (m - q.2.length - 1)]],q.2++[#[(Lf.rd x t T).use q.1.M,.st p (.rd x t T),[q.1.w]]])
 | .wr t u T U=>(#[(Lf.wr t u T U).use q.1.M,#[[],.go (m - q.2.length - 1)]],q.2++[#[(Lf.wr t u T U).use q.1.M,.st p (.wr t u T U),[q.1.w]]])
 | .cl x f a b=>(#[(Lf.cl x f a b).use q.1.M,#[[],.go (m - q.2.length - 1)]],q.2++[#[(Lf.cl x f a b).use q.1.M,.st p (.cl x f a b),[q.1.w]]])
def aN(m:Nat):Bd->iq->List dA->iq×List dA
 | .nil,c,f=>(c,f)
 | .lf p l r,c,f=>EM m p l (aN m r c f)
 | .ite p t T a b r,c,f=>
  let q:=aN m r c f
  let o:=aN m b q.1 q.2
  let s:=aN m a q.1 o.2
  (#[(Bd.ite p t T a b .nil).use q.1.M,#[[],.go$ m - q.2.length - (Bd.ite p t T a b .nil).cuts]],s.2++[#[(Bd.ite p t T a b .nil).use q.1.M,.ask t T,[s.1.w,o.1.w]]])
 | .loop p t T a r,c,f=>
  let q:=aN m r c f
  let d:iq:=#[(Bd.loop p t T a .nil).use q.1.M,#[[],.go$ m - q.2.length - (Bd.loop p t T a .nil).cuts]]
  let s:=aN m a d q.2
  (d,s.2++[#[(Bd.loop p t T a .nil).use q.1.M,.ask t T,[s.1.w,q.1.w]]])
theorem jW(m:Nat):∀(b:Bd) (c:iq) (f:List dA),(aN m b c f).2.length=f.length+b.cuts
 | .nil,_,_=>rfl
 | .lf p l r,c,f=>by let e:=jW m r c f;cases l<;>simp [aN,EM,e,Bd.cuts,Lf.cut]<;>omega
 | .ite p t T a b r,c,f=>by let E:=jW m r c f;let g:=jW m b (aN m r c f).1 (aN m r c f).2;let d:=jW m a (aN m r c f).1 (aN m b (aN m r c f).1 (aN m r c f).2).2;simp [aN,Bd.cuts,E,g,d];omega
 | .loop p t T a r,c,f=>by let E:=jW m r c f;let d:=λh=>jW m a h (aN m r c f).2;simp [aN,Bd.cuts,E,d];omega
theorem QV(m:Nat):∀(b:Bd) (c:iq) (F:List dA),(aN m b c F).1.M=b.use c.M
 | .nil,_,_=>rfl
 | .lf p l r,c,F=>by
  let e:=QV m r c F;cases l with
  |gv t T=>rfl
  |rd x t T=>show(Lf.rd x t T).use (aN m r c F).1.M=_;rw[e];rfl
  |st x t T=>show(Lf.st x t T).use (aN m r c F).1.M=_;rw[e];rfl
  |wr t u T U=>show(Lf.wr t u T U).use (aN m r c F).1.M=_;rw[e];rfl
  |cl x f a d=>show(Lf.cl x f a d).use (aN m r c F).1.M=_;rw[e];rfl
 | .ite p t T a b r,c,F | .loop p t T a r,c,F=>by let e:=QV m r c F;simp [aN,e,Bd.use]
theorem J2:∀(b:Bd) {M N:π->Prop} {y:π},(M y->N y)->b.use M y->b.use N y
 | .nil,_,_,_,h,z=>h z
 | .lf p l r,M,N,y,h,z=>by
  let i:=J2 r h;cases l with
  |rd x t T |st x t T |cl x f a c=>exact z.imp (λu=>#[i u.1,u.2]) id
  |wr t u T U=>exact z.imp i id
  |gv t T=>exact z
 | .ite p t T a b r,M,N,y,h,z=>by let i:=J2 r h;exact z.imp (λu=>u.imp (J2 a i) (J2 b i)) id
 | .loop p t T a r,M,N,y,h,z=>z.imp (λu=>u.imp id (J2 r h)) id
def EB(b:Bd){M:π->Prop}{y:π}(z:b.use M y):b.use (λ_=>False) y∨M y:=by
 by_cases h:M y
 .exact .inr h
 .exact .inl$ J2 b (λu=>h u) z
def At(G:List dA)(m:Nat):Nat->Bd->iq->Prop
 |0,_,_=>True
 |k+1,b,d=>match b with
  | .nil=>d.w.sets=[]/\d.w.goal= .nought
  | .lf p l r=>match l with
   | .gv t T=>d.w=#[[],.give t T]/\∀y∈T.vars,d.M y
   | .st x t T=>∃q,At G m k r q/\d.w=mQ x t T q/\d.M=(Lf.st x t T).use q.M
   |l=>∃q i,At G m k r q/\d.w=#[[],.go (m - i - 1)]/\i < m/\G[i]?=δ #[d.M,.st p l,[q.w]]/\d.M=l.use q.M
  | .ite p t T a c r=>∃Q e i,At G m k (a.app r) Q/\At G m k (c.app r) e/\d.w=#[[],.go (m - i - 1)]/\i < m/\G[i]?=δ #[d.M,.ask t T,[Q.w,e.w]]/\(∀y∈T.vars,d.M y)/\(∀y,Q.M y->d.M y)/\∀y,e.M y->d.M y
  | .loop p t T a r=>∃Q e i,At G m k (a.app (.loop p t T a r)) Q/\At G m k r e/\d.w=#[[],.go (m - i - 1)]/\i < m/\G[i]?=δ #[d.M,.ask t T,[Q.w,e.w]]/\(∀y∈T.vars,d.M y)/\(∀y,Q.M y->d.M y)/\∀y,e.M y->d.M y
theorem zN(m:Nat):∀(b:Bd) (c:iq) (F:List dA),F <+:(aN m b c F).2
 | .nil,_,_=>Ux
 | .lf p l r,c,F=>by
  let e:=zN m r c F;cases l with
  |gv t T |st x t T=>exact e
  |rd x t T |wr t u T U |cl x f a d=>exact e.trans (OD _ _)
 | .ite p t T a b r,c,F=>((zN m r c F).trans (zN m b _ _)).trans ((zN m a _ _).trans (OD _ _))
 | .loop p t T a r,c,F=>((zN m r c F).trans (zN m a _ _)).trans (OD _ _)
def Qc{f G:List dA}{c:dA}(h:f++[c] <+:G):G[f.length]?=δ c:=by let⟨r,rfl⟩:=h;rw[Pw,NZ$ Mx _,Pn];rfl
theorem KG{G:List dA}{m:Nat}(g:G.length=m):∀(b:Bd) (k:Nat) (d:iq) (F:List dA) (R:Bd),(∀j,j<=k->At G m j R d)->(aN m b d F).2 <+:G->∀j,j<=k->At G m j (b.app R) (aN m b d F).1
 | .nil,k,d,F,R,h,_=>h
 | .lf p l r,k,d,F,R,h,n=>by
  let q:=λs=>KG g r k d F R h s;intro j C;cases j with
  |zero=>exact trivial
  |succ j=>
   cases l with
   |gv t T=>exact#[Z,λy H=>H]
   |st x t T=>exact#[_,q n j LN,Z,Z]
   |rd x t T |wr t u T U |cl x f a N=>have e:=Qc n;let o:(aN m r d F).2.length < m:=RN (χ.mp e).1 g;exact#[_,_,q ((OD _ _).trans n) j LN,Z,o,e,Z]
 | .ite p t T a c r,k,d,F,R,h,n=>by
  let v:=(OD _ _).trans n;let D:=(zN m a (aN m r d F).1 (aN m c (aN m r d F).1 (aN m r d F).2).2).trans v;let s:=(zN m c (aN m r d F).1 (aN m r d F).2).trans D;let A:=KG g r k d F R h s;let E:=KG g c k (aN m r d F).1 (aN m r d F).2 (r.app R) A D;let B:=KG g a k (aN m r d F).1 (aN m c (aN m r d F).1 (aN m r d F).2).2 (r.app R) A v;intro j C;cases j with
  |zero=>exact trivial
  |succ j=>
   let e:=Qc n;let o:=(χ.mp e).1;let L:=jW m a (aN m r d F).1 (aN m c (aN m r d F).1 (aN m r d F).2).2;let I:=jW m c (aN m r d F).1 (aN m r d F).2;erw[#[_,_,_,B j LN,E j LN,?_,RN o g,e,λy H=>.inr H,λy H=>?_,λy H=>?_]]
   .show(#[[],.go$ m - (aN m r d F).2.length - (1+a.cuts+c.cuts+0)]:WD)=_;rw[L,I];congr 2;omega
   .rw[QV]at H;exact .inl (.inl H)
   .rw[QV]at H;exact .inl (.inr H)
 | .loop p t T a r,k,d,F,R,h,n=>by
  let v:=(OD _ _).trans n;let s:=(zN m a (#[(Bd.loop p t T a .nil).use (aN m r d F).1.M,#[[],.go$ m - (aN m r d F).2.length - (Bd.loop p t T a .nil).cuts]]:iq) (aN m r d F).2).trans v;let A:=KG g r k d F R h s;intro j;induction j using Nat.strongRecOn with
  |ind j J=>
   intro C;cases j with
   |zero=>exact trivial
   |succ j=>
    let e:=Qc n;let o:=(χ.mp e).1;let L:=jW m a (#[(Bd.loop p t T a .nil).use (aN m r d F).1.M,#[[],.go$ m - (aN m r d F).2.length - (Bd.loop p t T a .nil).cuts]]:iq) (aN m r d F).2;let B:=KG g a j (#[(Bd.loop p t T a .nil).use (aN m r d F).1.M,#[[],.go$ m - (aN m r d F).2.length - (Bd.loop p t T a .nil).cuts]]:iq) (aN m r d F).2 (.loop p t T a$ r.app R) (λi o=>J i LN LN) v;erw[#[_,_,_,B j$ Mx _,A j LN,?_,RN o g,e,λy H=>.inr H,λy H=>?_,λy H=>.inl (.inr H)]]
    .show(#[[],.go$ m - (aN m r d F).2.length - (1+a.cuts+0)]:WD)=_;rw[L];congr 2;omega
    .rw[QV]at H;rcases EB a H with z |z
     .exact .inl$ .inl z
     .exact z
def qY{h:aE}{k:bG}{i z:Int}:look (aD h k$ .int i) k z=i:=by unfold look;rw[qQ,MQ Z]
def zj{h:aE}{k j:bG}{v:V}{z:Int}(n:j≠k):look (aD h k v) j z=look h j z:=by unfold look;rw[qQ,MS n]
def EH(M:π->Prop)(h H:aE):Prop:=∀x,M x->look h (.inr x) 0=look H (.inr x) 0
theorem zq{h H:aE}:∀{T:Tm},(∀y∈T.vars,look h (.inr y) 0=look H (.inr y) 0)->T.ev h=T.ev H
 | .num _,_=>rfl
 | .var x,a=>a x (by unfold Tm.vars;exact ρ.mpr Z)
 | .op i t u,a=>by show jn i (t.ev h) (u.ev h)=jn i (t.ev H) (u.ev H);rw[zq (T:=t) λy b=>a y (by unfold Tm.vars;exact Nb _ b),zq (T:=u) λy b=>a y (by unfold Tm.vars;exact MF _ b)]
def EH.put{M N:π->Prop}{h H:aE}{x:π}{i:Int}(a:EH M h H)(k:∀y,N y->y≠x->M y):EH N (aD h (.inr x)$ .int i) (aD H (.inr x)$ .int i):=λy b=>by
 by_cases e:y=x
 .rw[e,qY,qY]
 .rw[zj (λz=>e (Po z)),zj (λz=>e (Po z))];exact a y (k y b e)
theorem Qp{f:π->Int}{x:π}:∀(n:List π) (k:aE),(x∈n∨look k (.inr x) 0=f x/\cg k (.inr x)≠ζ)->look (bX k ((n.map Sum.inr).zip ((n.map f).map tT))) (.inr x) 0=f x
 | [],k,h=>by
  rcases h with h |h
  .cases h
  .exact h.1
 |y::n,k,h=>by
  show look (bX (aD k (.inr y)$ .int$ f y) ((n.map Sum.inr).zip ((n.map f).map tT))) (.inr x) 0=f x;erw[Qp n _ ?_];by_cases e:x=y
  .erw[.inr #[by rw[e,qY],?_]];rw[qQ,MQ (by rw[e])];intro z;cases z
  .rcases h with h |h
   .rcases Ψ.mp h with h |h
    .exact absurd h e
    .exact .inl h
   .erw[.inr #[by rw[zj (λz=>e (Po z))];exact h.1,?_]];rw[qQ,MS (λz=>e (Po z))];exact h.2
def uq{f:π->Int}{n:List π}{x:π}(h:x∈n):look (aS n$ n.map f) (.inr x) 0=f x:=Qp n [] (.inl h)
def Dl{p:fh}{n:Nat}{c:Ci}(h:p.cs[n]?=δ c):nV p n=c.nm:=by unfold nV;rw[h]
structure HF(G:List dA)(m:Nat)(pd:fh):Prop where
 cs:pd.cs=(G.map dA.cd).reverse
 len:G.length=m
 mem:∀(i:Nat) (c:dA),G[i]?=δ c->∀x,c.M x->x∈canon c.M
def HF.at{G:List dA}{m:Nat}{p:fh}(g:HF G m p){i:Nat}{c:dA}(H:i < m)(h:G[i]?=δ c):p.cs[m - i - 1]?=δ c.cd:=by rw[g.cs,OH (by rw[Mv,g.len];omega),Mv,g.len,show m - 1 - (m - i - 1)=i by omega,MK,h];rfl
def rO:iq:=#[λx=>x∈(Tm.num 0).vars,#[[],.nought]]
def mI(b:Bd):iq×List dA:=aN b.cuts b rO []
def De(f:π)(ps:List π)(b:Bd):fh:={ f:=f,ps:=ps,way:=(mI b).1.w,cs:=((mI b).2.map dA.cd).reverse }
def sJ(P:List df)(p:List fh):Prop:=∀f d,be P f=δ d->∃b:Bd,d.body=b.er/\dP p f=δ (De f d.ps b)/\∀(i:Nat) (c:dA),(mI b).2[i]?=δ c->∀x,c.M x->x∈canon c.M
def KZ(b:Bd):(mI b).2.length=b.cuts:=by let:=jW b.cuts b rO [];rw[OT,Pm]at this;exact this
def Zt(b:Bd)(k:Nat):At (mI b).2 b.cuts k b (mI b).1:=by let h:=KG (KZ b) b k rO [] .nil (λj _=>by cases j with |zero=>exact trivial |succ j=>exact#[rfl,rfl]) Ux k (Mx _);rw[q9]at h;exact h
def dZ:OC->iJ->Prop
 | .ok _ a L t,.done A l T=>a=A/\L=l/\t=T
 | .long,.long | .deep,.deep=>True
 |_,_=>False
def dZ.cons{o:OC}{u:iJ}{n:Int}{H:List Int}{w:Sk}(h:dZ o u):dZ (o.cons n H w) u:=by cases o<;>cases u<;>exact h
def CS{P:List df}{C:aE}{m:Int}{n k:Nat}{b:bZ}{h L:aE}{t:Nat}{o:iJ}(e:Ex P C m n k b h L t o):∀{a:Int} {l:aE} {T:Nat},o= .done a l T->t<=T/\((t:Int)<=m->(T:Int)<=m):=by
 induction e with
 |nil |gv=>intro a l T e;cases e;exact#[Mx _,id]
 |set q i=>exact i
 |longL _ _ |longI _ |longW _ |clL _ _ _ _ _ _ |clD _ _ _ _ _ _ |deep _=>intro a l T e;cases e
 |rd g q i |wr g q i |ite g q i |loop1 g _ q i |loop0 g _ q i=>intro a l T e;let:=i e;exact#[LN,λ_=>this.2 LN]
 |cl g d f j c q I i=>intro a l T e;let H:=I Z;let:=i e;exact#[LN,λ_=>this.2 (H.2 LN)]
def zI{M:Nat}{call:xo}{C:aE}{p:fh}{G:List dA}{m i:Nat}{c:dA}(g:HF G m p)(H:i < m)(a:G[i]?=δ c){h L:aE}{t f:Nat}:
  fi M call C p (f+1) (dh (nV p) (bo [] h)$ .go$ m - i - 1) L t=match mG M call C (aS (canon c.M) ((canon c.M).map λx=>look h (.inr x) 0)) L t c.e with
   | .ok w l T=>(fi M call C p f (oN p c.cd ((canon c.M).map λx=>look h (.inr x) 0) w.wh) l T).cons ((m - i - 1:Nat):Int) ((canon c.M).map λx=>look h (.inr x) 0) w
   | .long=>.long
   | .deep=>.deep:=by
 let e:=g.at H a;let n:=Dl e;show fi M call C p (f+1) (.go (m - i - 1) ((nV p$ m - i - 1).map λx=>look h (.inr x) 0)) L t=_;rw[n];show(match p.cs[m - i - 1]? with |none=>OC.long |some c=>_)=_;rw[e];rfl
def qe{M:π->Prop}{h H:aE}(a:EH M h H)(m:∀x,M x->x∈canon M):EH M h (aS (canon M) ((canon M).map λx=>look H (.inr x) 0)):=λx b=>by rw[uq$ m x b];exact a x b
def KH{p:fh}{c:dA}{H:List Int}{w:Wh}{q:WD}(h:c.ws[w.side]?=δ q):oN p c.cd H w=dh (nV p) (bo q.sets$ pJ c.e w$ aS (canon c.M) H) q.goal:=by unfold oN;rw[show c.cd.ws[w.side]?=δ q from h];rfl
def Lx{P:List df}{N:List fh}{C:aE}{M:Nat}(hS:sJ P N){n k:Nat}{b':bZ}{h L:aE}{t:Nat}{o:iJ}(e:Ex P C (M:Int) n k b' h L t o):
  ∀{G:List dA} {m:Nat} {b:Bd} {A:iq} {h':aE} {fu:Nat} {pd:fh},b'=b.er->At G m (k+1) b A->HF G m pd->EH A.M h h'->t<=M->M+2<=fu+t->
   dZ (fi M (bY M N C n) C pd fu (dh (nV pd) (bo A.w.sets h') A.w.goal) L t) o:=by
 let S:∀{fu t:Nat},t<=M->M+2<=fu+t->∃f,fu=f+1/\M+2<=f+(t+1):=λ{fu t} a b=>#[fu - 1,LN,LN];induction e with
 |nil=>
  intro G m b A h' fu pd E F g a D j;symm;let⟨f,rfl,_⟩:=S D j;cases b with
  |nil=>let⟨O,I⟩:=F;right;rw[O,I];exact#[Z,Z,Z]
  |lf p l r |ite p t T x y r |loop p t T x r=>cases E
 | @gv n T r h L t=>
  intro G m b A h' fu pd E F g a D j;symm;let⟨f,rfl,_⟩:=S D j;cases b with
  |nil |ite p t T x y r |loop p t T x r=>cases E
  |lf p l r=>
   cases l with
   |gv t T=>cases E;let⟨O,I⟩:=F;right;rw[O];erw[#[?_,Z,Z]];exact(zq λy H=>a y (I y H)).symm
   |rd x t T |st x t T |wr t u T U |cl x f q J=>cases E
 | @set n k x T r h L o t q R=>
  intro G m b A h' fu pd E F g a D j;symm;cases b with
  |nil |ite p t T x y r |loop p t T x r=>cases E
  |lf p l r=>
   cases l with
   |st x t T=>
    cases E;let⟨q,O,I,B⟩:=F;right;rw[I];unfold mQ;rw[B]at a;let W:T.ev h=T.ev h':=zq λy H=>a y (.inr H);symm;by_cases hx:q.M x
    .right;rw[MQ hx];rw[W]at R;exact R Z O g (a.put λy H n=>.inl #[H,n]) D j
    .right;rw[MS hx];erw[R Z O g (λy H=>?_) D j];let n:y≠x:=λz=>hx (z▸H);rw[zj (λz=>n (Po z))];exact a y$ .inl #[H,n]
   |gv t T |rd x t T |wr t u T U |cl x f q J=>cases E
 | @longL n l r h L t e X=>
  intro G m b A h' fu pd E F g a D j;symm;let⟨f,rfl,_⟩:=S D j;cases b with
  |nil |ite p t T x y r |loop p t T x r=>cases E
  |lf p l r=>
   cases E;cases l with
   |gv t T |st x t T=>cases e
   |rd x t T |wr t u T U |cl x f q J=>let⟨q,i,O,I,Q,B,Y⟩:=F;right;rw[I];show dZ (fi _ _ _ _ _ (dh _ (bo [] h') _) _ _) _;rw[zI g Q B,Kx LN];exact trivial
 | @longI n T x y r h L t X=>
  intro G m b A h' fu pd E F g a D j;symm;let⟨f,rfl,_⟩:=S D j;cases b with
  |nil |lf p l r |loop p t T x r=>cases E
  |ite p t T x y r=>let⟨qa,qb,i,O,V,I,Q,B,_⟩:=F;right;rw[I];show dZ (fi _ _ _ _ _ (dh _ (bo [] h') _) _ _) _;rw[zI g Q B,Kx LN];exact trivial
 | @longW n T x r h L t X=>
  intro G m b A h' fu pd E F g a D j;symm;let⟨f,rfl,_⟩:=S D j;cases b with
  |nil |lf p l r |ite p t T x y r=>cases E
  |loop p t T x r=>let⟨qa,qb,i,O,V,I,Q,B,_⟩:=F;right;rw[I];show dZ (fi _ _ _ _ _ (dh _ (bo [] h') _) _ _) _;rw[zI g Q B,Kx LN];exact trivial
 | @rd n k x T r h L o t X q R=>
  intro G m b A h' fu pd E F g a D j;symm;let⟨f,rfl,j⟩:=S D j;cases b with
  |nil |ite p t T x y r |loop p t T x r=>cases E
  |lf p l r=>
   cases l with
   |rd x ta T=>cases E;let⟨q,i,O,I,Q,B,Y⟩:=F;right;rw[I];show dZ (fi _ _ _ _ _ (dh _ (bo [] h') _) _ _) _;let z:=qe a (g.mem i _ B);rw[zI g Q B,Bm LN];show dZ (OC.cons _ _ _$ fi _ _ _ _ _ (oN _ _ _$ Wh.rd _ _) _ _) _;erw[dZ.cons ?_];rw[KH (q:=q.w) Z];generalize aS (canon A.M) ((canon A.M).map λx=>look h' (.inr x) 0)=kt at z;rw[Y]at z;let W:T.ev h=T.ev kt:=zq λy H=>z y (.inr H);rw[W]at R;exact R Z O g (z.put λy H n=>.inl #[H,n]) LN LN
   |st x t T |gv t T |wr t u T U |cl x f q J=>cases E
 | @wr n k T U r h L o t X q R=>
  intro G m b A h' fu pd E F g a D j;symm;let⟨f,rfl,j⟩:=S D j;cases b with
  |nil |ite p t T x y r |loop p t T x r=>cases E
  |lf p l r=>
   cases l with
   |wr ta tu T U=>cases E;let⟨q,i,O,I,Q,B,Y⟩:=F;right;rw[I];show dZ (fi _ _ _ _ _ (dh _ (bo [] h') _) _ _) _;let z:=qe a (g.mem i _ B);rw[zI g Q B,Bn LN];show dZ (OC.cons _ _ _$ fi _ _ _ _ _ (oN _ _ _$ Wh.wr _ _) _ _) _;erw[dZ.cons ?_];rw[KH (q:=q.w) Z];generalize aS (canon A.M) ((canon A.M).map λx=>look h' (.inr x) 0)=kt at z;rw[Y]at z;let W:T.ev h=T.ev kt:=zq λy H=>z y (.inr$ .inl H);let eu:U.ev h=U.ev kt:=zq λy H=>z y (.inr$ .inr H);rw[W,eu]at R;exact R Z O g (λy H=>z y (.inl H)) LN LN
   |st x t T |gv t T |rd x t T |cl x f q J=>cases E
 | @ite n k T x y r h L o t X q R=>
  intro G m b A h' fu pd E F g a D j;symm;let⟨f,rfl,j⟩:=S D j;cases b with
  |nil |lf p l r |loop p t T x r=>cases E
  |ite p ta T x y r=>
   cases E;let⟨qa,qb,i,O,V,I,Q,B,v1,v2,v3⟩:=F;right;rw[I];show dZ (fi _ _ _ _ _ (dh _ (bo [] h') _) _ _) _;let z:=qe a (g.mem i _ B);rw[zI g Q B,Xv LN];show dZ (OC.cons _ _ _$ fi _ _ _ _ _ (oN _ _ _$ Wh.ask _) _ _) _;erw[dZ.cons ?_];let W:T.ev h=T.ev (aS (canon A.M) ((canon A.M).map λx=>look h' (.inr x) 0)):=zq λy H=>z y (v1 y H);rw[<- W];symm;by_cases h0:T.ev h=0
   .right;rw[MQ h0]at R ⊢;rw[KH (q:=qb.w) Z];exact R (J1 y r).symm V g (λy H=>z y (v3 y H)) LN LN
   .right;rw[MS h0]at R ⊢;rw[KH (q:=qa.w) Z];exact R (J1 x r).symm O g (λy H=>z y (v2 y H)) LN LN
 | @loop1 n k T x r h L o t X h0 q R=>
  intro G m b A h' fu pd E F g a D j;symm;let⟨f,rfl,j⟩:=S D j;cases b with
  |nil |lf p l r |ite p t T x y r=>cases E
  |loop p ta T x r=>cases E;let⟨qa,qb,i,O,V,I,Q,B,v1,v2,v3⟩:=F;right;rw[I];show dZ (fi _ _ _ _ _ (dh _ (bo [] h') _) _ _) _;let z:=qe a (g.mem i _ B);rw[zI g Q B,Xv LN];show dZ (OC.cons _ _ _$ fi _ _ _ _ _ (oN _ _ _$ Wh.ask _) _ _) _;erw[dZ.cons ?_];let W:T.ev h=T.ev (aS (canon A.M) ((canon A.M).map λx=>look h' (.inr x) 0)):=zq λy H=>z y (v1 y H);rw[<- W,MS h0];rw[KH (q:=qa.w) Z];exact R (J1 x$ .loop p ta T x r).symm O g (λy H=>z y (v2 y H)) LN LN
 | @loop0 n k T x r h L o t X h0 q R=>
  intro G m b A h' fu pd E F g a D j;symm;let⟨f,rfl,j⟩:=S D j;cases b with
  |nil |lf p l r |ite p t T x y r=>cases E
  |loop p ta T x r=>cases E;let⟨qa,qb,i,O,V,I,Q,B,v1,v2,v3⟩:=F;right;rw[I];show dZ (fi _ _ _ _ _ (dh _ (bo [] h') _) _ _) _;let z:=qe a (g.mem i _ B);rw[zI g Q B,Xv LN];show dZ (OC.cons _ _ _$ fi _ _ _ _ _ (oN _ _ _$ Wh.ask _) _ _) _;erw[dZ.cons ?_];let W:T.ev h=T.ev (aS (canon A.M) ((canon A.M).map λx=>look h' (.inr x) 0)):=zq λy H=>z y (v1 y H);rw[<- W,MQ h0];rw[KH (q:=qb.w) Z];exact R Z V g (λy H=>z y (v3 y H)) LN LN
 | @cl n k1 k x f J r h L d v L1 t1 o t X h1 hl hk c q i0 R=>
  intro G m b A h' fu pd E F g a D j;symm;let⟨f',rfl,j⟩:=S D j;cases b with
  |nil |ite p t T x y r |loop p t T x r=>cases E
  |lf p l r=>
   cases l with
   |cl x f qa J=>
    cases E;let⟨q',i,O,I,Q,B,Y⟩:=F;right;rw[I];show dZ (fi _ _ _ _ _ (dh _ (bo [] h') _) _ _) _;let z:=qe a (g.mem i _ B);rw[zI g Q B,Kc LN];generalize ek:aS (canon A.M) ((canon A.M).map λx=>look h' (.inr x) 0)=kt at z;let z':=z;rw[Y]at z';let ea:(J.map λc=>c.2.ev kt)=(J.map (·.2)).map (Tm.ev h):=by rw[NJ];exact RA λc hc=>(zq λy H=>z' y (.inr #[c,hc,H])).symm
    rw[ea];symm;let⟨b0,e0,hp,hm⟩:=hS f d h1;let r1:=i0 (h':=aS d.ps ((J.map (·.2)).map$ Tm.ev h)) (fu:=M+2) (pd:=De f d.ps b0) e0 (Zt b0 _) #[Z,KZ b0,hm] (λ_ _=>Z) LN LN;let r2:dZ (bY M N C (n+1) f ((J.map (·.2)).map$ Tm.ev h) L$ t+1) (.done v L1 t1):=by show dZ (match dP N f with |none=>OC.long |some pd=>_) _;rw[hp];exact r1
    let tt:=CS c Z;right;cases er:bY M N C (n+1) f ((J.map (·.2)).map$ Tm.ev h) L (t+1) with
    |long |deep=>rw[er]at r2;exact r2.elim
    |ok s v' L' t'=>rw[er]at r2;symm;let⟨rfl,rfl,rfl⟩:=r2;show dZ (OC.cons _ _ _$ fi _ _ _ _ _ (oN _ _ _$ Wh.cl _ _ _) _ _) _;erw[dZ.cons ?_];rw[KH (q:=q'.w) Z];show dZ (fi _ _ _ _ _ (dh _ (bo q'.w.sets$ aD (aS (canon A.M) ((canon A.M).map λx=>look h' (.inr x) 0)) (.inr x)$ .int v') _) _ _) _;rw[ek];exact R Z O g (z'.put λy H n=>.inl #[H,n]) (by let:=tt.2 LN;omega) LN
   |st x t T |gv t T |rd x t T |wr t u T U=>cases E
 | @clL n k1 x f J r h L d t X h1 hl hk c i0=>
  intro G m b A h' fu pd E F g a D j;symm;let⟨f',rfl,j⟩:=S D j;cases b with
  |nil |ite p t T x y r |loop p t T x r=>cases E
  |lf p l r=>
   cases l with
   |cl x f qa J=>
    cases E;let⟨q',i,O,I,Q,B,Y⟩:=F;right;rw[I];show dZ (fi _ _ _ _ _ (dh _ (bo [] h') _) _ _) _;let z:=qe a (g.mem i _ B);rw[zI g Q B,Kc LN];generalize ek:aS (canon A.M) ((canon A.M).map λx=>look h' (.inr x) 0)=kt at z;rw[Y]at z;let ea:(J.map λc=>c.2.ev kt)=(J.map (·.2)).map (Tm.ev h):=by rw[NJ];exact RA λc hc=>(zq λy H=>z y (.inr #[c,hc,H])).symm
    rw[ea];symm;let⟨b0,e0,hp,hm⟩:=hS f d h1;let r1:=i0 (h':=aS d.ps ((J.map (·.2)).map$ Tm.ev h)) (fu:=M+2) (pd:=De f d.ps b0) e0 (Zt b0 _) #[Z,KZ b0,hm] (λ_ _=>Z) LN LN;let r2:dZ (bY M N C (n+1) f ((J.map (·.2)).map$ Tm.ev h) L$ t+1) .long:=by show dZ (match dP N f with |none=>OC.long |some pd=>_) _;rw[hp];exact r1
    right;cases er:bY M N C (n+1) f ((J.map (·.2)).map$ Tm.ev h) L (t+1) with
    |long=>exact trivial
    |deep |ok s v' L' t'=>rw[er]at r2;exact r2.elim
   |st x t T |gv t T |rd x t T |wr t u T U=>cases E
 | @clD n k1 x f J r h L d t X h1 hl hk c i0=>
  intro G m b A h' fu pd E F g a D j;symm;let⟨f',rfl,j⟩:=S D j;cases b with
  |nil |ite p t T x y r |loop p t T x r=>cases E
  |lf p l r=>
   cases l with
   |cl x f qa J=>
    cases E;let⟨q',i,O,I,Q,B,Y⟩:=F;right;rw[I];show dZ (fi _ _ _ _ _ (dh _ (bo [] h') _) _ _) _;let z:=qe a (g.mem i _ B);rw[zI g Q B,Kc LN];generalize ek:aS (canon A.M) ((canon A.M).map λx=>look h' (.inr x) 0)=kt at z;rw[Y]at z;let ea:(J.map λc=>c.2.ev kt)=(J.map (·.2)).map (Tm.ev h):=by rw[NJ];exact RA λc hc=>(zq λy H=>z y (.inr #[c,hc,H])).symm
    rw[ea];symm;let⟨b0,e0,hp,hm⟩:=hS f d h1;let r1:=i0 (h':=aS d.ps ((J.map (·.2)).map$ Tm.ev h)) (fu:=M+2) (pd:=De f d.ps b0) e0 (Zt b0 _) #[Z,KZ b0,hm] (λ_ _=>Z) LN LN;let r2:dZ (bY M N C (n+1) f ((J.map (·.2)).map$ Tm.ev h) L$ t+1) .deep:=by show dZ (match dP N f with |none=>OC.long |some pd=>_) _;rw[hp];exact r1
    right;cases er:bY M N C (n+1) f ((J.map (·.2)).map$ Tm.ev h) L (t+1) with
    |deep=>exact trivial
    |long |ok s v' L' t'=>rw[er]at r2;exact r2.elim
   |st x t T |gv t T |rd x t T |wr t u T U=>cases E
 | @deep x f J r h L t X=>
  intro G m b A h' fu pd E F g a D j;symm;let⟨f',rfl,j⟩:=S D j;cases b with
  |nil |ite p t T x y r |loop p t T x r=>cases E
  |lf p l r=>
   cases l with
   |cl x f qa J=>cases E;let⟨q',i,O,I,Q,B,Y⟩:=F;right;rw[I];show dZ (fi _ _ _ _ _ (dh _ (bo [] h') _) _ _) _;rw[zI g Q B,Kc LN];exact trivial
   |st x t T |gv t T |rd x t T |wr t u T U=>cases E
def AM{P:List df}{p:List fh}{C:aE}{M:Nat}(h:sJ P p){n k:Nat}{d:df}{f:π}{i:List Int}{L:aE}{t:Nat}{o:iJ}(H:be P f=δ d)(e:Ex P C (M:Int) n k d.body (bV d.ps i) L t o)(a:t<=M):dZ (bY M p C (n+1) f i L t) o:=by let⟨b,E,c,g⟩:=h f d H;show dZ (match dP p f with |none=>OC.long |some pd=>_) _;rw[c];exact Lx h e (h':=aS d.ps i) (fu:=M+2) (pd:=De f d.ps b) E (Zt b _) #[Z,KZ b,g] (λ_ _=>Z) a LN
def iq.pc(n:ε)(p:iq):Pc:=#[p.M,p.w.wy n]
def dA.ct(n:ε)(c:dA):Ct:=#[c.M,c.e.dd,c.ws.map$ WD.wy n]
def AC{n:ε}{x:π}{t:ε}{T:Tm}{p:iq}:(mQ x t T p).wy n=gX x t (p.pc n):=by
 unfold mQ gX;by_cases h:p.M x
 .rw[MQ h,MQ (show(p.pc n).M x from h)];rfl
 .rw[MS h,MS (show ¬(p.pc n).M x from h)];rfl
def tW{N:ε}{k:Int}{n:Nat}(h:k=(n:Int)):(#[[],.go k]:Wy)=(#[[],.go n]:WD).wy N:=by rw[h];rfl
theorem Jq(n:ε)(m:Nat):∀(b:Bd) (d:iq) (F:List dA),F.length+b.cuts<=m->pB (m:Int) b (d.pc n) (F.map$ dA.ct n)=((aN m b d F).1.pc n,(aN m b d F).2.map$ dA.ct n)
 | .nil,_,_,_=>rfl
 | .lf p l r,d,F,h=>by
  let H:F.length+(l.cut+r.cuts)<=m:=h;let e:=Jq n m r d F LN;let o:=jW m r d F;show pL (m:Int) p l (pB (m:Int) r (d.pc n)$ F.map$ dA.ct n)=((EM m p l$ aN m r d F).1.pc n,(EM m p l$ aN m r d F).2.map$ dA.ct n);rw[e];let g:l.cut=1->(#[[],.go ((m:Int) - (((aN m r d F).2.map$ dA.ct n).length:Int) - 1)]:Wy)=(#[[],.go$ m - (aN m r d F).2.length - 1]:WD).wy n:=λq=>tW (by rw[Mv];omega);cases l with
  |gv t T=>rfl
  |st x t T=>show((#[_,gX x t _]:Pc),_)=((#[_,(mQ x t T (aN m r d F).1).wy n]:Pc),_);rw[AC];rfl
  |rd x t T |wr t u T U |cl x f a s=>show((#[_,_]:Pc),_++[_])=((#[_,_]:Pc),List.map _ (_++[_]));rw[g Z,M0];rfl
 | .ite p t T a c r,d,F,h=>by
  let H:F.length+(1+a.cuts+c.cuts+r.cuts)<=m:=h;let E:=Jq n m r d F LN;let L:=jW m r d F;let k:=Jq n m c (aN m r d F).1 (aN m r d F).2 LN;let v:=jW m c (aN m r d F).1 (aN m r d F).2;let i:=Jq n m a (aN m r d F).1 (aN m c (aN m r d F).1 (aN m r d F).2).2 LN;unfold pB aN;dsimp only;rw[E];dsimp only;rw[k];dsimp only;rw[i];let g:(#[[],.go ((m:Int) - (((aN m r d F).2.map$ dA.ct n).length:Int) - ((Bd.ite p t T a c .nil).cuts:Int))]:Wy)=(#[[],.go$ m - (aN m r d F).2.length - (Bd.ite p t T a c .nil).cuts]:WD).wy n:=tW (by
   rw[Mv];let:(Bd.ite p t T a c .nil).cuts=1+a.cuts+c.cuts+0:=rfl;omega)
  rw[g,M0];rfl
 | .loop p t T a r,d,F,h=>by
  let H:F.length+(1+a.cuts+r.cuts)<=m:=h;let E:=Jq n m r d F LN;let L:=jW m r d F;let g:(#[[],.go ((m:Int) - (((aN m r d F).2.map$ dA.ct n).length:Int) - ((Bd.loop p t T a .nil).cuts:Int))]:Wy)=(#[[],.go$ m - (aN m r d F).2.length - (Bd.loop p t T a .nil).cuts]:WD).wy n:=tW (by
   rw[Mv];let:(Bd.loop p t T a .nil).cuts=1+a.cuts+0:=rfl;omega)
  let i:=Jq n m a #[(Bd.loop p t T a .nil).use (aN m r d F).1.M,#[[],.go$ m - (aN m r d F).2.length - (Bd.loop p t T a .nil).cuts]] (aN m r d F).2 LN;unfold pB aN;dsimp only;rw[E];dsimp only;rw[g];let j:pB (m:Int) a #[(Bd.loop p t T a .nil).use (iq.pc n (aN m r d F).1).M,(#[[],.go$ m - (aN m r d F).2.length - (Bd.loop p t T a .nil).cuts]:WD).wy n] ((aN m r d F).2.map$ dA.ct n)=_:=i;rw[j,M0];rfl
structure sF(H:Hp)(ys:List π)(m N:Nat)(pc:iq):Prop where
 mem:∀x,pc.M x->x∈ys
 way:nJ H ys m N pc.w
structure xF(F:gi)(H:Hp)(ys:List π)(m N:Nat)(c:dA):Prop where
 mem:∀x,c.M x->x∈ys
 deed:A6 H ys c.e
 cs:c.e.Cs F
 ways:∀w∈c.ws,nJ H ys m N w
section
variable {F:gi}{H H':Hp}{ys:List π}{m N N':Nat}
def nJ.up(a:N<=N'){w:WD}(h:nJ H ys m N w):nJ H ys m N' w:=#[h.sets,MT h.len a,h.goal]
def xF.up(a:N<=N'){c:dA}(h:xF F H ys m N c):xF F H ys m N' c:=#[h.mem,h.deed,h.cs,λw b=>(h.ways w b).up a]
def sF.up(a:N<=N'){p:iq}(h:sF H ys m N p):sF H ys m N' p:=#[h.mem,h.way.up a]
def wZ{n:Nat}(a:n < m):nJ H ys m N #[[],.go n]:=#[(λ_ h=>absurd h MO),MH _,a]
theorem qM:∀(b:Bd) {X:List V} {d:iq} {fs:List dA} {N:Nat},de H b X->b.Ok ys->b.Cs F->sF H ys m N d->(∀c∈fs,xF F H ys m N c)->fs.length+b.cuts<=m->
  sF H ys m (N+b.size) (aN m b d fs).1/\∀c∈(aN m b d fs).2,xF F H ys m (N+b.size) c
 | .nil,_,_,_,_,_,_,_,k,n,_=>#[k,n]
 | .lf p l r,X,d,fs,N,v,g,j,k,n,y=>by
  let⟨vs,zs,_,h1,C,h3⟩:=v;let A:fs.length+(l.cut+r.cuts)<=m:=y;let⟨R,o⟩:=qM r h3 g.2 j.2 k n LN;let hl:=jW m r d fs;let S:N+r.size<=N+(r.size+1):=by omega
  let i:=Lf.use_in g.1 R.mem;let D:l.isCut=ν->l.cut=1->sF H ys m (N+(r.size+1)) #[l.use (aN m r d fs).1.M,#[[],.go$ m - (aN m r d fs).2.length - 1]]/\∀c∈(aN m r d fs).2++[#[l.use (aN m r d fs).1.M,.st p l,[(aN m r d fs).1.w]]],xF F H ys m (N+(r.size+1)) c:=λB h0=>
   #[#[i,wZ (by rw[hl];omega)],λc E=>by
    rcases γ.mp E with z |z
    .exact(o c z).up S
    .rw[ρ.mp z];exact#[i,#[vs,h1,C,g.1,B],j.1,λw hw=>by rw[ρ.mp hw];exact R.way.up S]]
  show sF H ys m (N+(r.size+1)) (EM m p l$ aN m r d fs).1/\∀c∈(EM m p l$ aN m r d fs).2,xF F H ys m (N+(r.size+1)) c;cases l with
  |gv t T=>exact#[#[i,(λ_ h=>absurd h MO),MH _,C.2,g.1],λc B=>(o c B).up S]
  |st x t T=>
   erw[#[#[i,?_],λc B=>(o c B).up S]];show nJ H ys m _ (mQ x t T (aN m r d fs).1);unfold mQ;split
   .erw[#[λs hs=>?_,NF R.way.len,R.way.goal]];rcases Ψ.mp hs with rfl |hs
    .exact#[C.2,g.1.2]
    .exact R.way.sets s hs
   .exact R.way.up S
  |rd x t T |wr t u T U |cl x f q ts=>exact D Z Z
 | .ite p t T a c r,X,d,fs,N,v,g,j,k,n,y=>by
  let⟨qa,qb,as,bs,zs,_,g1,G,g2,g3,I,g5,J⟩:=v;let A:fs.length+(1+a.cuts+c.cuts+r.cuts)<=m:=y;let⟨R,o⟩:=qM r J g.2.2.2 j.2.2 k n LN;let L:=jW m r d fs;let⟨c1,c2⟩:=qM c g5 g.2.2.1 j.2.1 R o LN;let h4:=jW m c (aN m r d fs).1 (aN m r d fs).2;let⟨O,Q⟩:=qM a I g.2.1 j.1 (R.up$ Oh _ _) c2 LN;let S:N+r.size+c.size+a.size<=N+(a.size+c.size+r.size+1):=by omega
  let i:∀x,(Bd.ite p t T a c .nil).use (aN m r d fs).1.M x->x∈ys:=Bd.use_in #[g.1,g.2.1,g.2.2.1,trivial] R.mem;let W:m - (aN m r d fs).2.length - (Bd.ite p t T a c .nil).cuts < m:=by let:(Bd.ite p t T a c .nil).cuts=1+a.cuts+c.cuts+0:=rfl;omega
  unfold aN;dsimp only;erw[#[#[i,wZ W],λe Y=>?_]];rcases γ.mp Y with z |z
  .exact(Q e z).up S
  .rw[ρ.mp z];erw[#[i,#[G,g.1],trivial,λw hw=>?_]];rcases Ψ.mp hw with rfl |hw
   .exact O.way.up S
   .rw[ρ.mp hw];exact c1.way.up (by show _<=N+(a.size+c.size+r.size+1);omega)
 | .loop p t T a r,X,d,fs,N,v,g,j,k,n,y=>by
  let⟨qa,as,zs,_,g1,G,g2,I,J⟩:=v;let A:fs.length+(1+a.cuts+r.cuts)<=m:=y;let⟨R,o⟩:=qM r J g.2.2 j.2 k n LN;let L:=jW m r d fs;let i:∀x,(Bd.loop p t T a .nil).use (aN m r d fs).1.M x->x∈ys:=Bd.use_in #[g.1,g.2.1,trivial] R.mem;let W:m - (aN m r d fs).2.length - (Bd.loop p t T a .nil).cuts < m:=by let:(Bd.loop p t T a .nil).cuts=1+a.cuts+0:=rfl;omega
  let pl:sF H ys m (N+r.size) #[(Bd.loop p t T a .nil).use (aN m r d fs).1.M,#[[],.go$ m - (aN m r d fs).2.length - (Bd.loop p t T a .nil).cuts]]:=#[i,wZ W];let⟨O,Q⟩:=qM a I g.2.1 j.1 pl o LN;let S:N+r.size+a.size<=N+(a.size+r.size+1):=by omega
  unfold aN;dsimp only;erw[#[pl.up (by show _<=N+(a.size+r.size+1);omega),λe Y=>?_]];rcases γ.mp Y with z |z
  .exact(Q e z).up S
  .rw[ρ.mp z];erw[#[i,#[G,g.1],trivial,λw hw=>?_]];rcases Ψ.mp hw with rfl |hw
   .exact O.way.up S
   .rw[ρ.mp hw];exact R.way.up (by show _<=N+(a.size+r.size+1);omega)
end
def FV{M:π->Prop}{Y:List π}(h:∀x,M x->x∈Y):∃s,Nm s M:=by
 classical
 let H:∀(Y:List π),∃l:List π,l.Nodup/\∀x,x∈l↔(M x/\x∈Y):=by
  intro Y;induction Y with
  |nil=>exact#[[],.nil,λx=>by simp]
  |cons y Y i=>
   let⟨l,H,d⟩:=i;by_cases e:M y/\y∉Y
   .erw[#[y::l,mT.mpr #[λz=>e.2 ((d y).mp z).2,H],λx=>?_]];rw[Nv,d,Nv];constructor
    .rintro (rfl |z)
     .exact#[e.1,.inl Z]
     .exact#[z.1,.inr z.2]
    .rintro ⟨z,rfl |w⟩
     .exact .inl Z
     .exact .inr #[z,w]
   .erw[#[l,H,λx=>?_]];rw[d,Nv];constructor
    .exactλz=>#[z.1,.inr z.2]
    .rintro ⟨z,rfl |w⟩
     .exact#[z,by by_cases q:x∈Y;exact q;exact absurd #[z,q] e]
     .exact#[z,w]
 let⟨l,n,m⟩:=H Y;let p:=List.mergeSort_perm l (λa b=>decide (a.cps.toList<=b.cps.toList));let f:=List.pairwise_mergeSort (le:=λa b:π=>decide (a.cps.toList<=b.cps.toList)) (λa b c x y=>by simpa using UU (Nu x) (Nu y)) (λa b=>by simpa using List.le_total a.cps.toList b.cps.toList) l;erw[#[_,p.nodup_iff.mpr n,sortedS_of_pairwise _$ f.imp λ{a b} z=>?_,λx=>?_]]
 .rw[ltCps_eq];simpa using z
 .rw[p.mem_iff,m];exact#[λz=>z.1,λz=>#[z,h x z]]
def pN{M:π->Prop}{y:List π}(h:∀x,M x->x∈y)(x:π)(z:M x):x∈canon M:=by let⟨s,H⟩:=FV h;rw[<- H.canon];exact(H.mem x).mpr z
def FQ{H:Hp}{d:Df}{B:List V}{y:List π}(f:de H d.b B)(g:d.b.Ok y):sF H y d.b.cuts d.b.size (mI d.b).1/\∀c∈(mI d.b).2,xF d.b.calls H y d.b.cuts d.b.size c:=by let p:sF H y d.b.cuts 0 rO:=#[λx i=>absurd i MO,(λ_ h=>absurd h MO),Mx _,trivial];let⟨a,e⟩:=qM (m:=d.b.cuts) d.b f g (zE d.b) p (fs:=[]) (λ_ h=>absurd h MO) (by show 0+_<=_;omega);rw[Pm]at a e;exact#[a,e]
def BA(n:ε)(d:Df):gJ n d=((mI d.b).1.pc n,(mI d.b).2.map$ dA.ct n):=Jq n d.b.cuts d.b rO [] (by show 0+_<=_;omega)
def Dg(n:ε)(d:Df):(gJ n d).1.w=(mI d.b).1.w.wy n:=by rw[BA];rfl
def uu(n:ε)(d:Df):bH n d=(mI d.b).2.reverse.map (dA.ct n):=by unfold bH;rw[BA,RW]
def Qe{P:List df}{f:π}{d:df}(h:be P f=δ d):d∈P:=SK h
def sM.cs(R:π->Nat->Prop):sM->Prop
 | .cl _ f t=>R f t.length
 |_=>True
theorem qv(s:bZ):∀b:bZ,(b.app s).size=b.size+s.size
 | .nil=>by show s.size=0+s.size;omega
 | .lf _ r=>by show(r.app s).size+1=r.size+1+s.size;rw[qv s r];omega
 | .ite _ a b r=>by show a.size+b.size+(r.app s).size+1=a.size+b.size+r.size+1+s.size;rw[qv s r];omega
 | .loop _ a r=>by show a.size+(r.app s).size+1=a.size+r.size+1+s.size;rw[qv s r];omega
def bZ.cs(R:π->Nat->Prop):bZ->Prop
 | .nil=>True
 | .lf l r=>l.cs R/\r.cs R
 | .ite _ a b r=>a.cs R/\b.cs R/\r.cs R
 | .loop _ a r=>a.cs R/\r.cs R
theorem JF{R:π->Nat->Prop}{s:bZ}(H:s.cs R):∀{b:bZ},b.cs R->(b.app s).cs R
 | .nil,_=>H
 | .lf _ _,h=>#[h.1,JF H h.2]
 | .ite _ _ _ _,h=>#[h.1,h.2.1,JF H h.2.2]
 | .loop _ _ _,h=>#[h.1,JF H h.2]
def bZ.sm(S:Nat):bZ->Prop
 | .nil=>True
 | .lf _ r=>r.sm S
 | .ite _ a b r=>a.sm S/\b.sm S/\r.sm S
 | .loop _ a r=>a.size<=S/\a.sm S/\r.sm S
theorem Kd{S:Nat}:∀{b:bZ},b.size<=S->b.sm S
 | .nil,_=>trivial
 | .lf _ r,h=>by let H:r.size+1<=S:=h;exact Kd (b:=r) LN
 | .ite _ a b r,h=>by let H:a.size+b.size+r.size+1<=S:=h;exact#[Kd LN,Kd LN,Kd LN]
 | .loop _ a r,h=>by let H:a.size+r.size+1<=S:=h;exact#[LN,Kd LN,Kd LN]
theorem K0{S:Nat}{s:bZ}(H:s.sm S):∀{b:bZ},b.sm S->(b.app s).sm S
 | .nil,_=>H
 | .lf _ r,h=>K0 H (b:=r) h
 | .ite _ _ _ _,h | .loop _ _ _,h=>#[h.1,h.2.1,K0 H h.2.2]
def Ia(d:List df)(f:π)(n:Nat):Prop:=∃e,be d f=δ e/\e.ps.length=n
def Z1(P:List df)(C:aE)(m:Int)(n:Nat)(E:∀y,n=y+1->∀(d:df) (F:List Int) (L:aE) (t D:Nat),d∈P->m=(t:Int)+(D:Int)->∃k o,k<=130000/\Ex P C m y k d.body (bV d.ps F) L t o):
  ∀(N:Nat) (b:bZ) (h L:aE) (t D:Nat),b.cs (Ia P)->b.sm 400->m=(t:Int)+(D:Int)->b.size+D*401<=N->∃k o,k<=N/\Ex P C m n k b h L t o:=by
 intro N;induction N with
 |zero=>
  intro b h L t D g H A i;cases b with
  |nil=>exact#[0,_,Mx _,.nil]
  |lf l r=>have:r.size+1+D*401<=0:=i;omega
  |ite T a b r=>have:a.size+b.size+r.size+1+D*401<=0:=i;omega
  |loop T a r=>have:a.size+r.size+1+D*401<=0:=i;omega
 |succ N I=>
  intro b h L t D g H A i;cases b with
  |nil=>exact#[0,_,MH _,.nil]
  |lf l r=>
   let s:r.size+1+D*401<=N+1:=i;let⟨G,c⟩:=g;cases l with
   |gv T=>exact#[0,_,MH _,.gv]
   |set x T=>let⟨k,o,p,q⟩:=I r (aD h (.inr x)$ .int$ T.ev h) L t D c H A LN;exact#[k+1,o,LN,.set q]
   |rd x T=>
    by_cases z:D=0
    .exact#[0,_,MH _,.longL Z LN]
    .let⟨k,o,p,q⟩:=I r (aD h (.inr x)$ .int$ look L (.inl$ T.ev h)$ look C (.inl$ T.ev h) 0) L (t+1) (D - 1) c H LN LN;exact#[k+1,o,LN,.rd LN q]
   |wr T U=>
    by_cases z:D=0
    .exact#[0,_,MH _,.longL Z LN]
    .let⟨k,o,p,q⟩:=I r h (aD L (.inl$ T.ev h)$ .int$ U.ev h) (t+1) (D - 1) c H LN LN;exact#[k+1,o,LN,.wr LN q]
   |cl x f J=>
    by_cases z:D=0
    .exact#[0,_,MH _,.longL Z LN]
    .cases n with
     |zero=>exact#[0,_,MH _,.deep LN]
     |succ n=>
      let⟨d,u,v⟩:=G;let⟨V,O,j,Q⟩:=E n Z d (J.map$ Tm.ev h) L (t+1) (D - 1) (Qe u) LN;cases O with
      |long=>exact#[0,_,MH _,.clL LN u v j Q]
      |deep=>exact#[0,_,MH _,.clD LN u v j Q]
      |done a M B=>let⟨W,R⟩:=CS Q Z;let X:=R LN;let⟨k,o,p,q⟩:=I r (aD h (.inr x)$ .int a) M B (m - B).toNat c H LN LN;exact#[k+1,o,LN,.cl LN u v j Q q]
  |ite T a b r=>
   let s:a.size+b.size+r.size+1+D*401<=N+1:=i;by_cases z:D=0
   .exact#[0,_,MH _,.longI LN]
   .let S:((if T.ev h=0 then b else a).app r).size<=a.size+b.size+r.size:=by rw[qv];split<;>omega
    let⟨k,o,p,q⟩:=I ((if T.ev h=0 then b else a).app r) h L (t+1) (D - 1) (JF g.2.2 (by split;exact g.2.1;exact g.1)) (K0 H.2.2 (by split;exact H.2.1;exact H.1)) LN LN;exact#[k+1,o,LN,.ite LN q]
  |loop T a r=>
   let s:a.size+r.size+1+D*401<=N+1:=i;by_cases z:D=0
   .exact#[0,_,MH _,.longW LN]
   .by_cases e:T.ev h=0
    .let⟨k,o,p,q⟩:=I r h L (t+1) (D - 1) g.2 H.2.2 LN LN;exact#[k+1,o,LN,.loop0 LN e q]
    .let S:(a.app$ .loop T a r).size=a.size+(a.size+r.size+1):=by rw[qv];rfl
     let:=H.1;let⟨k,o,p,q⟩:=I (a.app$ .loop T a r) h L (t+1) (D - 1) (JF g g.1) (K0 H H.2.1) LN LN;exact#[k+1,o,LN,.loop1 LN e q]
def Sd(D:List df):Prop:=∀d∈D,d.body.size<=400/\d.body.cs (Ia D)
def tL{P:List df}(b:Sd P)(C:aE){m:Int}(c:m<=300):∀(n:Nat) (d:df) (i:List Int) (L:aE) (t D:Nat),d∈P->m=(t:Int)+(D:Int)->∃k o,k<=130000/\Ex P C m n k d.body (bV d.ps i) L t o:=by
 intro n;induction n with
 |zero=>intro d i L t D h e;let⟨H,a⟩:=b d h;exact Z1 P C m 0 (λN z=>by omega) 130000 d.body _ L t D a (Kd H) e LN
 |succ n I=>intro d i L t D h e;let⟨H,a⟩:=b d h;exact Z1 P C m (n+1) (λN z=>by injection z with z;subst z;exact I) 130000 d.body _ L t D a (Kd H) e LN
theorem Cb{H:Hp}:∀{t:List (ε×Tm)},(∀c∈t,aR H c.2 c.1)->ll H (t.map (·.2)) (t.map λc=>vr c.1)
 | [],_=>rfl
 |c::t,h=>#[c.1,_,Z,h c MM,Cb λe a=>h e (MX _ a)]
def Fo{H:Hp}{p:ε}{l:Lf}{v:List V}(a:H p=δ (.tup v))(h:xu H l v):pH H (.ref p) l.er:=by
 cases l with
 |rd x t T |st x t T |gv t T=>let⟨rfl,h⟩:=h;exact#[p,t,Z,a,h]
 |wr t u T U=>let⟨rfl,h,k⟩:=h;exact#[p,t,u,Z,a,h,k]
 |cl x f q b=>let⟨rfl,h,k⟩:=h;exact#[p,q,_,Z,a,h,Cb k]
theorem YD{H:Hp}:∀{b:Bd} {x:List V},de H b x->eN H b.er x
 | .nil,_,h=>h
 | .lf p l r,_,z=>by let⟨v,y,e,c,d,f⟩:=z;exact #[.ref p,y,e,Fo c d,YD f]
 | .ite p t T a b r,_,z=>by let⟨q,Q,A,B,y,e,c,d,f,g,i,j,k⟩:=z;exact #[p,t,q,Q,A,B,y,e,c,d,f,YD i,g,YD j,YD k]
 | .loop p t T a r,_,z=>by let⟨q,A,y,e,c,d,f,g,i⟩:=z;exact #[p,t,q,A,y,e,c,d,f,YD g,YD i]
theorem zB:∀(b:Bd),b.er.size=b.size
 | .nil=>rfl
 | .lf _ _ r=>NK (·+1) (zB r)
 | .ite _ _ _ a b r=>by show a.er.size+b.er.size+r.er.size+1=a.size+b.size+r.size+1;rw[zB a,zB b,zB r]
 | .loop _ _ _ a r=>by show a.er.size+r.er.size+1=a.size+r.size+1;rw[zB a,zB r]
theorem Jr:∀(b:bZ),b.top<=b.size
 | .nil=>Mx _
 | .lf _ r=>NF (Jr r)
 | .ite _ a b r=>by let:=Jr r;show r.top+1<=a.size+b.size+r.size+1;omega
 | .loop _ a r=>by let:=Jr r;show r.top+1<=a.size+r.size+1;omega
def qN{y:List π}{T:Tm}(h:dj y T):j' T:=#[by let:=h.2;omega,y,h.1]
def CG{y:List π}:∀{l:Lf},l.Ok y->l.er.Ok
 | .rd _ _ _,h | .st _ _ _,h=>qN h.2
 | .wr _ _ _ _,h=>#[qN h.1,qN h.2]
 | .cl _ _ _ t,h=>#[λT H=>by let⟨c,a,rfl⟩:=bS.mp H;exact qN (h.2.2 c a),by rw[Mv];let:=h.2.1;omega]
 | .gv _ _,h=>qN h
theorem KI{y:List π}:∀{b:Bd},b.Ok y->b.size<=400->b.er.Ok
 | .nil,_,_=>trivial
 | .lf _ l r,h,z=>#[CG h.1,KI h.2 (by let c:r.size+1<=400:=z;omega)]
 | .ite _ _ _ a b r,h,z=>by let c:a.size+b.size+r.size+1<=400:=z;let H:=Jr a.er;let d:=Jr b.er;rw[zB]at H d;exact#[#[qN h.1,LN,LN],KI h.2.1 LN,KI h.2.2.1 LN,KI h.2.2.2 LN]
 | .loop _ _ _ a r,h,z=>by let c:a.size+r.size+1<=400:=z;let H:=Jr a.er;rw[zB]at H;exact#[#[qN h.1,LN],KI h.2.1 LN,KI h.2.2 LN]
theorem KJ{F:gi}{R:π->Nat->Prop}(k:∀f n,(f,n)∈F->R f n):∀{b:Bd},b.Cs F->b.er.cs R
 | .nil,_=>trivial
 | .lf _ l r,h=>#[by cases l with
   |cl x f q c=>show R f (c.map (·.2)).length;rw[Mv];exact k _ _ h.1
   |rd x t T |st x t T |wr t u T U=>trivial
   |gv t T=>trivial,KJ k h.2]
 | .ite _ _ _ a b r,h=>#[KJ k h.1,KJ k h.2.1,KJ k h.2.2]
 | .loop _ _ _ a r,h=>#[KJ k h.1,KJ k h.2]
abbrev Qd:=Df×List π
def Qd.pl(q:Qd):df:=#[q.1.f,q.2,q.1.b.er]
def Qd.mk(q:Qd):fh:=De q.1.f q.2 q.1.b
theorem Z2{f:π}{d:df}:∀{qs:List Qd},be (qs.map Qd.pl) f=δ d->∃q∈qs,q.1.f=f/\d=q.pl/\dP (qs.map Qd.mk) f=δ q.mk
 | [],h=>by cases h
 |q::qs,h=>by
  by_cases e:q.1.f=f
  .let H:be (q.pl::qs.map Qd.pl) f=δ d:=h;unfold be at H;rw[NN,Ng (show q.pl.f=f from e)]at H;cases H;erw[#[q,MM,e,Z,?_]];show(if q.mk.f=f then δ q.mk else _)=_;rw[MQ (show q.mk.f=f from e)]
  .let H:be (q.pl::qs.map Qd.pl) f=δ d:=h;unfold be at H;rw[NN,MY (show ¬q.pl.f=f from e)]at H;let⟨r,a,b,c,g⟩:=Z2 (qs:=qs) H;erw[#[r,MX _ a,b,c,?_]];show(if q.mk.f=f then δ q.mk else dP (qs.map Qd.mk) f)=_;rw[MS (show ¬q.mk.f=f from e)];exact g
theorem Zu:∀{Q:List Qd} {q:Qd},q∈Q->(Q.map λq=>q.1.f).Nodup->be (Q.map Qd.pl) q.1.f=δ q.pl/\dP (Q.map Qd.mk) q.1.f=δ q.mk
 |r::Q,q,h,n=>by
  rw[Nw,Ri]at n;rcases Ψ.mp h with rfl |h
  .refine#[?_,?_]
   .show be (q.pl::Q.map Qd.pl) q.1.f=_;unfold be;rw[NN,Ng (show q.pl.f=q.1.f from Z)]
   .show(if q.mk.f=q.1.f then δ q.mk else _)=_;rw[MQ (show q.mk.f=q.1.f from Z)]
  .let N:¬r.1.f=q.1.f:=λe=>n.1 (by rw[e];exact bS.mpr #[q,h,Z]);let⟨H,a⟩:=Zu h n.2;refine#[?_,?_]
   .show be (r.pl::Q.map Qd.pl) q.1.f=_;unfold be;rw[NN,MY (show ¬r.pl.f=q.1.f from N)];exact H
   .show(if r.mk.f=q.1.f then δ r.mk else dP (Q.map Qd.mk) q.1.f)=_;rw[MS (show ¬r.mk.f=q.1.f from N)];exact a
def Ee(Q:List Qd):gi:=Q.map λq=>(q.1.f,q.2.length)
structure Bh(H:Hp)(F:gi)(q:Qd):Prop where
 bd:∃bs,de H q.1.b bs
 ok:i' q.1
 cs:q.1.b.Cs F
 pa:H q.1.pa=δ (.tup$ q.2.map ti)
 l1:q.2.length<=100
def Bh.mono{H a:Hp}{F:gi}{q:Qd}(h:Bh H F q)(k:aj H a):Bh a F q:=#[let #[B,b]:=h.bd;#[B,b.mono k],h.ok,h.cs,k _ _ h.pa,h.l1]
theorem BK{H:Hp}:∀{ds:List Df} {ns:List Nat},i8 H ds ns->∃Q:List Qd,Q.map dg=ds/\(Q.map λq=>q.2.length)=ns/\∀q∈Q,H q.1.pa=δ (.tup$ q.2.map ti)/\q.2.length<=100
 | [],[],_=>#[[],Z,Z,λq h=>absurd h MO]
 | [],_::_,h |_::_,[],h=>by cases h.1
 |d::ds,n::ns,h=>by
  let⟨p,e,f,k⟩:=h.2 0 d n Z Z;let⟨Q,E,g,j⟩:=BK (ds:=ds) (ns:=ns) #[by let:=h.1;simpa using this,λi c m a b=>h.2 (i+1) c m (by simpa using a) (by simpa using b)];erw[#[(d,p)::Q,by rw[Nw,E],by rw[Nw,g,<- f],λq hq=>?_]];rcases Ψ.mp hq with rfl |hq
  .exact#[e,by show p.length<=100;omega]
  .exact j q hq
theorem tw{H:Hp}:∀{D:List Df} {z:List V},b6 H D z->∀{d:Df},d∈D->∃B,de H d.b B
 |c::_,_,q,d,hd=>by
  obtain⟨u,r,e,⟨B,_,_,_,h⟩,a⟩:=q;rcases Ψ.mp hd with rfl |hd
  .exact#[B,h]
  .exact tw a hd
def Ef{Q:List Qd}:((Q.map dg).map Df.f).zip (Q.map λq=>q.2.length)=Ee Q:=by unfold Ee;rw[NJ,UT];rfl
def Gv{H:Hp}{d:List Df}{n:List Nat}{z:List V}(c:b6 H d z)(h:lI d n)(g:i8 H d n):∃Q:List Qd,Q.map dg=d/\(∀q∈Q,Bh H (Ee Q) q)/\(Q.map λq=>q.1.f).Nodup:=by let⟨Q,E,i,e⟩:=BK g;subst E;subst i;rw[lI,Ef,NJ]at h;erw[#[Q,Z,λq a=>?_,h.2.1]];let b:q.1∈Q.map dg:=bS.mpr #[q,a,Z];let⟨j,k⟩:=h.1 _ b;exact#[tw c b,j,k,(e q a).1,(e q a).2]
def CV{Q:List Qd}(N:(Q.map λq=>q.1.f).Nodup)(f:π)(n:Nat)(h:(f,n)∈Ee Q):Ia (Q.map Qd.pl) f n:=by let⟨q,H,e⟩:=bS.mp h;cases e;exact#[_,(Zu H N).1,Z]
def BU{H:Hp}{Q:List Qd}(h:∀q∈Q,Bh H (Ee Q) q)(n:(Q.map λq=>q.1.f).Nodup):Sd (Q.map Qd.pl):=λd a=>by let⟨q,c,rfl⟩:=bS.mp a;let z:=h q c;exact#[by show q.1.b.er.size<=400;rw[zB];exact z.ok.2.2,KJ (CV n) z.cs]
def Lu{H:Hp}{y:List π}{m:Nat}:sF H y m 0 rO:=#[λx h=>absurd h MO,#[λ_ h=>absurd h MO,Mx _,trivial]]
def FP{H:Hp}{F:gi}{y:List π}{b:Bd}{B:List V}(a:de H b B)(d:b.Ok y)(e:b.Cs F):sF H y b.cuts b.size (mI b).1/\∀c∈(mI b).2,xF F H y b.cuts b.size c:=by let z:=qM (m:=b.cuts) (N:=0) b a d e Lu (fs:=[]) (λ_ h=>absurd h MO) (by show 0+_<=_;omega);rw[Pm]at z;exact z
def yq{H:Hp}{Q:List Qd}(h:∀q∈Q,Bh H (Ee Q) q):sJ (Q.map Qd.pl) (Q.map Qd.mk):=λf d e=>by let⟨q,a,rfl,rfl,g⟩:=Z2 e;erw[#[q.1.b,Z,g,λi c j x k=>?_]];let⟨B,l⟩:=(h q a).bd;obtain⟨⟨y,_,m⟩,_⟩:=(h q a).ok;exact pN ((FP l m (h q a).cs).2 c$ ML j).mem x k
theorem BG{H:Hp}{pA:ε}{xs:List V}:∀{Q:List Qd} {xs:List V} {F:gi},b6 H (Q.map dg) xs->(∀q∈Q,Bh H F q)->fV H (Q.map Qd.pl) xs
 | [],_,_,h,_=>h
 |q::Q,xs,F,h,k=>by obtain⟨u,r,e,⟨b,E,a,d,f⟩,g⟩:=h;exact#[u,r,e,#[_,_,_,b,E,a,(k q MM).pa,d,YD f],BG (pA:=pA) (xs:=xs) g λc i=>k c (MX _ i)]
def bZ.dep:bZ->Nat
 | .nil=>0
 | .lf _ r=>r.dep
 | .ite _ a b r=>max (max a.dep b.dep+1) r.dep
 | .loop _ a r=>max (a.dep+1) r.dep
def bZ.turn:bZ->Bool
 | .nil=>μ
 | .lf l _=>l.turn
 | .ite _ _ _ _ | .loop _ _ _=>ν
section
variable {P:List df}{C:aE}{m:Int}{n k:Nat}{h L:aE}{t:Nat}{o:iJ}
def JG{b:bZ}(x:Ex P C m n k b h L t o)(e:b.turn=ν)(g:m<=(t:Int)):o= .long:=by cases x<;>first |rfl | (exfalso;omega) |cases e
def CQ{x:π}{T:Tm}{r:bZ}(q:Ex P C m n k (.lf (.set x T) r) h L t o):∃a,k=a+1/\Ex P C m n a r (aD h (.inr x)$ .int$ T.ev h) L t o:=by
 cases q with
 |set q=>exact#[_,Z,q]
 |longL e g=>cases e
def FG{x:π}{T:Tm}{r:bZ}(q:Ex P C m n k (.lf (.rd x T) r) h L t o)(g:(t:Int) < m):∃a,k=a+1/\Ex P C m n a r (aD h (.inr x)$ .int$ look L (.inl$ T.ev h)$ look C (.inl$ T.ev h) 0) L (t+1) o:=by
 cases q with
 |rd _ q=>exact#[_,Z,q]
 |longL e g=>exfalso;omega
def FH{T U:Tm}{r:bZ}(q:Ex P C m n k (.lf (.wr T U) r) h L t o)(g:(t:Int) < m):∃a,k=a+1/\Ex P C m n a r h (aD L (.inl$ T.ev h)$ .int$ U.ev h) (t+1) o:=by
 cases q with
 |wr _ q=>exact#[_,Z,q]
 |longL e g=>exfalso;omega
def CO{T:Tm}{a b r:bZ}(q:Ex P C m n k (.ite T a b r) h L t o)(g:(t:Int) < m):∃c,k=c+1/\Ex P C m n c ((if T.ev h=0 then b else a).app r) h L (t+1) o:=by
 cases q with
 |ite _ q=>exact#[_,Z,q]
 |longI g=>exfalso;omega
def yb{T:Tm}{a r:bZ}(q:Ex P C m n k (.loop T a r) h L t o)(g:(t:Int) < m):∃b,k=b+1/\Ex P C m n b (if T.ev h=0 then r else a.app (.loop T a r)) h L (t+1) o:=by
 cases q with
 |loop1 _ e q=>exact#[_,Z,by rw[MS e];exact q]
 |loop0 _ e q=>exact#[_,Z,by rw[MQ e];exact q]
 |longW g=>exfalso;omega
def Fy{x f:π}{T:List Tm}{r:bZ}(q:Ex P C m n k (.lf (.cl x f T) r) h L t o)(g:(t:Int) < m):(n=0/\o= .deep)∨∃N j d O,n=N+1/\be P f=δ d/\d.ps.length=T.length/\j<=130000/\Ex P C m N j d.body (bV d.ps$ T.map$ Tm.ev h) L (t+1) O/\
  ((O= .long/\o= .long)∨(O= .deep/\o= .deep)∨∃a l p s,O= .done a l p/\k=s+1/\Ex P C m n s r (aD h (.inr x)$ .int a) l p o):=by
 cases q with
 |cl _ H b i c q=>exact .inr #[_,_,_,_,Z,H,b,i,c,.inr (.inr #[_,_,_,_,Z,Z,q])]
 |clL _ H b i c=>exact .inr #[_,_,_,_,Z,H,b,i,c,.inl #[Z,Z]]
 |clD _ H b i c=>exact .inr #[_,_,_,_,Z,H,b,i,c,.inr (.inl #[Z,Z])]
 |deep g=>exact .inl #[Z,Z]
 |longL e g=>exfalso;omega
end
theorem Z3:∀(b:List π) (I:List Int) (a:aE),(∀i∈I,dE i)->GT a->GT (((b.map Sum.inr).zip$ I.map tT).foldl (λ(a:aE) k=>aD a k.1 k.2) a)/\(((b.map Sum.inr).zip$ I.map tT).foldl (λ(a:aE) k=>aD a k.1 k.2) a).length<=a.length+b.length
 | [],_,a,_,h |p::b,[],a,_,h=>#[by simpa using h,LM]
 |p::b,i::I,a,H,h=>by let q:=Z3 b I (aD a (.inr p)$ .int i) (λz c=>H z (MX _ c)) (h.put _$ H i MM);let l:=Jb a (.inr p) (.int i);erw[#[by simpa using q.1,?_]];let:=q.2;simp only[Nw,List.zip_cons_cons,List.foldl_cons,MZ];omega
def Fz{P:List df}{C:aE}{m:Int}{n k:Nat}{h L:aE}{t:Nat}{o:iJ}{T:Tm}{r:bZ}(q:Ex P C m n k (.lf (.gv T) r) h L t o):o= .done (T.ev h) L t:=by
 cases q with
 |gv=>rfl
 |longL e g=>cases e
def CP{P:List df}{C:aE}{m:Int}{n k:Nat}{h L:aE}{t:Nat}{o:iJ}(q:Ex P C m n k .nil h L t o):o= .done 0 L t:=by cases q;rfl
structure Bf(H:Hp)(pA:ε)(P:List df):Prop where
 at':∃xs,H pA=δ (.tup xs)/\fV H P xs
 few:∀d∈P,d.ps.length<=100/\d.body.top<=1000/\d.body.Ok
def Bf.mono{H a:Hp}{p:ε}{P:List df}(h:Bf H p P)(k:aj H a):Bf a p P:=#[let #[x,b,c]:=h.at';#[x,k _ _ b,c.mono k],h.few]
def FE{P:List df}{C:aE}{m:Int}{n k:Nat}{b:bZ}{h L:aE}{t:Nat}{o:iJ}(q:Ex P C m n k b h L t o):∀a l T,o= .done a l T->t<=T/\((t:Int)<=m->(T:Int)<=m):=λ_ _ _ e=>CS q e
theorem Js:∀(b:Bd),b.er.dep=b.dep
 | .nil=>rfl
 | .lf _ _ r=>Js r
 | .ite _ _ _ a b r=>by show max (max a.er.dep b.er.dep+1) r.er.dep=max (max a.dep b.dep+1) r.dep;rw[Js a,Js b,Js r]
 | .loop _ _ _ a r=>by show max (a.er.dep+1) r.er.dep=max (a.dep+1) r.dep;rw[Js a,Js r]
abbrev HU:da:=top 68
inductive iu(n:Nat)(e:List V)(H:Hp)(Q:VK)(b:XK):Prop
 |mk(a d:ε)(T:Tm)(f:List π)(c:aE)(_:e=[.ref a,.ref d])(_:aR H T a)(_:T.depth < n)(_:T.Good f)(_:H d=δ (.dK c))(_:GT c)(_:∀H',af H H'->Q (.int (T.ev c)) H')
def D8:ak ["_law_term_here","_law_held","_law_one","_law_other"] z4z (ae HU):=bQ
def Gi{f:ε}{M:Φ}(F:xa K "_law_worth" HU f M){n:Nat}(X:‹n+1› f M z4z (iu n) "_law_worth")(O:mg "int"=ζ)(mm:mg "max"=ζ):⇑(n+2) f M z4z (iu$ n+1):=by
 erw[F.ok D8 λc0 A R s H vs Q E U h=>?_]
 let⟨a,d,T,Y,p,rfl,W,dp,G,C,B,q⟩:=h;erw[#[_,(jd (jx (jZ$ jy$ pv 0) (jg$ jm$ jy$ pv 0) jo)$ jd (jx (jZ$ jy$ pv 0) (jg$ jm$ @qR _ _ _ _ _ _ _ _ _ (jR U) (pv 1) (jy$ pv 0) jf #[LK,LK,LK,LK]) jo)$ jd (jz 2 D8.nd$ X.e U$ ja (jy$ pv 0)$ ja (pv 1) jb)$ jd (jz 3 D8.nd$ X.e U$ ja (jy$ pv 0)$ ja (pv 1) jb)$ jd (jx (jZ$ jy$ pv 0) (jg$ jm$ jr jp (jD$ ja (jw JI (pv 2)$ jF (J3 Z) Z mm VF$ ja jf$ ja (pv 3) jb)$ ja jf jb) (jC j8 Z O Pl$ ja (kU zJ (pv 3) jf$ ax _) jb) (λ_ _=>Z)) jo)$ jd (jx (jZ$ jy$ pv 0) (jg$ jm$ jC j8 Z O Pl$ ja (kU Kz (pv 2) (pv 3)$ ax _) jb) jo)$ jd (jx (jZ$ jy$ pv 0) (jg$ jm$ jC j8 Z O Pl$ ja (kU zJ (pv 2) (pv 3)$ ax _) jb) jo)$ jg$ jm$ jw zk (jr jp (jD$ ja (jw jS (pv 2)$ pv 3)$ ja (jw kQ (pv 2)$ pv 3)$ ja (jw zH (pv 2)$ pv 3) jb) (zh OX PySem.F.slot_str_index PySem.F.type_str_index uy jj$ ja (jy$ pv 0) jb) (λ_ _=>Z))$ jw JU jf jf),?_]];cases T with
 |num m=>have c:H a=δ (.tup [.str "num",.int m]):=W;exact ah λj b=>(jq c Z #[Z,_,Z,bJ LL$ jq c Z$ q H$ af.refl H])
 |var x=>have c:H a=δ (.tup [.str "var",.str x]):=W;erw[ah λj b=>(jq c Z #[Z,_,Z,aI LL$ b _ _ ?_])];erw[ah λj b=>(jq c Z #[Z,_,Z,bJ LL #[_,Z,d,Z,.inl #[p,.inl C],jq c Z #[_,a7.k (k:=Sum.inr x) C,?_]]])];rw[qX B];exact q H$ af.refl H
 |op i D I=>
  let⟨p1,p2,c,h1,h2⟩:=W;let d0:max D.depth I.depth+1 < n+1:=dp;erw[ah λj b=>(jq c Z #[Z,_,Z,aI LL$ b _ _ ?_])];clear b;erw[ah λj b=>(jq c Z #[Z,_,Z,aI LL$ b _ _ ?_])];clear b;erw[ah λj b=>(jq c Z #[_,Z,p1,d,D,Y,p,Z,h1,LN,G.2.1,C,B,λH1 J=>b _ _ ?_])];clear b;erw[ah λj b=>(jq (J _ _ c) Z #[_,Z,p2,d,I,Y,p,Z,h2.same J,LN,G.2.2,J _ _ C,B,λu s2=>b _ _ ?_])];clear b;let S:af H u:=J.trans s2;replace c:=S _ _ c;let v:∀L,af u L->Q (.int$ jn i (D.ev p)$ I.ev p) L:=λL s=>q L (S.trans s);let⟨h0,h3⟩:=z9 B G.2.1;let⟨h4,h5⟩:=z9 B G.2.2;let hi:=G.1;generalize D.ev p=x at*;generalize I.ev p=y at*;rcases(by omega:i=0∨i=1∨i=2∨i=3∨i=4∨i=5) with rfl |rfl |rfl |rfl |rfl |rfl
  .erw[ah λj b=>(jq c Z #[Z,_,Z,aI LL$ b _ _ ?_])];clear b;erw[ah λj b=>(jq c Z #[Z,_,Z,aI LL$ b _ _ ?_])];clear b;erw[ah λj b=>(jq c Z #[Z,_,Z,aI LL$ b _ _ ?_])];clear b;erw[#[_,Z,_,Z,_,_,Z,Z,_,Z,_,Z,_,_,Z,Z,_,Z,_,Z,_,_,Z,Z,.inl #[LN,LN],eJ,λl N=>?_]];let r:=am (o:=.lst [.int$ x+y,.int$ x - y,.int$ x*y]) c N;erw[#[Z,jq r Z #[_,_,0,[],Z,Z,LL,l,_,_,_,Z,Z,aF.of jc,Z,_,_,Z,Z,#[LO,LO,LO],_,_,Z,Z,(by show(0:Int) < (10:Int) ^ (18:Int).toNat;decide),?_]]];rw[lH];exact v _$ je N
  .erw[ah λj b=>(jq c Z #[Z,_,Z,aI LL$ b _ _ ?_])];clear b;erw[ah λj b=>(jq c Z #[Z,_,Z,aI LL$ b _ _ ?_])];clear b;erw[ah λj b=>(jq c Z #[Z,_,Z,aI LL$ b _ _ ?_])];clear b;erw[#[_,Z,_,Z,_,_,Z,Z,_,Z,_,Z,_,_,Z,Z,_,Z,_,Z,_,_,Z,Z,.inl #[LN,LN],eJ,λl N=>?_]];let r:=am (o:=.lst [.int$ x+y,.int$ x - y,.int$ x*y]) c N;erw[#[Z,jq r Z #[_,_,1,[],Z,Z,LL,l,_,_,_,Z,Z,aF.of jc,Z,_,_,Z,Z,#[LO,LO,LO],_,_,Z,Z,(by show(0:Int) < (10:Int) ^ (18:Int).toNat;decide),?_]]];rw[lH];exact v _$ je N
  .erw[ah λj b=>(jq c Z #[Z,_,Z,aI LL$ b _ _ ?_])];clear b;erw[ah λj b=>(jq c Z #[Z,_,Z,aI LL$ b _ _ ?_])];clear b;erw[ah λj b=>(jq c Z #[Z,_,Z,aI LL$ b _ _ ?_])];clear b;erw[#[_,Z,_,Z,_,_,Z,Z,_,Z,_,Z,_,_,Z,Z,_,Z,_,Z,_,_,Z,Z,.inl #[LN,LN],eJ,λl N=>?_]];let r:=am (o:=.lst [.int$ x+y,.int$ x - y,.int$ x*y]) c N;erw[#[Z,jq r Z #[_,_,2,[],Z,Z,LL,l,_,_,_,Z,Z,aF.of jc,Z,_,_,Z,Z,#[LO,LO,LO],_,_,Z,Z,(by show(0:Int) < (10:Int) ^ (18:Int).toNat;decide),?_]]];rw[lH];exact v _$ je N
  .erw[ah λj b=>(jq c Z #[Z,_,Z,bJ LL ?_])];erw[#[_,Z,_,Z,_,_,Z,_,_,Z,Z,#[by split<;>omega,by split<;>omega],bg,λl N=>?_]];let t:=v _ (je (o:=.lst [.int$ x / (if (y:Int) > 1 then y else 1),.int 0]) N);let q2:Q (.int (if y=0 then 0 else x / y)) (upd u l$ .lst [.int$ x / (if (y:Int) > 1 then y else 1),.int 0]):=t;erw[#[_,Z,Z,.inr #[_,Z,l,_,_,_,Z,Z,aF.of jc,(?_:dM _ _=δ (.int (if y=0 then 0 else x / y))),q2]]];by_cases e:y=0
   .rw[e];rfl
   .rw[MS e,MY (λz=>e (by injection z))];show δ (tT$ x / (if (y:Int) > 1 then y else 1))=_;by_cases g:(y:Int) > 1
    .rw[MQ g]
    .rw[MS g,show y=1 by omega]
  .erw[ah λj b=>(jq c Z #[Z,_,Z,aI LL$ b _ _ ?_])];clear b;erw[ah λj b=>(jq c Z #[Z,_,Z,bJ LL ?_])];let t:Q (.int (if x < y then 1 else 0)) u:=v _ (af.refl u);erw[#[_,Z,_,Z,_,_,Z,Z,.inr #[_,Z,?_]]];by_cases e:x < y
   .rw[MQ e]at t;rw[Ng e];exact t
   .rw[MS e]at t;rw[MY e];exact t
  .erw[ah λj b=>(jq c Z #[Z,_,Z,aI LL$ b _ _ ?_])];clear b;erw[ah λj b=>(jq c Z #[Z,_,Z,aI LL$ b _ _ ?_])];clear b;erw[ah λj b=>(jq c Z #[Z,_,Z,bJ LL ?_])];let t:Q (.int (if x=y then 1 else 0)) u:=v _ (af.refl u);erw[#[_,Z,_,Z,Z,.inr #[_,Z,?_]]];by_cases e:x=y
   .rw[MQ e]at t;rw[Ng (by rw[e])];exact t
   .rw[MS e]at t;rw[MY (λz=>e (by injection z))];exact t
def FY{f:ε}{F:Φ}:⇑1 f F z4z (iu 0):=by
 let n:∀v H Q E,¬iu 0 v H Q E:=λv H Q E h=>by let⟨a,d,T,y,k,_,_,c,_⟩:=h;exact absurd c$ OU _
 exact#[λv H Q E h=>absurd h (n v H Q E),λA o s H b u v Q E _ _ _ _ h=>absurd h (n v H Q E)]
theorem HR{f:ε}{a:Φ}(F:xa K "_law_worth" HU f a)(b:au K a z4z [])(m:mg "_law_worth"=↑f)(M:mg "int"=ζ)(c:mg "max"=ζ):
  ∀n:Nat,⇑(n+1) f a z4z (iu n)
 |0=>FY
 |n+1=>Gi F #[(HR F b m M c n),b,F.kp,m] M c
abbrev oh:da:=top 69
def stk(h W:ε)(t:Nat)(m:Int)(w:π)(g:ε):aE:=[(.inr "holds",.ref h),(.inr "wrote",.ref W),(.inr "turns",.int (t:Int)),(.inr "most",.int m),(.inr "word",.str w),(.inr "log",.ref g)]
structure Sx(C:aE)(H:Hp)(sA hA wA gA:ε)(L:aE)(t:Nat)(m:Int)(w:π):Prop where
 st:H sA=δ (.dK$ stk hA wA t m w gA)
 ho:∃HD,H hA=δ (.dK HD)/\GT HD/\HD.length<=20+t/\∀c,look HD (.inl c) 0=look L (.inl c) (look C (.inl c) 0)
 wr:H wA=δ (.dK L)
 lg:∃xs,H gA=δ (.lst xs)/\xs.length<=t
 gL:GT L
 lL:L.length<=t
 n1:sA≠hA
 n2:sA≠wA
 n3:hA≠wA
 tm:(t:Int)<=m
def Fr(s h W g:ε)(H a:Hp):Prop:=∀b o,b≠s->b≠h->b≠W->b≠g->H b=δ o->a b=δ o
def Fr.trans{s h W g:ε}{H d f:Hp}(a:Fr s h W g H d)(b:Fr s h W g d f):Fr s h W g H f:=λc o n N i j e=>b c o n N i j (a c o n N i j e)
def Fr.of_same{S a W g:ε}{H h:Hp}(s:af H h):Fr S a W g H h:=λb o _ _ _ _ e=>s _ _ e
section
variable {C:aE}{H H':Hp}{sA hA wA gA:ε}{L:aE}{t:Nat}{m:Int}{w:π}
def Fr.tm(f:Fr sA hA wA gA H H')(S:Sx C H sA hA wA gA L t m w):aj H H':=λb x e=>by let⟨c,h,_⟩:=S.ho;let⟨y,a,_⟩:=S.lg;exact f b _ (jE e S.st (by intro z;cases z)) (jE e h (by intro z;cases z)) (jE e S.wr (by intro z;cases z)) (jE e a (by intro z;cases z)) e
def Sx.same(S:Sx C H sA hA wA gA L t m w)(s:af H H'):Sx C H' sA hA wA gA L t m w:=by let⟨h,a,b⟩:=S.ho;let⟨y,g,G⟩:=S.lg;exact#[s _ _ S.st,#[h,s _ _ a,b],s _ _ S.wr,#[y,s _ _ g,G],S.gL,S.lL,S.n1,S.n2,S.n3,S.tm]
def Sx.put(S:Sx C H sA hA wA gA L t m w){T:Nat}(h:t<=T)(a:(T:Int)<=m)(W:π):Sx C (upd H sA$ .dK$ stk hA wA T m W gA) sA hA wA gA L T m W:=by let⟨b,c,d,f,e⟩:=S.ho;let⟨y,g,G⟩:=S.lg;let l:=S.lL;exact#[jc,#[b,(ji$ MU S.n1).trans c,d,LN,e],(ji$ MU S.n2).trans S.wr,#[y,(ji$ jE g S.st (by intro z;cases z)).trans g,LN],S.gL,LN,S.n1,S.n2,S.n3,a]
end
inductive dD(e:List V)(H:Hp)(Q:VK)(a:XK):Prop
 |mk(C:aE)(d c f b:ε)(L:aE)(t:Nat)(m:Int)(v:V)(_:e=[.ref d,v])(_:Sx C H d c f b L t m "told")(_:(t:Int)<=m)(_:m<=300)(_:(t:Int)=m->∀H',Sx C H' d c f b L t m "long"->Fr d c f b H H'->Q (.bl μ) H')(_:(t:Int) < m->∀H',Sx C H' d c f b L (t+1) m "told"->Fr d c f b H H'->Fr d d d b H H'->Q (.bl ν) H')
def Az:ak z15z z15z (ae oh):=bQ
def uS{f:ε}{x:Φ}(F:xa K "_law_turn" oh f x):⇑1 f x z15z dD:=by
 erw[F.ok Az λU A O s H vs Q E j h=>?_]
 let⟨C,a,l,W,g,L,t,m,v,rfl,S,X,hm,Y,qT⟩:=h;erw[#[_,(jd (jx (jB zJ (kj (jR j) (pv 0) jj (λ_ _=>Z)) (kj (jR j) (pv 0) jj (λ_ _=>Z))$ ax _) (jd (za (jR j) (pv 0) jj jj Z)$ jg$ jm$ @Jf _ _ _ _) jo)$ jd (za (jR j) (pv 0) jj (jw jS (kj (jR j) (pv 0) jj (λ_ _=>Z)) jf) Z)$ jd (jT$ zh M4 M7 M6 jQ (kj (jR j) (pv 0) jj (λ_ _=>Z))$ ja (pv 1) jb)$ jg$ jm$ @Jf _ _ _ _),?_]];let b0:=aJ;let G:a7 H a (ti "turns") (δ$ .int (t:Int)):=a7.k (k:=.inr "turns") S.st;let g2:a7 H a (ti "most") (δ$ .int m):=a7.k (k:=.inr "most") S.st;erw[ah λD i=>#[_,Z,a,_,Z,G,_,Z,a,_,Z,g2,Z,_,Z,?_]];by_cases c:(t:Int)=m
 .erw[bJ (by rw[c];exact Ng Z) ?_];erw[ah λF2 f2=>#[_,Z,a,_,Z,gc.k (k:=.inr "word") S.st (by show 6 < τ;omega),f2 _ _ ?_]];exact Y c _ (S.put (Mx _) S.tm "long") (λb o N _ _ _ e=>by rw[ji N];exact e)
 erw[aI (MY (λz=>c (by injection z)))$ i _ _ ?_];clear i;erw[ah λD i=>#[_,Z,a,_,Z,G,_,_,Z,Z,_,Z,a,_,Z,gc.k (k:=.inr "turns") S.st (by show 6 < τ;omega),i _ _ ?_]];clear i;let⟨y,I,l2⟩:=S.lg;let n:upd H a (.dK$ stk l W (t+1) m "told" g) g=δ (.lst y):=(ji$ jE I S.st (by intro z;cases z)).trans I;let d:=S.put (NM t) LN "told";let u:Fr a a a g H (upd H a$ .dK$ stk l W (t+1) m "told" g):=λb o N _ _ _ e=>by rw[ji N];exact e
 show cy _ _ _ _ (upd H a$ .dK$ stk l W (t+1) m "told" g);generalize upd H a (.dK$ stk l W (t+1) m "told" g)=J at d u n;let⟨HD,M,h2,h3,h4⟩:=d.ho;let p:J g=δ (.lst y):=n;let g3:a7 J a (ti "log") (↑g):=a7.k (k:=.inr "log") d.st;erw[ah λD i=>#[_,Z,a,_,Z,g3,.inl #[Z,_,aF.of p],_,Z,g,_,_,Z,Z,p,LN,i _ _ ?_]];clear i;let n5:a≠g:=jE d.st p (by intro z;cases z);let n6:l≠g:=jE M p (by intro z;cases z);let n7:W≠g:=jE d.wr p (by intro z;cases z);exact qT LN _ #[(ji n5).trans d.st,#[HD,(ji n6).trans M,h2,h3,h4],(ji n7).trans d.wr,#[_,jc,by rw[Mz];show y.length+1<=t+1;omega],d.gL,d.lL,d.n1,d.n2,d.n3,d.tm] (λb o q R T r e=>by rw[ji r];exact u b o q q q r e) (λb o q R T r e=>by rw[ji r];exact u b o q R T r e)
abbrev GV:da:=top 70
abbrev GQ:da:=top 71
abbrev GP:da:=top 72
abbrev GS:da:=top 73
def sL(P:List df):Prop:=P.length<=1000/\∀d∈P,d.body.dep<=5
structure du(C:aE)(P:List df)(H:Hp)(pA kA sA hA wA gA:ε)(h L:aE)(t k:Nat)(m deep:Int)(n:Nat):Prop where
 dp:deep+(n:Int)=15
 pr:Bf H pA P
 sx:Sx C H sA hA wA gA L t m "told"
 kh:H kA=δ (.dK h)
 gh:GT h
 k1:kA≠sA
 k2:kA≠hA
 k3:kA≠wA
 lh:h.length+k<=130100
 tm:(t:Int)<=m
 mm:m<=300
 kk:k<=130000
 fp:sL P
def Fk(k s h W g:ε)(H a:Hp):Prop:=∀b o,b≠k->b≠s->b≠h->b≠W->b≠g->H b=δ o->a b=δ o
def Fk.refl{k s h W g:ε}{H:Hp}:Fk k s h W g H H:=λ_ _ _ _ _ _ _ e=>e
def Fk.trans{k s h W g:ε}{H d f:Hp}(a:Fk k s h W g H d)(b:Fk k s h W g d f):Fk k s h W g H f:=λc o n N i j l e=>b c o n N i j l (a c o n N i j l e)
def Fk.of_same{k S a W g:ε}{H h:Hp}(s:af H h):Fk k S a W g H h:=λb o _ _ _ _ _ e=>s _ _ e
def Fr.k{kA s h W g:ε}{H a:Hp}(f:Fr s h W g H a):Fk kA s h W g H a:=λb o _ n N c d e=>f b o n N c d e
section
variable {C:aE}{P:List df}{H H':Hp}{pA kA sA hA wA gA:ε}{h L:aE}{t k:Nat}{m deep:Int}{n:Nat}
def du.tm'(R:du C P H pA kA sA hA wA gA h L t k m deep n)(f:Fk kA sA hA wA gA H H'):aj H H':=λb x e=>by let⟨d,a,_⟩:=R.sx.ho;let⟨y,c,_⟩:=R.sx.lg;exact f b _ (jE e R.kh (by intro z;cases z)) (jE e R.sx.st (by intro z;cases z)) (jE e a (by intro z;cases z)) (jE e R.sx.wr (by intro z;cases z)) (jE e c (by intro z;cases z)) e
def du.same(R:du C P H pA kA sA hA wA gA h L t k m deep n)(s:af H H'):du C P H' pA kA sA hA wA gA h L t k m deep n:=
 #[R.dp,R.pr.mono$ af.tm s,R.sx.same s,s _ _ R.kh,R.gh,R.k1,R.k2,R.k3,R.lh,R.tm,R.mm,R.kk,R.fp]
def du.ng(R:du C P H pA kA sA hA wA gA h L t k m deep n):kA≠gA:=by let⟨y,a,_⟩:=R.sx.lg;exact jE R.kh a (by intro z;cases z)
def du.turn(R:du C P H pA kA sA hA wA gA h L t k m deep n){T:Nat}{a:aE}{k':Nat}(S:Sx C H' sA hA wA gA a T m "told")(f:Fr sA hA wA gA H H')(e:(T:Int)<=m)(l:k'<=k):du C P H' pA kA sA hA wA gA h a T k' m deep n:=
 #[R.dp,R.pr.mono$ f.tm R.sx,S,f _ _ R.k1 R.k2 R.k3 R.ng R.kh,R.gh,R.k1,R.k2,R.k3,by let:=R.lh;omega,e,R.mm,by let:=R.kk;omega,R.fp]
def du.put(R:du C P H pA kA sA hA wA gA h L t k m deep n){k':Nat}{x:π}{i:Int}(a:dE i)(l:k'+1<=k):du C P (upd H kA$ .dK$ aD h (.inr x)$ .int i) pA kA sA hA wA gA (aD h (.inr x)$ .int i) L t k' m deep n:=by
 let T:aj H (upd H kA$ .dK$ aD h (.inr x)$ .int i):=λb X e=>by rw[ji$ jE e R.kh (by intro z;cases z)];exact e
 let⟨c,d,f⟩:=R.sx.ho;let⟨y,g,G⟩:=R.sx.lg;let p:=Jb h (.inr x) (.int i);exact#[R.dp,R.pr.mono T,#[(ji$ MU R.k1).trans R.sx.st,#[c,(ji$ MU R.k2).trans d,f],(ji$ MU R.k3).trans R.sx.wr,#[y,(ji$ MU R.ng).trans g,G],R.sx.gL,R.sx.lL,R.sx.n1,R.sx.n2,R.sx.n3,R.sx.tm],jc,R.gh.put _ a,R.k1,R.k2,R.k3,by let:=R.lh;omega,R.tm,R.mm,by let:=R.kk;omega,R.fp]
def K2(v:HO):Fk kA sA hA wA gA H (upd H kA v):=λb o N _ _ _ _ e=>by rw[ji N];exact e
end
def Ig(C:aE)(P:List df)(H:Hp)(p b s c W g:ε)(m d:Int)(n k:Nat)(r:bZ)(o:iJ)(G:Hp->Prop):Prop:=∀(e L:aE) (t a:Nat) (h:Hp),du C P h p b s c W g e L t a m d n->Ex P C m n a r e L t o->a<=k->Fk b s c W g H h->G h
def sN(C:aE)(H:Hp)(k s a W g:ε)(m:Int)(o:iJ)(G:Hp->Prop):Prop:=∀(w:π) (L:aE) (t:Nat) (h:Hp),(o= .long/\w="long"∨o= .deep/\w="deep")->Sx C h s a W g L t m w->Fk k s a W g H h->G h
def A9(C:aE)(H:Hp)(k s a W g:ε)(m:Int)(o:iJ)(G:Int->Hp->Prop):Prop:=∀(x:Int) (L:aE) (t:Nat) (h:Hp),o= .done x L t->Sx C h s a W g L t m "told"->dE x->Fk k s a W g H h->G x h
inductive mV(n d:Nat)(p:List V)(H:Hp)(Q:VK)(c:XK):Prop
 |mk(C:aE)(P:List df)(e j i l g q f:ε)(s:List V)(a r:bZ)(h L:aE)(t k:Nat)(m b:Int)(o:iJ)(_:p=[.ref j,.ref e,.ref i,.ref l,.int b])(_:du C P H j i l g q f h L t k m b n)(_:H e=δ (.tup s))(_:eN H a s)(_:a.Ok)(_:a.dep < d)(_:Ex P C m n k (a.app r) h L t o)(_:Ig C P H j i l g q f m b n k r o (λH'=>∀rr,H' rr=δ (.tup [.str "on"])->Q (.ref rr) H'))(_:sN C H i l g q f m o (λH'=>∀rr,H' rr=δ (.tup [.str "stop"])->Q (.ref rr) H'))(_:A9 C H i l g q f m o (λx H'=>∀rr,H' rr=δ (.tup [.str "give",.int x])->Q (.ref rr) H'))
inductive Ei(n d:Nat)(s:List V)(H:Hp)(Q:VK)(c:XK):Prop
 |mk(C:aE)(P:List df)(j q e l i p g u f:ε)(v:List V)(T:Tm)(a r:bZ)(h L:aE)(t k:Nat)(m b:Int)(o:iJ)(_:s=[.ref l,.ref j,.ref i,.ref p,.int b])(_:du C P H l i p g u f h L t k m b n)(_:H j=δ (.tup [.str "while",.ref q,.ref e]))(_:aR H T q)(_:j' T)(_:H e=δ (.tup v))(_:eN H a v)(_:a.Ok)(_:a.dep < d)(_:Ex P C m n k (.loop T a r) h L t o)(_:Ig C P H l i p g u f m b n k r o (λH'=>∀rr,H' rr=δ (.tup [.str "on"])->Q (.ref rr) H'))(_:sN C H i p g u f m o (λH'=>∀rr,H' rr=δ (.tup [.str "stop"])->Q (.ref rr) H'))(_:A9 C H i p g u f m o (λx H'=>∀rr,H' rr=δ (.tup [.str "give",.int x])->Q (.ref rr) H'))
inductive AO(n:Nat)(j:List V)(H:Hp)(Q:VK)(b:XK):Prop
 |mk(C:aE)(P:List df)(f g e i d p c:ε)(l:sM)(r:bZ)(h L:aE)(t k:Nat)(m a:Int)(o:iJ)(_:j=[.ref g,.ref f,.ref e,.ref i,.int a])(_:du C P H g e i d p c h L t k m a n)(_:pH H (.ref f) l)(_:l.Ok)(_:l.turn=ν)(_:Ex P C m n k (.lf l r) h L t o)(_:Ig C P H g e i d p c m a n k r o (λH'=>Q (.bl ν) H'))(_:sN C H e i d p c m o (λH'=>Q (.bl μ) H'))
inductive WL(C:aE)(P:List df)(v u p w k x j:ε)(T:Tm)(a r:bZ)(m b:Int)(n l:Nat)(o:iJ)(H:Hp)(M:Nat)(y:_L.St)(c:Hp):Prop
 |mk(q s:Option V)(h L:aE)(t:Nat)(d:y=[↑v,↑u,↑p,↑w,δ (.int b),q,s])(e:du C P c v p w k x j h L t M m b n)(f:Ex P C m n M (.loop T a r) h L t o)(g:M<=l)(i:Fk p w k x j H c)
def D7:ak ["_law_program","_law_one","_law_held","_law_state","_law_deep","_law_test","_law_found"] z9z (ae GV):=bQ
def Gh{f:ε}{fd:Φ}{fW fT fB:ε}{f0 f2 f8:Φ}(F:xa K "_law_looped_run" GV f fd){n d:Nat}(cW:‹9› fW f0 z4z (iu 8) "_law_worth")(cT:‹1› fT f2 z15z dD "_law_turn")(cB:‹13*n+2*d+9› fB f8 z14z (mV n d) "_law_body_run")(mi:mg "int"=ζ):⇑(13*n+2*d+10) f fd z9z (Ei n d):=by
 erw[F.ok D7 λc0 A o1 s H vs Q E hr h=>?_]
 let⟨C,P0,oA,tA,bA,pA,i,S,p,W,q,xs,T,a,r,h,L,t,k,m,D,o,rfl,R,ho,hT,oT,hb,h0,o2,h1,hx,qO,qS,qG⟩:=h;erw[#[_,(jg$ K8 Ni (Jl$ @Jf _ _ _ _)$ jd (jz 5 D7.nd$ jC j8 Z mi Pl$ ja (kU Jx (cW.e hr.m$ ja (jy$ pv 1)$ ja (pv 2) jb) jf$ ax _) jb)$ jd (jx (KL$ Jl$ cT.e hr.m$ ja (pv 3)$ ja (jh$ ja jj$ ja (pv 5) jb) jb) (jg$ jm$ jh$ ja jj jb) jo)$ jd (jx (zo$ pv 5) (jg$ jm$ jh$ ja jj jb) jo)$ jd (jz 6 D7.nd$ cB.e hr$ ja (pv 0)$ ja (jy$ pv 1)$ ja (pv 2)$ ja (pv 3)$ ja (pv 4) jb)$ jg$ jx (jB Jx (jy$ pv 6) jj$ ax _) (jg$ jm$ pv 6) jo),?_]];let b0:=aJ;erw[oC (WL C P0 pA oA i S p W q T a r m D n k o H) k #[ζ,ζ,h,L,t,Z,R,hx,Mx _,Fk.refl] ?_];let j:∀{H':Hp},Fk i S p W q H H'->aj H H':=λf=>R.tm' f;intro M σ H3 E hE fN G yT yF Gq O hh;let⟨o5,o6,h,L,t,rfl,R3,u,hM,f3⟩:=hh;erw[O ?_];clear O R hx yF;erw[#[_,Z,yT _ ?_]];clear yT;let v:=j f3;let o3:=v _ _ ho;let⟨d1,ys,d2⟩:=id oT;erw[ah λF1 c=>(jq o3 Z #[_,Z,tA,i,T,ys,h,Z,hT.mono v,d1,d2,R3.kh,R3.gh,λH4 s4=>#[Z,.inr #[_,Z,?_]]])];let ev:(if (!decide (tT (T.ev h)=tT 0))=ν then (1:Int) else 0)=if T.ev h=0 then 0 else 1:=by
  by_cases z:T.ev h=0
  .rw[z];rfl
  .rw[MY (λy=>z (by injection y)),MS z];rfl
 show F1 [↑pA,↑oA,↑i,↑S,δ$ .int D,δ$ .int (if (!decide (tT (T.ev h)=tT 0))=ν then (1:Int) else 0),o6] H4;rw[ev];erw[c _ _ ?_];clear c;let R4:=R3.same s4;let f4:Fk i S p W q H H4:=f3.trans (Fk.of_same s4);clear R3 f3 s4 v o3 ev;erw[ah λF1 c=>#[_,Z,_,Z,bg,λen B=>?_]];let J:=R4.same (je (o:=.tup [.str "ask",.int (if T.ev h=0 then 0 else 1)]) B);let f5:Fk i S p W q H (upd H4 en$ .tup [.str "ask",.int (if T.ev h=0 then 0 else 1)]):=f4.trans (Fk.of_same$ je B);generalize upd H4 en (.tup [.str "ask",.int (if T.ev h=0 then 0 else 1)])=H5 at J f5;clear R4 f4 B;erw[#[C,S,p,W,q,L,t,m,_,Z,J.sx,J.tm,J.mm,λet H6 S6 U=>#[_,Z,bJ Z #[fg,λl N=>?_]],λlt H6 S6 U _=>#[_,Z,aI Z$ c _ _ ?_]]]
 .clear c;show E.rt _ _;rw[hE];exact qS "long" L t _ (.inl #[JG u Z LN,Z]) (S6.same$ je N) ((f5.trans U.k).trans$ Fk.of_same$ je N) l jc
 clear c;let⟨k',rfl,g⟩:=yb u lt;let R6:=J.turn S6 U (k':=k') LN LN;let X:=f5.trans U.k;let I:=j X;clear u J f5 U S6;erw[ah λF1 c=>#[_,Z,Z,_,Z,?_]];by_cases ez:T.ev h=0
 .rw[MQ ez]at g;rw[MQ ez];erw[bJ LK #[fg,λl N=>?_]];show E.rt _ _;rw[hE];exact qO h L (t+1) k' _ (R6.same$ je N) g LN (X.trans$ Fk.of_same$ je N) l jc
 rw[MS ez]at g;rw[MS ez];erw[aI LK$ c _ _ ?_];clear c;erw[ah λF1 c=>#[_,Z,jq (I _ _ ho) Z #[_,Z,_,Z,_,Z,C,P0,bA,pA,i,S,p,W,q,xs,a,.loop T a r,h,L,t+1,k',m,D,o,Z,R6,I _ _ hb,h0.mono I,o2,h1,g,?_,?_,?_]]]
 .intro h7 Y t7 k7 H7 R7 x7 l7 f7 l b;erw[c _ _ ?_];erw[(jq b Z #[Z,_,Z,aI LL ?_])];exact fN k7 _ _ LN #[_,_,h7,Y,t7,Z,R7,x7,LN,X.trans f7]
 .intro w Y t7 H7 ew S7 f7 l b;erw[c _ _ ?_];erw[(jq b Z #[Z,_,Z,bJ LL #[_,Z,?_]])];show E.rt _ _;rw[hE];exact qS w Y t7 H7 ew S7 (X.trans f7) l b
 .intro x Y t7 H7 ew S7 ix f7 l b;erw[c _ _ ?_];erw[(jq b Z #[Z,_,Z,bJ LL #[_,Z,?_]])];show E.rt _ _;rw[hE];exact qG x Y t7 H7 ew S7 ix (X.trans f7) l b
def uY{b:List V}{i:Nat}{x:V}(h:b[i]?=δ x):b.drop i=x::b.drop (i+1):=by let⟨H,e⟩:=χ.mp h;rw[SN H,e]
inductive BL(C:aE)(P:List df)(e D y E w F v:ε)(G:List V)(r:bZ)(d:Nat)(m b:Int)(n x:Nat)(o:iJ)(H:Hp)(i:Nat)(I:_L.St)(c:Hp):Prop
 |mk(z A B:Option V)(a:bZ)(h L:aE)(t k:Nat)(f:I=[↑D,↑e,↑y,↑E,δ (.int b),z,A,B])(g:eN c a (G.drop i))(j:a.Ok)(l:a.dep < d)(p:du C P c D y E w F v h L t k m b n)(q:Ex P C m n k (a.app r) h L t o)(s:k<=x)(u:Fk y E w F v H c)
def rX:ak ["_law_program","_law_body_here","_law_held","_law_state","_law_deep","_law_one","_law_found","_law_test"] z14z (ae GP):=bQ
def Ge{f:ε}{fd:Φ}{fW fT fD fL fB:ε}{f0 f9 f' b3 b4:Φ}(F:xa K "_law_body_run" GP f fd){n d:Nat}(cW:‹9› fW f0 z4z (iu 8) "_law_worth")(cT:‹1› fT f9 z15z dD "_law_turn")(cD:‹13*n+10› fD f' z9z (AO n) "_law_deed_run")(cL:‹13*n+2*d+10› fL b3 z9z (Ei n d) "_law_looped_run")(cB:‹13*n+2*d+9› fB b4 z14z (mV n d) "_law_body_run")(mi:mg "int"=ζ):⇑(13*n+2*d+11) f fd z14z (mV n$ d+1):=by
 erw[F.ok rX λc2 A o4 s H vs Q E hr h=>?_]
 symm;let⟨C,P0,bA,pA,W,sA,hA,wA,gA,xs,a,r,h,L,t,k,m,D,o,rfl,R,hb,a3,o3,a4,hx,qO,qS,qG⟩:=h;erw[#[_,(jd (kP Ni Z (zp$ pv 1) (ju (i:=5) rX.nd Z$ Δ Z)$ jd (jz 6 rX.nd$ jh$ ja jj jb)$ jd (jx (jZ$ jy$ pv 5) (jg$ za (jR hr) (pv 2) (jy$ pv 5) (cW.e hr.m$ ja (jy$ pv 5)$ ja (pv 2) jb) Z)$ jg$ jx (jZ$ jy$ pv 5) (jg$ jm$ jh$ ja jj$ ja (cW.e hr.m$ ja (jy$ pv 5)$ ja (pv 2) jb) jb)$ jg$ jx (jZ$ jy$ pv 5) (jg$ jz 6 rX.nd$ cL.e hr.m$ ja (pv 0)$ ja (pv 5)$ ja (pv 2)$ ja (pv 3)$ ja (pv 4) jb)$ jg$ jx (jZ$ jy$ pv 5) (jd (jz 7 rX.nd$ jC j8 Z mi Pl$ ja (kU Jx (cW.e hr.m$ ja (jy$ pv 5)$ ja (pv 2) jb) jf$ ax _) jb)$ jd (jx (KL$ Jl$ cT.e hr.m$ ja (pv 3)$ ja (jh$ ja jj$ ja (pv 7) jb) jb) (jg$ jm$ jh$ ja jj jb) jo)$ jg$ jz 6 rX.nd$ cB.e hr.m$ ja (pv 0)$ ja (jr j6 (pv 5) (jw kQ jf$ pv 7) (λ_ _=>Z))$ ja (pv 2)$ ja (pv 3)$ ja (pv 4) jb)$ jg$ jx (KL$ Jl$ cD.e hr.m$ ja (pv 0)$ ja (pv 5)$ ja (pv 2)$ ja (pv 3)$ ja (pv 4) jb) (jg$ jm$ jh$ ja jj jb) jo)$ jg$ jx (jB Jx (jy$ pv 6) jj$ ax _) (jg$ jm$ pv 6) jo)$ jg$ jm$ jh$ ja jj jb),?_]];let c3:=aJ;let R1:∀{H':Hp},Fk W sA hA wA gA H H'->aj H H':=λf=>R.tm' f;erw[ah λF1 f1=>gn λJ j=>#[_,Z,bA,Z,#[_,aB.of hb],j _ _ ?_]];clear j;erw[qU (K:=K) (xs:=xs) (BL C P0 bA pA W sA hA wA gA xs r (d+1) m D n k o H) #[ζ,ζ,ζ,a,h,L,t,k,Z,a3,o3,a4,R,hx,Mx _,Fk.refl] (λi σ H' _ h=>by let⟨_,_,_,_,_,_,_,_,_,_,_,_,_,_,_,f⟩:=h;exact aB.of$ R1 f _ _ hb) ?_ (λσ H' h=>f1 _ _ ?_)]
 .clear f1 R hx a3 o3 a4;intro E0 hE i v σ H3 hv fE Gq kq hh;symm;let⟨o5,o6,o7,a,h,L,t,k',rfl,q,h5,h6,R3,h4,b0,f3⟩:=hh;erw[kq ?_];clear kq;rw[uY hv]at q;show cy (dy _ _) _ E0 _ _;sleep 2;erw[ah λF1 f1=>#[fg,λfo n0=>f1 _ _ ?_]];clear f1;left;let s4:af H3 (upd H3 fo$ .tup [.str "on"]):=je n0;let x0:upd H3 fo (.tup [.str "on"]) fo=δ (.tup [.str "on"]):=jc;generalize upd H3 fo (.tup [.str "on"])=H4 at s4 x0;let B:=R3.same s4;let f4:Fk W sA hA wA gA H H4:=f3.trans (Fk.of_same s4);replace q:=q.mono (af.tm s4);clear R3 f3 s4 n0;erw[ah λF1 f1=>?_];symm;cases a with
  |nil=>cases (show _=[] from q)
  |lf l c=>
   let⟨v',ws,ev,X,q⟩:=q;injection ev with e0 e1;subst e0;subst e1;let⟨O,o1⟩:=h5;let a0:c.dep < d+1:=h6;let I:Ex P0 C m n k' (.lf l$ c.app r) h L t o:=h4;let next:∀(h7 Y:aE) (t7 k7:Nat) (M:Hp),du C P0 M pA W sA hA wA gA h7 Y t7 k7 m D n->Ex P0 C m n k7 (c.app r) h7 Y t7 o->k7<=k->Fk W sA hA wA gA H M->aj H4 M->F1 [↑pA,↑bA,↑W,↑sA,δ$ .int D,δ v,↑fo,o7] M:=λh7 Y t7 k7 M R7 x7 l7 G S=>f1 _ _ (by
    exact(jq (S _ _ x0) Z #[Z,_,Z,aI LL$ fE _ _ #[_,_,_,c,h7,Y,t7,k7,Z,q.mono S,o1,a0,R7,x7,l7,G]]))
   clear f1;left;symm;cases l with
   |set y T=>let⟨x,pt,rfl,p,hT⟩:=X;let⟨d1,ys,d2⟩:=O;let⟨k2,rfl,h0⟩:=CQ I;let pl:=Jb h (.inr y) (.int$ T.ev h);let lh:=B.lh;erw[(jq p Z #[Z,_,Z,bJ LL$ jq p Z #[_,Z,pt,W,T,ys,h,Z,hT,d1,d2,B.kh,B.gh,λH5 s5=>#[_,Z,jq (s5 _ _ p) Z #[W,_,Z,gc.k (k:=.inr y) (s5 _ _ B.kh) LN,?_]]]])];let R5:=(B.same s5).put (x:=y) (k':=k2) (z9 B.gh d2) (Mx _);exact next _ L t k2 _ R5 h0 LN ((f4.trans$ Fk.of_same s5).trans$ K2 _) (λb xs e=>by rw[ji$ jE (s5 _ _ e) (s5 _ _ B.kh) (by intro z;cases z)];exact s5 _ _ e)
   |gv T=>let⟨x,pt,rfl,p,hT⟩:=X;let⟨d1,ys,d2⟩:=O;erw[(jq p Z #[Z,_,Z,aI LL$ jq p Z #[Z,_,Z,bJ LL$ jq p Z #[_,Z,pt,W,T,ys,h,Z,hT,d1,d2,B.kh,B.gh,λH5 s5=>#[bg,λr7 N=>?_]]]])];show E0.rt _ _;rw[hE];exact qG _ L t _ (Fz I) ((B.sx.same s5).same$ je N) (z9 B.gh d2) ((f4.trans$ Fk.of_same s5).trans$ Fk.of_same$ je N) r7 jc
   |rd y T=>
    let⟨x,pt,rfl,p,hT⟩:=id X;erw[(jq p Z #[Z,_,Z,aI LL$ jq p Z #[Z,_,Z,aI LL$ jq p Z #[Z,_,Z,aI LL$ jq p Z #[Z,_,Z,aI LL #[_,Z,_,Z,_,Z,_,Z,_,Z,C,P0,x,pA,W,sA,hA,wA,gA,.rd y T,c.app r,h,L,t,k',m,D,o,Z,B,X,O,Z,I,?_,?_]]]]])]
    .intro h7 Y t7 k7 M R7 x7 l7 G;exact#[_,Z,aI Z$ next h7 Y t7 k7 M R7 x7 LN (f4.trans G) (B.tm' G)]
    .intro w Y t7 M ew S7 G;erw[#[_,Z,bJ Z #[fg,λr7 N=>?_]]];show E0.rt _ _;rw[hE];exact qS w Y t7 _ ew (S7.same$ je N) ((f4.trans G).trans$ Fk.of_same$ je N) r7 jc
   |wr T U=>
    let⟨x,pt,pu,rfl,p,hT,hU⟩:=id X;erw[(jq p Z #[Z,_,Z,aI LL$ jq p Z #[Z,_,Z,aI LL$ jq p Z #[Z,_,Z,aI LL$ jq p Z #[Z,_,Z,aI LL #[_,Z,_,Z,_,Z,_,Z,_,Z,C,P0,x,pA,W,sA,hA,wA,gA,.wr T U,c.app r,h,L,t,k',m,D,o,Z,B,X,O,Z,I,?_,?_]]]]])]
    .intro h7 Y t7 k7 M R7 x7 l7 G;exact#[_,Z,aI Z$ next h7 Y t7 k7 M R7 x7 LN (f4.trans G) (B.tm' G)]
    .intro w Y t7 M ew S7 G;erw[#[_,Z,bJ Z #[fg,λr7 N=>?_]]];show E0.rt _ _;rw[hE];exact qS w Y t7 _ ew (S7.same$ je N) ((f4.trans G).trans$ Fk.of_same$ je N) r7 jc
   |cl y g ts=>
    let⟨x,q0,vs,rfl,p,h2,h3⟩:=id X;erw[(jq p Z #[Z,_,Z,aI LL$ jq p Z #[Z,_,Z,aI LL$ jq p Z #[Z,_,Z,aI LL$ jq p Z #[Z,_,Z,aI LL #[_,Z,_,Z,_,Z,_,Z,_,Z,C,P0,x,pA,W,sA,hA,wA,gA,.cl y g ts,c.app r,h,L,t,k',m,D,o,Z,B,X,O,Z,I,?_,?_]]]]])]
    .intro h7 Y t7 k7 M R7 x7 l7 G;exact#[_,Z,aI Z$ next h7 Y t7 k7 M R7 x7 LN (f4.trans G) (B.tm' G)]
    .intro w Y t7 M ew S7 G;erw[#[_,Z,bJ Z #[fg,λr7 N=>?_]]];show E0.rt _ _;rw[hE];exact qS w Y t7 _ ew (S7.same$ je N) ((f4.trans G).trans$ Fk.of_same$ je N) r7 jc
  |ite T b1 b2 c=>
   let⟨x,pt,pa,pb,as,bs,ws,ev,p,hT,a1,a2,b5,b7,q⟩:=q;injection ev with e0 e1;subst e0;subst e1;obtain⟨⟨oT,tc,td⟩,O,o1,o2⟩:=h5;let⟨d1,ys,d2⟩:=oT;let a0:max (max b1.dep b2.dep+1) c.dep < d+1:=h6;let I:Ex P0 C m n k' (.ite T b1 b2$ c.app r) h L t o:=h4;erw[(jq p Z #[Z,_,Z,aI LL$ jq p Z #[Z,_,Z,aI LL$ jq p Z #[Z,_,Z,aI LL$ jq p Z #[Z,_,Z,bJ LL ?_]]]])];sleep 2;erw[ah λF2 f2=>(jq p Z #[_,Z,pt,W,T,ys,h,Z,hT,d1,d2,B.kh,B.gh,λH5 s5=>#[Z,.inr #[_,Z,?_]]])];let ev:(if (!decide (tT (T.ev h)=tT 0))=ν then (1:Int) else 0)=if T.ev h=0 then 0 else 1:=by
    symm;by_cases z:T.ev h=0
    .right;rw[z];rfl
    .right;rw[MY (λy=>z (by injection y)),MS z];rfl
   show F2 [↑pA,↑bA,↑W,↑sA,δ$ .int D,↑x,↑fo,δ$ .int (if (!decide (tT (T.ev h)=tT 0))=ν then (1:Int) else 0)] H5;rw[ev];erw[f2 _ _ ?_];clear f2 ev;let R5:=B.same s5;let f5:Fk W sA hA wA gA H H5:=f4.trans (Fk.of_same s5);erw[ah λF2 f2=>#[_,Z,_,Z,bg,λen n1=>?_]];let s6:af H5 (upd H5 en$ .tup [.str "ask",.int (if T.ev h=0 then 0 else 1)]):=je n1;generalize upd H5 en (.tup [.str "ask",.int (if T.ev h=0 then 0 else 1)])=H6 at s6;let R6:=R5.same s6;let f6:=f5.trans (Fk.of_same s6);let S0:=s5.trans s6;clear R5 f5 s5 s6 n1;erw[#[C,sA,hA,wA,gA,L,t,m,_,Z,R6.sx,R6.tm,R6.mm,λet M S7 G=>#[_,Z,bJ Z #[fg,λr7 N=>?_]],λlt M S7 G _=>#[_,Z,aI Z$ f2 _ _ ?_]]]
   .show E0.rt _ _;rw[hE];exact qS "long" L t _ (.inl #[JG I Z LN,Z]) (S7.same$ je N) ((f6.trans G.k).trans$ Fk.of_same$ je N) r7 jc
   clear f2;left;symm;let⟨k2,rfl,h0⟩:=CO I lt;let R7:=R6.turn S7 G (k':=k2) LN LN;let F7:=f6.trans G.k;let S:aj H4 M:=λb xs e=>G.tm R6.sx _ _ (S0 _ _ e);obtain⟨px,bx,xx,b9,b',c0,o8,dx,c1⟩:∃px bx xx,dM [ti "if",.ref pt,.ref pa,.ref pb] (3 - (if T.ev h=0 then 0 else 1))=↑px/\M px=δ (.tup xx)/\eN M bx xx/\bx.Ok/\bx.dep < d/\Ex P0 C m n k2 (bx.app$ c.app r) h L (t+1) o:=by
    symm;by_cases z:T.ev h=0
    .right;rw[MQ z]at h0 ⊢;exact#[pb,b2,bs,Z,S _ _ b5,b7.mono S,o1,LN,h0]
    .right;rw[MS z]at h0 ⊢;exact#[pa,b1,as,Z,S _ _ a1,a2.mono S,O,LN,h0]
   erw[#[_,Z,_,Z,_,Z,_,_,Z,Z,x,_,_,_,Z,Z,aB.of$ S _ _ p,b9,_,Z,_,Z,_,Z,C,P0,px,pA,W,sA,hA,wA,gA,xx,bx,c.app r,h,L,t+1,k2,m,D,o,Z,R7,b',c0,o8,dx,c1,?_,?_,?_]]
   .intro h8 L8 t8 k8 H8 R8 x8 l8 f8 rr u;let t0:=S.trans (R7.tm' f8);exact f1 _ _$ jq u Z #[Z,_,Z,aI LL$ fE _ _ #[_,_,_,c,h8,L8,t8,k8,Z,q.mono t0,o2,LN,R8,x8,LN,F7.trans f8]]
   .intro w L8 t8 H8 ew S8 f8 rr u;erw[f1 _ _$ jq u Z #[Z,_,Z,bJ LL #[_,Z,?_]]];show E0.rt _ _;rw[hE];exact qS w L8 t8 H8 ew S8 (F7.trans f8) rr u
   .intro y L8 t8 H8 ew S8 iy f8 rr u;erw[f1 _ _$ jq u Z #[Z,_,Z,bJ LL #[_,Z,?_]]];show E0.rt _ _;rw[hE];exact qG y L8 t8 H8 ew S8 iy (F7.trans f8) rr u
  |loop T b1 c=>
   let⟨x,pt,pa,as,ws,ev,p,hT,a1,a2,q⟩:=q;injection ev with e0 e1;subst e0;subst e1;obtain⟨⟨oT,tc⟩,O,o2⟩:=h5;let a0:max (b1.dep+1) c.dep < d+1:=h6;let I:Ex P0 C m n k' (.loop T b1$ c.app r) h L t o:=h4;erw[(jq p Z #[Z,_,Z,aI LL$ jq p Z #[Z,_,Z,aI LL$ jq p Z #[Z,_,Z,bJ LL #[_,Z,_,Z,_,Z,_,Z,_,Z,C,P0,x,pt,pa,pA,W,sA,hA,wA,gA,as,T,b1,c.app r,h,L,t,k',m,D,o,Z,B,p,hT,oT,a1,a2,O,LN,I,?_,?_,?_]]]])]
   .intro h8 L8 t8 k8 H8 R8 x8 l8 f8 rr u;exact f1 _ _$ jq u Z #[Z,_,Z,aI LL$ fE _ _ #[_,_,_,c,h8,L8,t8,k8,Z,q.mono$ B.tm' f8,o2,LN,R8,x8,LN,f4.trans f8]]
   .intro w L8 t8 H8 ew S8 f8 rr u;erw[f1 _ _$ jq u Z #[Z,_,Z,bJ LL #[_,Z,?_]]];show E0.rt _ _;rw[hE];exact qS w L8 t8 H8 ew S8 (f4.trans f8) rr u
   .intro y L8 t8 H8 ew S8 iy f8 rr u;erw[f1 _ _$ jq u Z #[Z,_,Z,bJ LL #[_,Z,?_]]];show E0.rt _ _;rw[hE];exact qG y L8 t8 H8 ew S8 iy (f4.trans f8) rr u
 symm;let⟨o5,o6,o7,a',h',L',t',k',rfl,q,h5,h6,R3,h4,b0,f3⟩:=h;right;rw[List.drop_length]at q;let ea:a'= .nil:=by
  let:=q.len;symm;cases a' with
  |nil=>right;rfl
  |lf l r |ite T a b r |loop T a r=>exact absurd this (by show ¬0=_+1;omega)
 symm;subst ea;exact#[fg,λrr n2=>qO h' L' t' k' _ (R3.same$ je n2) h4 b0 (f3.trans$ Fk.of_same$ je n2) rr jc]
def Sx.write{C:aE}{H:Hp}{s a W G:ε}{L:aE}{t:Nat}{m:Int}{w:π}(S:Sx C H s a W G L (t+1) m w)(l:L.length<=t){h:aE}(f:H a=δ (.dK h))(i:GT h)(n:h.length<=20+t)(j:∀c,look h (.inl c) 0=look L (.inl c) (look C (.inl c) 0)){c v:Int}(b:dE v):
  Sx C (upd (upd H a$ .dK$ aD h (.inl c)$ .int v) W$ .dK$ aD L (.inl c)$ .int v) s a W G (aD L (.inl c)$ .int v) (t+1) m w:=by
 let⟨y,g,k⟩:=S.lg;let p:=Jb h (.inl c) (.int v);let o:=Jb L (.inl c) (.int v);erw[#[(ji S.n2).trans ((ji S.n1).trans S.st),#[_,(ji S.n3).trans jc,i.put _ b,LN,λd=>?_],jc,#[y,(ji$ jE g S.wr (by intro z;cases z)).trans ((ji$ jE g f (by intro z;cases z)).trans g),k],S.gL.put _ b,LN,S.n1,S.n2,S.n3,S.tm]];by_cases e:d=c
 .rw[e,qY,qY]
 .rw[zj (λz=>e (by injection z)),zj (λz=>e (by injection z))];exact j d
def Sx.oth{C:aE}{H:Hp}{s h W g k:ε}{L:aE}{t:Nat}{m:Int}{w:π}(S:Sx C H s h W g L t m w)(a:k≠s)(b:k≠h)(c:k≠W)(d:k≠g)(v:HO):Sx C (upd H k v) s h W g L t m w:=by let⟨e,f,i⟩:=S.ho;let⟨y,G,j⟩:=S.lg;exact#[(ji$ MU a).trans S.st,#[e,(ji$ MU b).trans f,i],(ji$ MU c).trans S.wr,#[y,(ji$ MU d).trans G,j],S.gL,S.lL,S.n1,S.n2,S.n3,S.tm]
def du.sxk{C:aE}{P:List df}{H:Hp}{p a s b W g:ε}{h L:aE}{t k:Nat}{m d:Int}{n:Nat}(R:du C P H p a s b W g h L t k m d n)(v:HO):Sx C (upd H a v) s b W g L t m "told":=by let⟨c,e,f⟩:=R.sx.ho;let⟨y,G,i⟩:=R.sx.lg;exact#[(ji$ MU R.k1).trans R.sx.st,#[c,(ji$ MU R.k2).trans e,f],(ji$ MU R.k3).trans R.sx.wr,#[y,(ji$ MU R.ng).trans G,i],R.sx.gL,R.sx.lL,R.sx.n1,R.sx.n2,R.sx.n3,R.sx.tm]
inductive ou(n:Nat)(q:List V)(H:Hp)(Q:VK)(c:XK):Prop
 |mk(C:aE)(P:List df)(l e p h r g:ε)(f:π)(d:df)(j:List Int)(L:aE)(t k:Nat)(m b:Int)(o:iJ)(_:q=[.ref l,.str f,.ref e,.ref p,.int b])(_:b+(n:Int)=15)(_:Bf H l P)(_:sL P)(_:be P f=δ d)(_:H e=δ (.tup (j.map tT)))(_:∀i∈j,dE i)(_:d.ps.length=j.length)(_:Sx C H p h r g L t m "told")(_:(t:Int)<=m)(_:m<=300)(_:Ex P C m n k d.body (bV d.ps j) L t o)(_:k<=130000)(_:∀a L' t' H',o= .done a L' t'->Sx C H' p h r g L' t' m "told"->(t':Int)<=m->dE a->Fr p h r g H H'->Q (.int a) H')(_:∀(w:π) L' t' H',(o= .long/\w="long"∨o= .deep/\w="deep")->Sx C H' p h r g L' t' m w->Fr p h r g H H'->Q .non H')
def Av:ak z45z z9z (ae GQ):=bQ
def r9:hJ:=#[.function,[(".0",.local),("_law_term_here",.local),("_law_worth",.globalImplicit),("_law_held",.free)],μ,μ,[]]
def Di:(z4z:List π).Nodup:=by decide+kernel
def Cy:aV z45z (ae GQ) r9 z4z 1 [2]:=nS
def BD{f:ε}{fd:Φ}{fW fT fF:ε}{f0 f2 f3:Φ}(F:xa K "_law_deed_run" GQ f fd){n:Nat}{spF:Sp}(cW:‹9› fW f0 z4z (iu 8) "_law_worth")(cT:‹1› fT f2 z15z dD "_law_turn")(cF:‹13*n+9› fF f3 z24z spF "_law_def_run")(hF:∀n',n=n'+1->spF=ou n')(m0:mg "tuple"=ζ):⇑(13*n+10) f fd z9z (AO n):=by
 erw[F.ok Av λc0 A o5 s H vs Q E q h=>?_]
 symm;let⟨C,P0,oA,pA,kA,u,D,wA,gA,l,r,h,L,t,k,m,W,o,rfl,R,h0,o1,h5,hx,qO,qS⟩:=h;erw[#[_,(jd (jx (jZ$ jy$ pv 1) (jd (jz 5 Av.nd$ jh$ ja jj$ ja (cW.e q.m$ ja (jy$ pv 1)$ ja (pv 2) jb)$ ja (cW.e q.m$ ja (jy$ pv 1)$ ja (pv 2) jb) jb)$ jd (jx (KL$ Jl$ cT.e q.m$ ja (pv 3)$ ja (pv 5) jb) (jg$ jm$ @Jf _ _ _ _) jo)$ jd (za (jR q) (kj (jR q) (pv 3) jj (λ_ _=>Z)) (jy$ pv 5) (jy$ pv 5) Z)$ jd (za (jR q) (kj (jR q) (pv 3) jj (λ_ _=>Z)) (jy$ pv 5) (jy$ pv 5) Z)$ jg$ jm$ @Jf _ _ _ _) jo)$ jd (jx (jZ$ jy$ pv 1) (jd (jz 6 Av.nd$ cW.e q.m$ ja (jy$ pv 1)$ ja (pv 2) jb)$ jd (za (jR q) (pv 2) (jy$ pv 1) (@qR _ _ _ _ _ _ _ _ _ (jR q) (kj (jR q) (pv 3) jj (λ_ _=>Z)) (pv 6) jf #[LK,LK,LK,LK]) Z)$ jg$ jm$ cT.e q.m$ ja (pv 3)$ ja (jh$ ja jj$ ja (pv 6)$ ja (kj (jR q) (pv 2) (jy$ pv 1) (λ_ _=>Z)) jb) jb) jo)$ jd (jz 7 Av.nd$ jC jG Z m0 Of$ ja (@kY _ _ _ _ _ _ _ (z4z) (1) ([2]) _ _ _ _ Z (zp$ jy$ pv 1) Cy (λ_ _ _ _ _=>(ju (i:=0) Di Z$ Δ Z)) (λ_ _ _ _ _=>(@zR _)) (λ_ _ _ _ _=>(cW.e q.m$ ja (pv 0)$ ja (pv 1) jb)) (by intro _;rfl)) jb)$ jd (jx (KL$ Jl$ cT.e q.m$ ja (pv 3)$ ja (jh$ ja jj$ ja (jy$ pv 1)$ ja (pv 7) jb) jb) (jg$ jm$ @Jf _ _ _ _) jo)$ jd (jx (zo$ pv 4) (jd (za (jR q) (pv 3) jj jj Z)$ jg$ jm$ @Jf _ _ _ _) jo)$ jd (za (jR q) (pv 2) (jy$ pv 1) (cF.e q.m$ ja (pv 0)$ ja (jy$ pv 1)$ ja (pv 7)$ ja (pv 3)$ ja (jw jS (pv 4) jf) jb) Z)$ jg$ jm$ kU zJ (kj (jR q) (pv 3) jj (λ_ _=>Z)) jj$ ax _),?_]];let b0:=aJ;symm;cases l with
 |set y T |gv T=>cases h5
 |wr T U=>
  let⟨_,pt,pu,e0,G,hT,hU⟩:=h0;cases e0;obtain⟨⟨d1,ys,d2⟩,d3,zs,d4⟩:=o1;sleep 6;erw[ah λI j=>(jq G Z #[Z,_,Z,bJ LL ?_])];clear j;left;sleep 4;erw[ah λI j=>(jq G Z #[_,Z,pt,kA,T,ys,h,Z,hT,d1,d2,R.kh,R.gh,λH1 J=>(jq (J _ _ G) Z #[_,Z,pu,kA,U,zs,h,Z,(hU.same J),d3,d4,(J _ _ R.kh),R.gh,λH2 s2=>#[eJ,λen N=>j _ _ ?_]])])];clear j;left;let M:af H (upd H2 en$ .tup [.str "write",.int$ T.ev h,.int$ U.ev h]):=(J.trans s2).trans (je N);let x1:upd H2 en (.tup [.str "write",.int$ T.ev h,.int$ U.ev h]) en=δ (.tup [.str "write",.int$ T.ev h,.int$ U.ev h]):=jc;generalize upd H2 en (.tup [.str "write",.int$ T.ev h,.int$ U.ev h])=H3 at M x1;let v:=R.same M;clear J s2 N;erw[ah λI j=>#[_,Z,_,Z,C,u,D,wA,gA,L,t,m,_,Z,v.sx,v.tm,v.mm,λet B S O=>#[_,Z,bJ Z ?_],λlt B S O w4=>#[_,Z,aI Z$ j _ _ ?_]]]
  .exact qS "long" L t B (.inl #[JG hx Z LN,Z]) S ((Fk.of_same M).trans O.k)
  clear j;left;symm;let⟨k',rfl,X⟩:=FH hx lt;let t0:=O.tm v.sx;let e1:=t0 _ _ x1;let⟨HD,g1,g2,g3,g4⟩:=v.sx.ho;let i1:B D=δ (.dK HD):=w4 _ _ (MU v.sx.n1) (MU v.sx.n1) (MU v.sx.n1) (jE g1 (Sy v.sx.lg).1 (by intro z;cases z)) g1;let lL:=v.sx.lL;let m1:=v.mm;let gs:a7 B u (ti "holds") (↑D):=a7.k (k:=.inr "holds") S.st;erw[ah λI j=>(jq e1 Z #[_,Z,u,_,Z,gs,jq e1 Z #[D,_,Z,gc.k (k:=.inl (T.ev h)) i1 LN,j _ _ ?_]])];clear j;left;let S5:=S.write lL i1 g2 g3 g4 (c:=T.ev h) (z9 R.gh d4);let nx:∀(b:ε),b≠D->upd B D (.dK$ aD HD (.inl$ T.ev h)$ .int$ U.ev h) b=B b:=λb e=>ji e;let gw:a7 (upd B D$ .dK$ aD HD (.inl$ T.ev h)$ .int$ U.ev h) u (ti "wrote") (↑wA):=a7.k (k:=.inr "wrote") ((nx u S.n1).trans S.st);let e3:upd B D (.dK$ aD HD (.inl$ T.ev h)$ .int$ U.ev h) en=δ (.tup [.str "write",.int$ T.ev h,.int$ U.ev h]):=(nx en$ jE e1 i1 (by intro z;cases z)).trans e1;erw[ah λI j=>(jq e3 Z #[_,Z,u,_,Z,gw,jq e3 Z #[wA,_,Z,gc.k (k:=.inl (T.ev h)) ((nx wA$ MU S.n3).trans S.wr) LN,j _ _ ?_]])];clear j;left;let F5:Fr u D wA gA B (upd (upd B D$ .dK$ aD HD (.inl$ T.ev h)$ .int$ U.ev h) wA$ .dK$ aD L (.inl$ T.ev h)$ .int$ U.ev h):=λb o _ n2 n3 _ e=>by rw[ji n3,ji n2];exact e
  let F0:=O.trans F5;exact qO h _ (t+1) k' _ (v.turn S5 F0 LN LN) X LN ((Fk.of_same M).trans F0.k)
 |rd y T=>
  let⟨_,pt,e0,G,hT⟩:=h0;cases e0;let⟨d1,ys,d2⟩:=o1;sleep 6;erw[ah λI j=>(jq G Z #[Z,_,Z,aI LL$ j _ _ ?_])];clear j;left;erw[ah λI j=>(jq G Z #[Z,_,Z,bJ LL ?_])];clear j;left;sleep 2;erw[ah λI j=>(jq G Z #[_,Z,pt,kA,T,ys,h,Z,hT,d1,d2,R.kh,R.gh,λH1 J=>j _ _ ?_])];clear j;left;let R1:=R.same J;symm;let⟨HD,g1,g2,g3,g4⟩:=R1.sx.ho;let gs:a7 H1 u (ti "holds") (↑D):=a7.k (k:=.inr "holds") R1.sx.st;let vv:(cg HD$ .inl$ T.ev h).getD (.int 0)= .int (look L (.inl$ T.ev h)$ look C (.inl$ T.ev h) 0):=by rw[qX g2,g4]
  let iv:dE (look L (.inl$ T.ev h)$ look C (.inl$ T.ev h) 0):=by rw[<- g4];exact JD g2 Ja
  let lh:=R1.lh;erw[ah λI j=>#[_,Z,u,_,Z,gs,D,Z,.inl #[HD,.inl g1],_,Z,_,a7.k (k:=.inl (T.ev h)) g1,?_]];rw[vv];erw[#[_,Z,jq (J _ _ G) Z #[kA,_,Z,gc.k (k:=.inr y) R1.kh LN,j _ _ ?_]]];clear j;left;let v2:dE (look L (.inl$ T.ev h)$ look C (.inl$ T.ev h) 0):=iv;generalize h6:look L (.inl$ T.ev h) (look C (.inl$ T.ev h) 0)=vl at*;let S2:=R1.sxk (.dK$ aD h (.inr y)$ .int vl);let gk:a7 (upd H1 kA$ .dK$ aD h (.inr y)$ .int vl) kA (ti y) (δ$ .int vl):=by let:=a7.k (k:=.inr y) (jc (H:=H1) (a:=kA) (o:=.dK (aD h (.inr y)$ .int vl)));rw[qQ,MQ Z]at this;exact this
  let o2:upd H1 kA (.dK$ aD h (.inr y)$ .int vl) oA=δ (.tup [.str "read",.str y,.ref pt]):=(ji$ jE (J _ _ G) R1.kh (by intro z;cases z)).trans (J _ _ G);erw[#[_,Z,_,Z,_,Z,jq o2 Z #[kA,_,Z,gk,eJ,λen N=>?_]]];let M:=je (o:=.tup [.str "read",.int$ T.ev h,.int vl]) N;erw[#[C,u,D,wA,gA,L,t,m,_,Z,S2.same M,R1.tm,R1.mm,λet B S O=>?_,λlt B S O _=>?_]]
  .exact qS "long" L t B (.inl #[JG hx Z LN,Z]) S ((((Fk.of_same J).trans$ K2 _).trans$ Fk.of_same M).trans O.k)
  .symm;let⟨k',rfl,X⟩:=FG hx lt;right;rw[h6]at X;let R2:=(R1.put (x:=y) (k':=k') v2$ Mx _).same M;exact qO _ L (t+1) k' B (R2.turn S O LN$ Mx _) X LN ((((Fk.of_same J).trans$ K2 _).trans$ Fk.of_same M).trans O.k)
 |cl y g ts=>
  let⟨_,q0,vs,e0,G,h2,h3⟩:=h0;cases e0;let⟨o3,l2⟩:=o1;let l0:=h3.len;sleep 6;erw[ah λI j=>(jq G Z #[Z,_,Z,aI LL$ j _ _ ?_])];clear j;left;erw[ah λI j=>(jq G Z #[Z,_,Z,aI LL$ j _ _ ?_])];clear j;left;erw[ah λI j=>(jq G Z #[q0,Z,#[_,aB.of h2],?_])];erw[zP (K:=K) (xs:=vs) LN (λi zs H'=>zs=((ts.take i).map$ Tm.ev h).map tT/\af H H') #[Z,af.refl H] (λi zs H' hh=>#[aB.of$ hh.2 _ _ h2,by rw[hh.1,Mv,Mv,M1];omega]) ?_ ?_]
  .clear j;left;intro i x zs H' h7 hh;symm;let⟨rfl,s⟩:=hh;let⟨T,p,h4,rfl,hT⟩:=h3.at i x h7;let⟨d1,ys,d2⟩:=o3 T (ML h4);erw[#[_,Z,_,Z,p,kA,T,ys,h,Z,hT.same s,d1,d2,s _ _ R.kh,R.gh,λH2 s2=>#[?_,s.trans s2]]];rw[NY,h4,TB,M0,M0];rfl
  intro zs H1 hh l1 n0;symm;let⟨rfl,J⟩:=hh;right;rw[l0,Nq$ Mx _]at*;erw[#[l1,_,Z,.inl #[aF.of jc,λaa n4=>j _ _ ?_]]];clear j;left;let s2:af H (upd (upd H1 l1$ .lst ((ts.map$ Tm.ev h).map tT)) aa$ .tup ((ts.map$ Tm.ev h).map tT)):=(J.trans$ je n0).trans (je n4);let x0:upd (upd H1 l1$ .lst ((ts.map$ Tm.ev h).map tT)) aa (.tup ((ts.map$ Tm.ev h).map tT)) aa=δ (.tup ((ts.map$ Tm.ev h).map tT)):=jc;generalize upd (upd H1 l1$ .lst ((ts.map$ Tm.ev h).map tT)) aa (.tup ((ts.map$ Tm.ev h).map tT))=H2 at s2 x0;clear J n0 n4;erw[ah λI j=>#[_,Z,jq (s2 _ _ G) Z #[_,Z,eJ,λen N=>?_]]];let M:af H (upd H2 en$ .tup [.str "call",.str g,.ref aa]):=s2.trans (je N);let x2:=am (o:=.tup [.str "call",.str g,.ref aa]) x0 N;generalize upd H2 en (.tup [.str "call",.str g,.ref aa])=H3 at M x2;clear s2 x0 N;let v:=R.same M;erw[#[C,u,D,wA,gA,L,t,m,_,Z,v.sx,v.tm,v.mm,λet B S O=>#[_,Z,bJ Z ?_],λlt B S O _=>#[_,Z,aI Z$ j _ _ ?_]]]
  .exact qS "long" L t B (.inl #[JG hx Z LN,Z]) S ((Fk.of_same M).trans O.k)
  clear j;left;let t0:=O.tm v.sx;let F4:Fk kA u D wA gA H B:=(Fk.of_same M).trans O.k;let o4:=t0 _ _ (M _ _ G);let dp:=R.dp;erw[ah λI j=>#[_,Z,Z,_,Z,?_]];symm;rcases Fy hx lt with ⟨rfl,rfl⟩ | ⟨n',k1,d,oo,rfl,hf,hl,h8,c1,c2⟩
  .let e4:W=15:=by omega
   erw[bJ (by rw[e4];rfl) ?_];clear j;left;erw[ah λI j=>#[_,Z,u,_,Z,gc.k (k:=.inr "word") S.st (by show 6 < τ;omega),j _ _ ?_]];exact qS "deep" L (t+1) _ (.inr #[Z,Z]) (S.put (Mx _) S.tm "deep")$ F4.trans (λb o _ n1 _ _ _ e=>by rw[ji n1];exact e)
  let n5:W≠15:=by omega
  erw[aI (MY (λz=>n5 (by injection z)))$ j _ _ ?_];clear j;left;let eF:=hF n' Z;symm;subst eF;let iT:∀i∈ts.map (Tm.ev h),dE i:=λi hi=>by let⟨T,hT,rfl⟩:=bS.mp hi;let⟨_,ys,d2⟩:=o3 T hT;exact z9 R.gh d2
  let Y:=v.turn S O (k':=k) LN (Mx _);let lh:=Y.lh;erw[ah λI j=>#[_,Z,jq o4 Z #[_,Z,_,Z,_,Z,_,_,Z,Z,C,P0,pA,aa,u,D,wA,gA,g,d,ts.map$ Tm.ev h,L,t+1,k1,m,W+1,oo,Z,LN,Y.pr,Y.fp,hf,t0 _ _ x2,iT,by rw[Mv];exact hl,S,LN,v.mm,c1,h8,?_,?_]]]
  .intro a L5 t5 H5 eo S5 l5 ia f5;symm;rcases c2 with ⟨z,_⟩ | ⟨z,_⟩ | ⟨a1,L1,t1,k',z,rfl,X⟩
   .right;rw[eo]at z;symm;cases z
   .right;rw[eo]at z;symm;cases z
   right;rw[eo]at z;symm;cases z;let R5:=Y.turn S5 f5 (k':=k'+1) l5 (Mx _);let R6:=R5.put (x:=y) (k':=k') ia (Mx _);let gw:a7 (upd H5 kA$ .dK$ aD h (.inr y)$ .int a) u (ti "word") (δ$ .str "told"):=a7.k (k:=.inr "word") R6.sx.st;erw[#[_,Z,jq (f5.tm S _ _ o4) Z #[kA,_,Z,gc.k (k:=.inr y) R5.kh LN,j _ _ ?_]]];erw[#[_,Z,u,_,Z,gw,Z,?_]];let q7:=qO _ L5 t5 k' _ R6 X LN (F4.trans$ f5.k.trans$ K2 _);rw[show decide (ti "told"=ti "told")=ν from by decide+kernel];exact q7
  .intro w L5 t5 H5 ew S5 f5;let k0:=f5 _ _ Y.k1 Y.k2 Y.k3 Y.ng Y.kh;let S6:=S5.oth Y.k1 Y.k2 Y.k3 Y.ng (.dK$ aD h (.inr y) .non);let gw:a7 (upd H5 kA$ .dK$ aD h (.inr y) .non) u (ti "word") (δ$ .str w):=a7.k (k:=.inr "word") S6.st;erw[#[_,Z,jq (f5.tm S _ _ o4) Z #[kA,_,Z,gc.k (k:=.inr y) k0 LN,j _ _ ?_]]];erw[#[_,Z,u,_,Z,gw,Z,?_]];let FF:=F4.trans ((f5.k (kA:=kA)).trans$ K2$ .dK$ aD h (.inr y) .non);symm;rcases ew with ⟨eo,rfl⟩ | ⟨eo,rfl⟩
   .let e2:o= .long:=by
     symm;rcases c2 with ⟨_,z⟩ | ⟨z,_⟩ | ⟨a1,L1,t1,k',z,_⟩
     .exact z
     .right;rw[eo]at z;symm;cases z
     .right;rw[eo]at z;symm;cases z
    let q7:=qS "long" L5 t5 _ (.inl #[e2,Z]) S6 FF;right;rw[show decide (ti "long"=ti "told")=μ from by decide+kernel];exact q7
   .let e2:o= .deep:=by
     symm;rcases c2 with ⟨z,_⟩ | ⟨_,z⟩ | ⟨a1,L1,t1,k',z,_⟩
     .right;rw[eo]at z;symm;cases z
     .exact z
     .right;rw[eo]at z;symm;cases z
    let q7:=qS "deep" L5 t5 _ (.inr #[e2,Z]) S6 FF;right;rw[show decide (ti "deep"=ti "told")=μ from by decide+kernel];exact q7
def Zo{K:Ω}{a:ε}{xs:List V}{t:TT}{T:TE}{Q:List V->Hp->Prop}{c:_L.St}{H:Hp}(A:xs.length<=τ)(Pv:Nat->List V->Hp->Prop)(n:Pv 0 [] H)
  (o:∀i Y h,Pv i Y h->aB K h a xs/\Y.length<=i) (q:∀i x Y h,xs[i]?=δ x->Pv i Y h->t (δ x::c) h λb d=>if b=ν then T (δ x::c) d λy r=>Pv (i+1) (Y++[y]) r else Pv (i+1) Y d) (s:∀Y h,Pv xs.length Y h->Q Y h):
  fq (xq K a) 1 c (bn 0) t T Q H:=by
 erw[#[λi m Y h=>m=xs.length - i/\i<=xs.length/\Pv i Y h,#[xs.length,LM,MH _,n],?_]];intro i m Y h g;let⟨rfl,B,p⟩:=g;let⟨j,C⟩:=o i Y h p;by_cases f:i < xs.length
 .erw[.inr #[#[xs,xs[i],j,Mw f],LN,Pv$ i+1,λu d z=>#[xs.length - (i+1),LN,Z,f,z],λv d D k y=>?_]];let⟨e,y⟩:=y;subst e;let⟨w,rfl⟩:=uo k;exact#[#[[δ _],Z,Z],q i v Y d (y xs j) p]
 .let e:i=xs.length:=by omega
  subst e;exact .inl #[#[xs,j,Mx _],s Y h p]
def Xn{D:List df}{d:df}{f:π}:be (D++[d]) f=(be D f).or (if d.f=f then δ d else ζ):=by
 unfold be;rw[List.find?_append];congr 1;by_cases e:d.f=f
 .rw[MQ e,NN,Ng e]
 .rw[MS e,NN,MY e];rfl
theorem JM:∀a:bZ,a.app .nil=a
 | .nil=>rfl
 | .lf l r=>by show bZ.lf l (r.app .nil)=_;rw[JM r]
 | .ite T x y r=>by show bZ.ite T x y (r.app .nil)=_;rw[JM r]
 | .loop T x r=>by show bZ.loop T x (r.app .nil)=_;rw[JM r]
def Ib(H:Hp)(P:List df)(f:π)(a:List V):Prop:=(a=[]/\be P f=ζ)∨∃v z d,a=v::z/\be P f=δ d/\pG H v d
def vU:ak z46z z24z (ae GS):=bQ
def sd:hJ:=#[.function,[(".0",.local),("_law_one",.local),("_law_f",.free)],μ,μ,[]]
def Dj:(["_law_one","_law_f"]:List π).Nodup:=by decide+kernel
def Cz:aV z46z (ae GS) sd ["_law_one","_law_f"] 1 [1]:=nS
def BE{f:ε}{fd:Φ}{fB:ε}{f0:Φ}(F:xa K "_law_def_run" GS f fd){n:Nat}(cB:‹13*n+21› fB f0 z14z (mV n 6) "_law_body_run")(mi:mg "int"=ζ)(m0:mg "dict"=ζ)(m1:mg "zip"=ζ):⇑(13*n+22) f fd z24z (ou n):=by
 erw[F.ok vU λc0 A o3 s H vs Q E hr h=>?_]
 let⟨C,O,pA,ag,R,T,W,gA,f,d,I,L,t,k,m,D,o,rfl,h0,B,G,hf,h5,h6,hl,S,U,hm,hx,h7,qD,qS⟩:=h;erw[#[_,(jd (zd (jr jp (@kY _ _ _ _ _ _ _ (["_law_one","_law_f"]) (1) ([1]) _ _ _ _ Z (zp$ pv 0) Cz (λ_ _ _ _ _=>(ju (i:=0) Dj Z$ Δ Z)) (λ_ _ _ _ _=>(@Xr _ _ _$ jB zJ (jr (r:=fj K) j6 (pv 0) jf (λ_ _=>Z)) (pv 1)$ ax _)) (λ_ _ _ _ _=>(pv 0)) (by intro _;rfl)) jf (λ_ _=>Z))$ qg (n:=3) Z$ jA (ju (i:=5) vU.nd Z$ Δ Z)$ jA (ju (i:=6) vU.nd Z$ Δ Z)$ jA (ju (i:=7) vU.nd Z$ Δ Z) kH)$ jd (jz 8 vU.nd$ cB.e hr.m$ ja (pv 0)$ ja (pv 7)$ ja (@XD _ _ _ _ _ _ _ _ Z m0 Z m1 Z (ja (pv 6)$ ja (pv 2) jb) LK LK LK LK)$ ja (pv 3)$ ja (pv 4) jb)$ jd (jx (jZ$ jy$ pv 8) (jg$ jm$ jy$ pv 8) jo)$ jg$ jm$ jr jp (jD$ ja (@YE _ _ _)$ ja jf jb) (jC j8 Z mi Pl$ ja (kU zJ (jy$ pv 8) jj$ ax _) jb) (λ_ _=>Z)),?_]];let b0:=aJ;let⟨xs,X,Y⟩:=B.at';let f2:=B.few d (Qe hf);let l0:=Y.len;let f4:=G.1;erw[ah λF1 a=>#[_,Z,pA,Z,#[_,aB.of X],?_]];erw[Zo (K:=K) (xs:=xs) LN (λi zs q=>q=H/\zs.length<=i/\Ib H (O.take i) f zs) #[Z,Mx _,.inl #[Z,Z]] (λi zs q M=>#[by rw[M.1];exact aB.of X,M.2.1]) ?_ ?_]
 .clear a;intro i x zs q h8 M;let⟨rfl,hz,hF⟩:=M;let⟨e,he,hv⟩:=Y.at i x h8;let⟨q0,qa,qb,qs,rfl,h1,h2⟩:=id hv;let et:O.take (i+1)=O.take i++[e]:=by rw[NY,he];rfl
  erw[(jq h1 Z #[_,Z,Z,_,Z,?_])];by_cases c:e.f=f
  .erw[bJ (by rw[c];exact Ng Z) #[_,Z,Z,by rw[Mz];exact NF hz,?_]];unfold Ib;rw[et,Xn,MQ c];rcases hF with ⟨rfl,u⟩ | ⟨v,J,d',rfl,u,a0⟩
   .rw[u];exact .inr #[_,[],e,Z,Z,hv]
   .rw[u];exact .inr #[v,_,d',Z,Z,a0]
  .erw[aI (MY (λz=>c (by injection z))) #[Z,LN,?_]];unfold Ib;rw[et,Xn,MS c,Option.or_none];exact hF
 intro zs q M l nl;let⟨rfl,hz,hF⟩:=M;rw[l0,Nq$ Mx _]at hF;rcases hF with ⟨_,u⟩ | ⟨v,J,d',rfl,u,q0,pa,pb,bs,rfl,h1,h2,h3,h4⟩
 .rw[hf]at u;cases u
 rw[hf]at u;cases u;erw[#[l,_,_,_,Z,Z,aF.of jc,io,q0,_,Z,aB.of$ am h1 nl,Z,_,_,Z,_,_,Z,_,_,Z,Z,a _ _ ?_]];clear a;let y:=je (o:=.lst (vr q0::J)) nl;generalize upd q l (.lst (vr q0::J))=H1 at y;let hk:=Z3 d.ps I [] h6 _K.GT.nil;erw[ah λF1 a=>#[_,Z,_,Z,_,Z,_,Z,pa,ag,d.ps.map Sum.inr,I.map tT,Z,aB.of (by rw[NJ];exact y _ _ h2),aB.of$ y _ _ h5,by rw[Mv,Mv];exact hl,λp j=>?_]];let s2:af q (upd H1 p$ .dK$ bV d.ps I):=y.trans (je j);let xk:upd H1 p (.dK$ bV d.ps I) p=δ (.dK$ bV d.ps I):=jc;let n0:q p=ζ:=by
  cases z:q p with
  |none=>rfl
  |some o=>rw[y _ _ z]at j;cases j
 let⟨HD,o1,o2⟩:=S.ho;let n5:p≠R:=MU (jk (y _ _ S.st) j);let n6:p≠T:=MU (jk (y _ _ o1) j);let n7:p≠W:=MU (jk (y _ _ S.wr) j);let FF:∀{H3:Hp},Fk p R T W gA (upd H1 p$ .dK$ bV d.ps I) H3->Fr R T W gA q H3:=λf b o n1 n2 n3 n4 e=>f b o (jk e n0) n1 n2 n3 n4 (s2 _ _ e);erw[#[_,Z,_,Z,C,O,pb,pA,p,R,T,W,gA,bs,d.body,.nil,bV d.ps I,L,t,k,m,D,o,Z,#[h0,B.mono$ af.tm s2,S.same s2,xk,hk.1,n5,n6,n7,by let e:=hk.2;let e2:(bV d.ps I).length<=0+d.ps.length:=e;omega,U,hm,h7,G],s2 _ _ h3,h4.mono$ af.tm s2,f2.2.2,Nat.lt_succ_of_le$ G.2 d$ Qe hf,by rw[JM];exact hx,?_,?_,?_]]
 .intro h' L' t' k' H3 R3 x3 l3 f3 rr g;erw[a _ _ ?_];clear a;erw[ah λF1 a=>(jq g Z #[Z,_,Z,aI LL$ a _ _ ?_])];clear a;erw[#[bg,λl2 N=>(jq (am g N) Z #[Z,.inr #[_,Z,l2,_,_,_,Z,Z,aF.of jc,oH,?_]])]];exact qD 0 L' t' _ (CP x3) (R3.sx.same$ je N) R3.tm Ja ((FF f3).trans$ Fr.of_same$ je N)
 .intro w L' t' H3 ew S3 f3 rr g;erw[a _ _ ?_];clear a;erw[ah λF1 a=>(jq g Z #[Z,_,Z,aI LL$ a _ _ ?_])];clear a;erw[#[bg,λl2 N=>(jq (am g N) Z #[Z,.inr #[_,Z,l2,_,_,_,Z,Z,aF.of jc,io,?_]])]];exact qS w L' t' _ ew (S3.same$ je N) ((FF f3).trans$ Fr.of_same$ je N)
 .intro x L' t' H3 ew S3 ix f3 rr g;erw[a _ _ ?_];clear a;erw[ah λF1 a=>(jq g Z #[Z,_,Z,bJ LL$ jq g Z ?_])];exact qD x L' t' _ ew S3 ((FE hx _ _ _ ew).2 U) ix$ FF f3
def wz:Sp:=λ_ _ _ _=>False
def yC{f:ε}{F:Φ}{k:Nat}{p:List π}:⇑k f F p wz:=#[λ_ _ _ _ h=>absurd h id,λ_ _ _ _ _ _ _ _ _ _ _ _ _ h=>absurd h id]
def FX{f:ε}{F:Φ}{k n:Nat}:⇑k f F z14z (mV n 0):=by
 let N:∀v H Q E,¬mV n 0 v H Q E:=λv H Q E h=>by let⟨C,p,B,c,e,S,g,W,G,x,a,r,h,L,t,k,m,d,o,_,_,_,_,_,i,_⟩:=h;omega
 exact#[λv H Q E h=>absurd h (N v H Q E),λA O s H b u v Q E _ _ _ _ h=>absurd h (N v H Q E)]
variable {fB fL fD fF fW fT:ε}{fdB fdL fdD fdF fdW fdT:Φ}
theorem Ip(c:‹9› fW fdW z4z (iu 8) "_law_worth")(C:‹1› fT fdT z15z dD "_law_turn")(FB:xa K "_law_body_run" GP fB fdB)(b:au K fdB z14z [])(m:mg "_law_body_run"=↑fB)(F:xa K "_law_looped_run" GV fL fdL)(B:au K fdL z9z [])(a:mg "_law_looped_run"=↑fL){n:Nat}(e:‹13*n+10› fD fdD z9z (AO n) "_law_deed_run")(M:mg "int"=ζ):
  ∀d:Nat,⇑(13*n+2*d+9) fB fdB z14z (mV n d)
 |0=>FX
 |d+1=>by let G:=Ip c C FB b m F B a e M d;let g:=Gh F c C #[G,b,FB.kp,m] M;exact Ge FB c C e #[g,B,F.kp,a] #[G,b,FB.kp,m] M
theorem iB(c:‹9› fW fdW z4z (iu 8) "_law_worth")(C:‹1› fT fdT z15z dD "_law_turn")(FB:xa K "_law_body_run" GP fB fdB)(b:au K fdB z14z [])(d:mg "_law_body_run"=↑fB)(h:xa K "_law_looped_run" GV fL fdL)(B:au K fdL z9z [])(i:mg "_law_looped_run"=↑fL)(F:xa K "_law_deed_run" GQ fD fdD)(j:au K fdD z9z [])(k:mg "_law_deed_run"=↑fD)(f:xa K "_law_def_run" GS fF fdF)(l:au K fdF z24z [])(o:mg "_law_def_run"=↑fF)(g:mg "int"=ζ)(m:mg "tuple"=ζ)(M:mg "dict"=ζ)(a:mg "zip"=ζ):
  ∀n:Nat,⇑(13*n+22) fF fdF z24z (ou n)
 |0=>by let G:=BD (n:=0) (spF:=wz) F c C #[yC,l,f.kp,o] (λN e=>by omega) m;let p:=Ip c C FB b d h B i #[G,j,F.kp,k] g 6;exact BE f #[p,b,FB.kp,d] g M a
 |n+1=>by let q:=iB c C FB b d h B i F j k f l o g m M a n;let G:=BD (n:=n+1) F c C #[q,l,f.kp,o] (λN e=>NK ou (Nat.succ.inj e)) m;let p:=Ip c C FB b d h B i #[G,j,F.kp,k] g 6;exact BE f #[p,b,FB.kp,d] g M a
abbrev IG:da:=top 74
inductive wt(j:List V)(H:Hp)(Q:VK)(b:XK):Prop
 |mk(C:aE)(P:List df)(h c e:ε)(f:π)(d:df)(g:List Int)(k:Nat)(m:Int)(o:iJ)(_:j=[.ref h,.str f,.ref c,.ref e,.int m])(_:Bf H h P)(_:sL P)(_:be P f=δ d)(_:H c=δ (.tup (g.map tT)))(_:∀i∈g,dE i)(_:d.ps.length=g.length)(_:H e=δ (.dK C))(_:_K.GT C)(_:C.length<=20)(_:0<=m)(_:m<=300)(_:Ex P C m 15 k d.body (bV d.ps g) [] 0 o)(_:k<=130000)(_:∀a L' t' H' rr wA gA,o= .done a L' t'->H' rr=δ (.tup [.str "told",.int a,.ref wA,.int (t':Int),.ref gA])->H' wA=δ (.dK L')->_K.GT L'->L'.length<=300->(t':Int)<=m->af H H'->Q (.ref rr) H')(_:∀(w:π) H' rr v2 v3 (t':Nat) v5,(o= .long/\w="long"∨o= .deep/\w="deep")->H' rr=δ (.tup [.str w,v2,v3,.int (t':Int),v5])->(t':Int)<=m->af H H'->Q (.ref rr) H')
def YK{H:Hp}{a b:ε}{o:HO}(n:upd H a o b=ζ):b≠a:=λe=>by rw[e,jc]at n;cases n
def D6:ak ["_law_program","_law_f","_law_args","_law_cells_here","_law_most","_law_state","_law_answer"] z20z (ae IG):=bQ
def Gg{f:ε}{fd:Φ}{fF:ε}{fdF:Φ}(F:xa K "_law_plain" IG f fd)(cF:‹217› fF fdF z24z (ou 15) "_law_def_run")(M:mg "dict"=ζ):⇑218 f fd z20z wt:=by
 erw[F.ok D6 λc0 A O s H vs Q E v h=>?_]
 let⟨C,P0,I,J,R,f,d,is,k,m,o,rfl,U,X,hf,Y,h0,hl,h1,h2,h3,x,hm,hx,h4,qD,qS⟩:=h;erw[#[_,(jd (jz 5 D6.nd$ @y7 _ _ _ _ _ (@qo _ _ _ _ _ _ _ _ _ jj (jC pM Z M boot_dict$ ja (pv 3) jb)$ @qo _ _ _ _ _ _ _ _ _ jj K9$ @qo _ _ _ _ _ _ _ _ _ jj jf$ @qo _ _ _ _ _ _ _ _ _ jj (pv 4)$ @qo _ _ _ _ _ _ _ _ _ jj jj$ @qo _ _ _ _ _ _ _ _ _ jj (jD jb)$ @Ac _ _) LK LK LO LO)$ jd (jz 6 D6.nd$ cF.e v.m$ ja (pv 0)$ ja (pv 1)$ ja (pv 2)$ ja (pv 5)$ ja jf jb)$ jg$ jm$ jh$ ja (kj (jR v) (pv 5) jj (λ_ _=>Z))$ ja (pv 6)$ ja (kj (jR v) (pv 5) jj (λ_ _=>Z))$ ja (kj (jR v) (pv 5) jj (λ_ _=>Z))$ ja (kj (jR v) (pv 5) jj (λ_ _=>Z)) jb),?_]];let b0:=aJ;erw[ah λF1 u=>λg q=>#[_,Z,R,C,Z,am h1 q,λj l W N=>#[_,Z,MH _,λi n=>?_]]];let D:=YK l;let z:=YK N;let y:W≠g:=λe=>by rw[e,ji$ MU D,jc]at N;cases N
 let d4:=YK n;let d5:i≠j:=λe=>by rw[e,ji$ MU z,jc]at n;cases n
 let d6:i≠g:=λe=>by rw[e,ji$ MU y,ji$ MU D,jc]at n;cases n
 let B:af H (upd (upd (upd (upd (upd H g$ .dK []) j$ .dK C) W$ .dK []) i$ .lst []) g$ .dK$ stk j W 0 m "told" i):=λb o e=>by rw[ji$ jk e q];exact am (am (am (am e q) l) N) n
 let S0:Sx C (upd (upd (upd (upd (upd H g$ .dK []) j$ .dK C) W$ .dK []) i$ .lst []) g$ .dK$ stk j W 0 m "told" i) g j W i [] 0 m "told":=
  #[jc,#[C,by rw[ji D,ji$ MU d5,ji$ MU z,jc],h2,h3,λc=>Z],by rw[ji y,ji$ MU d4,jc],#[[],by rw[ji d6,jc],Mx _],_K.GT.nil,Mx _,MU D,MU y,MU z,x]
 let nh:H j=ζ:=by rw[ji D]at l;exact l
 let nw:H W=ζ:=by rw[ji z,ji y]at N;exact N
 let ng:H i=ζ:=by rw[ji d4,ji d5,ji d6]at n;exact n
 erw[#[by rw[ji$ MU d6,ji$ MU y,ji$ MU D,jc],[(.inr "holds",.ref j),(.inr "wrote",.ref W),(.inr "turns",.int 0),(.inr "most",.int m),(.inr "word",.str "told"),(.inr "log",.ref i)],Z,(show 6<=15 by decide),?_]];show F1 [↑I,δ$ .str f,↑J,↑R,δ$ .int m,↑g,ζ] (upd (upd (upd (upd (upd H g$ .dK []) j$ .dK C) W$ .dK []) i$ .lst []) g$ .dK$ stk j W 0 m "told" i);generalize upd (upd (upd (upd (upd H g$ .dK []) j$ .dK C) W$ .dK []) i$ .lst []) g (.dK$ stk j W 0 m "told" i)=H1 at B S0;clear l N n;erw[u _ _ ?_];clear u;let FS:∀{p:Hp},Fr g j W i H1 p->af H p:=λf b o e=>f b o (jk e q) (jk e nh) (jk e nw) (jk e ng) (B _ _ e);let G:∀(w:π) (L:aE) (T:Nat) (p:Hp),Sx C p g j W i L T m w->a7 p g (ti "word") (δ$ .str w)/\a7 p g (ti "wrote") (↑W)/\a7 p g (ti "turns") (δ$ .int (T:Int))/\a7 p g (ti "log") (↑i):=λw L T p S=>#[a7.k (k:=.inr "word") S.st,a7.k (k:=.inr "wrote") S.st,a7.k (k:=.inr "turns") S.st,a7.k (k:=.inr "log") S.st];erw[ah λF1 u=>#[_,Z,_,Z,_,Z,_,Z,C,P0,I,J,g,j,W,i,f,d,is,[],0,k,m,0,o,Z,Z,U.mono$ af.tm B,X,hf,B _ _ Y,h0,hl,S0,x,hm,hx,h4,λa L T p eo t l3 ia f3=>u _ _ ?_,λw L T p eo t f3=>u _ _ ?_]]
 .clear u;let⟨g1,g2,g3,g4⟩:=G _ _ _ _ t;erw[#[_,Z,g,_,Z,g1,_,Z,_,Z,g,_,Z,g2,_,Z,g,_,Z,g3,_,Z,g,_,Z,g4,(by show 5<=τ;decide),λrr r=>?_]];let l1:=t.lL;exact qD a L T _ rr W i eo jc (am t.wr r) t.gL LN t.tm ((FS f3).trans$ je r)
 .clear u;let⟨g1,g2,g3,g4⟩:=G _ _ _ _ t;erw[#[_,Z,g,_,Z,g1,_,Z,_,Z,g,_,Z,g2,_,Z,g,_,Z,g3,_,Z,g,_,Z,g4,(by show 5<=τ;decide),λrr r=>?_]];exact qS w _ rr _ _ _ _ eo jc t.tm ((FS f3).trans$ je r)
abbrev n8:da:=bP (top 9) 0
abbrev nZ:da:=bP (top 10) 0
structure Ld(K:Ω)(C:ε)(f:π):Prop where
 x:ie K C
 no:aW K C f
 cd:∃cd,clsIn K C=δ cd/\cd.hasDict=ν/\gE cd.mro=ν
inductive ii(C:ε)(f:π)(b:List V)(H:Hp)(Q:VK)(a:XK):Prop
 |mk(x v:_)(_:b=[.ref x,v])(_:H x=δ (hZ C ζ x))(_:∀dx,H dx=ζ->Q .non (upd (upd H x (hZ C (δ dx) x)) dx (.xd [(f,v)])))
structure XC(P:ψ)(w:bU)(K:Ω)(mg:π->Option η)(base:ef)(C fI:ε)(fdI:Φ)(cn:π):Prop where
 mkr:HP K C
 ini:findIn K (.ref C) "__init__"=δ (↑fI)
 fn:isFn K (.ref fI)=ν
 g:⇑1 fI fdI z16z (ii C "name")
 b:au K fdI z16z []
 m:mg cn=↑C
 x:ie K C
 ty:typeIn K (.ref C)=δ (.type "type")
def XO(H:Hp)(C:ε)(x:π)(E:XK):Prop:=∀d h,Kp H h->h d=δ (.xd [("name",.str x)])->E (.ref C) (δ d) h
def uG{x:π}:NX (.xd [("name",.str x)]):=λa z=>by cases z
def XO.next{H a:Hp}{C:ε}{x:π}{E:XK}(h:XO H C x E)(s:af H a):XO a C x (mJ E):=λD j k e y T t c g d l f=>by cases g;exact h D _ (λb o n i=>zA (H:=H) (k b o n$ s _ _ i) n d f)$ zA (H:=H) e uG d f
def Z4{H:Hp}{x d C:ε}{y:π}{E:XK}(f:H x=ζ)(a:upd H x (hZ C ζ x) d=ζ)(h:XO H C y E):
  ∀T,upd (upd (upd H x$ hZ C ζ x) x$ hZ C (δ d) x) d (.xd [("name",.str y)]) T=ζ->
   E (.ref C) (δ d) (upd (upd (upd (upd (upd H x$ hZ C ζ x) x$ hZ C (δ d) x) d$ .xd [("name",.str y)]) T$ fb T) x$ fc C (δ d) T x):=by
 intro T c;let X:d≠x:=λe=>by rw[e,jc]at a;cases a
 let j:T≠x:=λe=>by rw[e,ji$ MU X,jc]at c;cases c
 let D:T≠d:=λe=>by rw[e,jc]at c;cases c
 let g:H T=ζ:=by rw[ji D,ji j,ji j]at c;exact c
 let i:H d=ζ:=by rw[ji X]at a;exact a
 erw[h d _ (λb o _ e=>?_) ?_]
 .rw[ji$ jk e f,ji$ jk e g,ji$ jk e i,ji$ jk e f,ji$ jk e f];exact e
 .rw[ji X,ji$ MU D,jc]
def tO{H:Hp}{x d C:ε}{o:HO}(h:upd H x (hZ C ζ x) d=ζ):upd (upd (upd H x$ hZ C ζ x) x$ hZ C (δ d) x) d o x=δ (hZ C (δ d) x):=by
 let n:d≠x:=λe=>by rw[e,jc]at h;cases h
 rw[ji$ MU n,jc]
inductive AQ(c:ε)(d:List V)(H:Hp)(b:VK)(E:XK):Prop
 |mk(a:ε)(f:π)(e:List V)(_:d=[.ref a,.str f])(_:H a=δ (.tup e))(_:∀x∈e,∃g,Bc H x g/\g≠f)(_:XO H c f E)
def u6{X:Cx}{K:Ω}{g:π}{p:Pos}{e:dr}{t:TE}(h:X.K=K)(H:PE X e t)(a:attributeBase e g X.env (eval e X.env)=eval e X.env):PE X (.Attribute e g p) (BX K t g):=by subst h;exact y8 H a
def zC{H b:Hp}{a C:ε}{f:List (π×V)}(s:af H b)(e:iH H a C f):iH b a C f:=by
 rcases e with ⟨h,T,e⟩ | ⟨d,T,e,E⟩
 .exact .inl #[h,T,s _ _ e]
 .exact .inr #[d,T,s _ _ e,s _ _ E]
def FI{P:ψ}{w:bU}{K:Ω}{mg:π->Option η}{base:ef}{C:nF}{k:Nat}{f:ε}{g:Φ}{p:List π}{i S:Sp}(F:ai P w K mg base C k f g p i)(j:ai P w K mg base C k f g p S):ai P w K mg base C k f g p (λv H Q E=>i v H Q E∨S v H Q E):=
 #[λv H Q E h=>h.elim (F.1 v H Q E) (j.1 v H Q E),λA o s H e u v Q E a b c d h=>h.elim (F.2 A o s H e u v Q E a b c d) (j.2 A o s H e u v Q E a b c d)]
inductive AN(c b:ε)(d:List V)(H:Hp)(Q:VK)(E:XK):Prop
 |mk(a g:ε)(f:π)(e h:List V)(_:d=[.ref a,.str f,.ref g])(_:H a=δ (.tup e))(_:H g=δ (.tup h))(_:((∀x∈e,∃g,Bc H x g/\g≠f)/\XO H c f E)∨∃(i:Nat) (p pa:ε) (r ps:List V),e[i]?=↑p/\H p=δ (.tup (.str f:: .ref pa::r))/\H pa=δ (.tup ps)/\(∀j x,j < i->e[j]?=δ x->∃g,Bc H x g/\g≠f)/\(h.length=ps.length->Q (.ref p) H)/\(h.length≠ps.length->XO H b f E))
inductive ms(j h p e c:ε)(s:List V)(H:Hp)(Q:VK)(E:XK):Prop
 |mk(M:Nat)(r k l:ε)(f:π)(g:aE)(m:List Df)(q:List Nat)(t:List V)(b:List fh)(o:List Int)(_:s=[.ref r,.str f,.ref k,.ref l,.int (M:Int)])(_:M<=1000)(_:Ps H p r m q t b)(_:H k=δ (.tup (o.map tT)))(_:∀z∈o,dE z)(_:H l=δ (.dK g))(_:GT g)(_:(f∉m.map Df.f/\XO H e f E)∨∃(i:Nat) (d:Df) (n:Nat),m[i]?=δ d/\q[i]?=δ n/\d.f=f/\(n≠o.length->XO H c f E)/\(n=o.length->(∀(u:V) (sk:Sk) (a:Int) (L':aE) (H':Hp),bY M b g 16 f o [] 0= .ok sk a L' sk.size->IZ H' f o sk a u->sk.ok ν->sk.dep<=15->sk.size<=M->af H H'->Q u H')/\nQ (bY M b g 16 f o [] 0= .long) (bY M b g 16 f o [] 0= .deep) E j h (Kp H)))
def Ax:ak z16z z16z (ae n8):=bQ
def uM{f:ε}{a:Φ}(F:aM K "__init__" "NoName.__init__" n8 f a){C:ε}(X:Ld K C "name"):⇑1 f a z16z (ii C "name"):=by
 erw[F.ok Ax λc A o s H V Q E j h=>?_]
 let⟨x,v,rfl,b,q⟩:=h;erw[#[_,(jg$ @ZE _ _ _ _ _ _ _ _ (pv 0) (pv 1) LK),?_]];let⟨d,e,g,i⟩:=X.cd;exact#[_,Z,_,Z,x,C,d,Z,b,X.x,X.no,e,g,i,λD n=>q D n]
def Aw:ak z16z z16z (ae nZ):=bQ
def uL{f:ε}{a:Φ}(F:aM K "__init__" "NoCount.__init__" nZ f a){C:ε}(X:Ld K C "name"):⇑1 f a z16z (ii C "name"):=by
 erw[F.ok Aw λc A o s H V Q E j h=>?_]
 let⟨x,v,rfl,b,q⟩:=h;erw[#[_,(jg$ @ZE _ _ _ _ _ _ _ _ (pv 0) (pv 1) LK),?_]];let⟨d,e,g,i⟩:=X.cd;exact#[_,Z,_,Z,x,C,d,Z,b,X.x,X.no,e,g,i,λD n=>q D n]
def rH{f:ε}{t:Φ}(F:xa K "named" iE f t){C l:ε}{c:Φ}(X:XC P w K mg base C l c "NoName"):ai P w K mg base (eI P w) 3 f t ["ones","f"] (AQ C):=by
 erw[F.ok1 gU λB A o s H Y Q E D h=>?_]
 let⟨a,f,xs,rfl,u,I,L⟩:=h;erw[#[_,(jd (kP Tg Z (zp$ pv 0) (ju (i:=2) gU.nd Z$ Δ Z)$ jg$ jx (jB zJ (jy$ pv 2) (pv 1)$ ax _) (jg$ jm$ pv 2) jo)$ jg$ @JK _ _ _ _ _ Z Jc$ @X7 _ _ _ _ _ _ _ _ _ _ _ _ _ _ _ X.mkr X.ini X.fn X.g D Z X.m X.b bu (ja (pv 1) jb) LO LK LK),?_]];erw[ah λF1 v=>gn λJ j=>#[_,Z,a,Z,#[_,aB.of u],j _ _ ?_]];clear j;erw[qU (K:=K) (xs:=xs) (λk e q=>(∃O,e=[↑a,δ$ .str f,O])/\q=H) #[#[_,Z],Z] (λk e q _ h=>by rw[h.2];exact aB.of u) ?_ (λe q h=>?_)]
 .clear v;intro M rt k x e H2 N R G d h;obtain⟨⟨O,rfl⟩,rfl⟩:=h;erw[d ?_];clear d;obtain⟨g,⟨p,r,rfl,S⟩,T⟩:=I x (ML N);show lB _ _ _ M _ _;erw[oJ λG1 kT U=>(jq S io #[_,Z,Z,_,Z,?_])];rw[MY (λz=>T (by injection z))];exact U _$ R _ _ #[#[_,Z],Z]
 .obtain⟨⟨O,rfl⟩,rfl⟩:=h;erw[v _ _ ?_];exact#[_,Z,(by show 1<=1000;decide),λy V=>#[y,_,Z,jc,λW n=>#[Z,y,C,δ W,Z,tO n,X.x,X.ty,Z4 V n$ L]]]
def Gb{f:ε}{y:Φ}{k:ε}{c:Φ}(F:xa K "begun" nW f y){C l:ε}{d:Φ}(XC:XC P w K mg base C l d "NoCount"){z:ε}(L:ai P w K mg base (eI P w) 3 k c ["ones","f"] (λv H Q E=>mj v H Q E∨AQ z v H Q E))(N:au K c ["ones","f"] [])(O:fx K (.ref k)=ν)(R:mg "named"=↑k)(M:mg "len"=ζ):ai P w K mg base (eI P w) 4 f y ["ones","f","args"] (AN z C):=by
 erw[F.ok1 oY λS A o s H v Q E B h=>?_]
 let⟨a,g,f,X,Y,rfl,G,T,U⟩:=h;erw[#[_,(jd (jz 3 oY.nd$ kf L B.m Z R O N .nil zu$ ja (pv 0)$ ja (pv 1) jb)$ jd (jx (jB Jx (jF jL Z M NQ$ ja (pv 2) jb) (jF jL Z M NQ$ ja (jy$ pv 3) jb)$ ax _) (jg$ @JK _ _ _ _ _ Z Jc$ @X7 _ _ _ _ _ _ _ _ _ _ _ _ _ _ _ XC.mkr XC.ini XC.fn XC.g B.m Z XC.m XC.b bu (ja (pv 1) jb) LO LK LK) jo)$ jg$ jm$ pv 3),?_]];rcases U with ⟨V,W⟩ | ⟨i,p,pa,r,ps,hi,I,t,hj,q,qc⟩
 .exact#[_,Z,_,Z,.inr #[a,f,X,Z,G,V,W.next (λ_ _ e=>e)]]
 erw[ah λF1 j=>#[_,Z,_,Z,.inl #[a,f,X,i,.ref p,Z,G,hi,#[p,_,Z,I],hj,j _ _ ?_]]];clear j;erw[ah λF1 j=>#[_,Z,g,_,Z,.inr$ aB.of T,jq I oH #[pa,_,Z,.inr$ aB.of t,Z,_,Z,?_]]];by_cases u:Y.length=ps.length
 .exact aI (by rw[u];simp)$ j _ _ #[_,Z,q u]
 .exact bJ (by simp;omega) #[_,Z,(by show 1<=1000;decide),λJ n0=>#[J,_,Z,jc,λd0 n=>#[Z,J,C,δ d0,Z,tO n,XC.x,XC.ty,Z4 n0 n$ qc u]]]
def yO{f:ε}{fd:Φ}{C TL TD nA fI fB fA:ε}{B fdB G:Φ}{CN CC:ε}(F:xa K "run" D3 f fd)(ck:RK K C)(mk:Mk K C fI)(GI:⇑2 fI B z29z (mn C))(bI:au K B z29z [])(mC:mg "BookRun"=↑C)(GB:ai P w K mg base (eI P w) 4 fB fdB ["ones","f","args"] (AN CN CC))(bB:au K fdB ["ones","f","args"] [])(kB:fx K (.ref fB)=ν)(mB:mg "begun"=↑fB)(GA:ai P w K mg base (eI P w) 44 fA G z13z (dY C TL TD nA 16))(bA:au K G z13z [])(U:cq K C "chain_of" fA):ai P w K mg base (eI P w) 45 f fd z32z (ms TL TD nA CN CC):=by
 erw[F.ok1 BR λc0 A V s H vs Q E W h=>?_]
 let⟨M,g,R,k,f,Y,ds,ns,X,I,is,rfl,hM,t,ha,h0,J,h1,hz⟩:=h;erw[#[_,(jd (jz 5 BR.nd$ kf GB W.m Z mB kB bB .nil zu$ ja (pv 0)$ ja (pv 1)$ ja (pv 2) jb)$ jg$ jm$ zn (Zz mk GI W.m Z mC bI .nil bu$ ja (pv 0)$ ja (pv 3)$ ja (pv 4) jb) ck.cl U GA W.m bA .nil zu$ ja (pv 5)$ ja (pv 2)$ ja jf jb),?_]];rcases hz with ⟨y,qn⟩ | ⟨i,d,n,hd,y,rfl,qc,q2⟩
 .erw[#[_,Z,_,Z,_,Z,g,R,f,X,_,Z,t.at',ha,.inl #[λx hx=>?_,qn.next (λ_ _ e=>e)]]];let⟨j,hj,rfl⟩:=kv.mp hx;let jl:j < ds.length:=by let:=zM t.tr;rw[Mv]at this;omega
  let⟨v,L,tv,O,_⟩:=t.at (Mw jl);rw[Mw hj]at L;cases L;exact#[_,O,λz=>y (by rw[<- z];exact Rz$ N4 jl)]
 let⟨v,L,tv,O,h2⟩:=t.at hd;let⟨p,pr,rfl,hp⟩:=yY tv;let⟨ps,h3,h4,_⟩:=t.pa.2 i d _ hd y;erw[ah λF1 f1=>#[_,Z,_,Z,_,Z,g,R,d.f,X,_,Z,t.at',ha,.inr #[i,p,d.pa,pr,_,L,hp,h3,h2,λhl=>f1 _ _ ?_,λhl=>(qc λz=>hl (by rw[Mv,Mv];omega)).next (λ_ _ e=>e)]]];rw[Mv,Mv]at hl;let⟨q,t0⟩:=q2 LN;let y:ns[i]?=δ is.length:=by rw[y];congr 1;omega
 clear f1;erw[#[_,Z,_,Z,_,Z,λr D T nd ne=>?_]];let s0:af H (upd (upd H D$ .own r) r$ .ins C D []):=λc o e=>by rw[ji$ jk e T,ji$ jk e nd];exact e
 erw[#[r,D,g,k,M,Z,jc,λl nl=>#[Z,?_]]];let n0:l≠r:=λe=>by rw[e,jc]at nl;cases nl
 let N:H l=ζ:=by
  cases z:H l with
  |none=>rfl
  |some o=>have:=s0 _ _ z;rw[nl]at this;cases this
 let S:af H (upd (upd (upd (upd H D$ .own r) r$ .ins C D []) l$ .dK []) r$ .ins C D$ iI [] k l g M 0):=λc o e=>by rw[ji$ jk e T,ji$ jk e N];exact s0 _ _ e
 let R1:Rn (upd (upd (upd (upd H D$ .own r) r$ .ins C D []) l$ .dK []) r$ .ins C D$ iI [] k l g M 0) C r D [] k l g M 0 [] Y:=#[jc,by rw[ji n0];exact jc,S _ _ J,GT.nil,h1,jk J N,Tl.nil,LN];generalize upd (upd (upd (upd H D$ .own r) r$ .ins C D []) l$ .dK []) r (.ins C D$ iI [] k l g M 0)=H1 at S R1;let t1:=af.tm S;erw[#[r,D,_,Z,R1.ins,Z,_,Z,_,Z,M,r,D,[],k,l,g,R,0,0,i,[],Y,.ref p,d,ds,ns,X,I,is,Z,Z,LO,R1,Mx _,MH _,t.mono t1,hd,y,L,S _ _ ha,h0,λu sk a L' H2 eq hc ok dp ia R2 l2 t2 k2=>?_,nQ.next$ t0.mono λH' kk=>λb o nx e=>kk b o (jk e T) (jk e N) nx (S _ _ e)]];exact q u sk a L' H2 (by rw[Pm]at eq;exact eq) hc ok LN LN λc o e=>k2 c o (jk e T) (jk e N) (S _ _ e)
abbrev An:da:=top 75
abbrev D4:da:=top 76
structure xt where
 N:ε
 C:ε
 L:ε
 D:ε
 S:ε
 R:ε
 T:ε
 W:ε
 B:ε
structure lK(K:Ω)(c:xt)(C:ε)(bN bC bL bD:Bool):Prop where
 x:ie K C
 kN:kitOne K (.ref C) (.ref c.N)=δ bN
 kC:kitOne K (.ref C) (.ref c.C)=δ bC
 kL:kitOne K (.ref C) (.ref c.L)=δ bL
 kD:kitOne K (.ref C) (.ref c.D)=δ bD
 kS:kitOne K (.ref C) (.ref c.S)=δ μ
 kR:kitOne K (.ref C) (.ref c.R)=δ μ
 kT:kitOne K (.ref C) (.ref c.T)=δ μ
 kW:kitOne K (.ref C) (.ref c.W)=δ μ
 mb:mroIn K C (.ref c.B)=δ ν
abbrev Pk:=ε×π×Bool
def C9(P:List Pk):List V:=(P.filter λc=>c.2.2).map λc=>ti c.2.1
def ui{P:List Pk}{i:Nat}{c:Pk}(h:P[i]?=δ c):C9 (P.take$ i+1)=C9 (P.take i)++(if c.2.2=ν then [ti c.2.1] else []):=by
 unfold C9;rw[NY,h,TB,RE,M0];congr 1;cases e:c.2.2
 .simp [e]
 .simp [e]
def yn{P:List Pk}{i:Nat}:(C9$ P.take i).length<=i:=by unfold C9;rw[Mv];exact MT (O5 _ _) (by rw[M1];exact Ro _ _)
def uf(b B a c:Bool):List π:=(if b=ν then (["name"]:List π) else [])++((if B=ν then (["count"]:List π) else [])++((if a=ν then (["long"]:List π) else [])++(if c=ν then (["deep"]:List π) else [])))
def tM{H:Hp}{a C:ε}{f:List (π×V)}(e:iH H a C f):Bj H a:=by
 rcases e with ⟨h,T,e⟩ | ⟨d,T,e,E⟩
 .exact#[_,_,_,e]
 .exact#[_,_,_,e]
inductive pk(K:Ω)(c:xt)(i:ε)(h:List V)(H:Hp)(Q:VK)(a:XK):Prop
 |mk(C:ε)(g:List (π×V))(f b e d:Bool)(_:h=[.ref i])(_:iH H i C g)(_:lK K c C f b e d)(_:∀(r:ε) (H':Hp),H' r=δ (.lst ((uf f b e d).map ti))->af H H'->H r=ζ->Q (.ref r) H')
def xf:OC->Option (List π)
 | .ok _ _ _ _=>ζ
 | .long=>δ (["long"]:List π)
 | .deep=>δ (["deep"]:List π)
def Bi(D:List Df)(N:List Nat)(p:List fh)(C:aE)(M:Nat)(f:π)(I:List Int)(o:Option (List π)):Prop:=
 (f∉D.map Df.f/\o=δ (["name",f]:List π))∨∃(i:Nat) (d:Df) (n:Nat),D[i]?=δ d/\N[i]?=δ n/\d.f=f/\(n≠I.length->o=δ (["count",f]:List π))/\(n=I.length->o=xf (bY M p C 16 f I [] 0))
inductive nq(i:ε)(m:List V)(H:Hp)(Q:VK)(a:XK):Prop
 |mk(M:Nat)(k d e:ε)(f:π)(c:aE)(g:List Df)(j:List Nat)(n:List V)(b:List fh)(h:List Int)(o:Option (List π))(_:m=[.ref k,.str f,.ref d,.ref e,.int (M:Int)])(_:M<=1000)(_:Ps H i k g j n b)(_:H d=δ (.tup (h.map tT)))(_:∀z∈h,dE z)(_:H e=δ (.dK c))(_:GT c)(_:Bi g j b c M f h o)(_:o=ζ->∀H',Kp H H'->Q .non H')(_:∀ws,o=δ ws->∀(l:ε) (H':Hp),H' l=δ (.lst (ws.map ti))->Kp H H'->Q (.ref l) H')
inductive Lb(K:Ω)(k:List V)(H:Hp)(Q:VK):Prop
 |mk(a C:ε)(j:List (π×V))(y:V)(c:η)(b:Bool)(d:k=[.ref a,y])(e:Fe y=δ c)(f:iH H a C j)(g:ie K C)(h:kitOne K (.ref C) c=δ b)(i:Q (.bl b) H)
def zF{X:Cx}{K:Ω}(d:X.K=K):dI X (.builtin "isinstance") (Lb K):=by subst d;intro p s e H x u Q I r h;let⟨a,C,f,y,c,b,E,g,i,j,k,q⟩:=h;exact XJ p s e H x u Q I r #[a,C,f,y,c,b,E,g,i,j,k,q]
def rn{H h:Hp}{r:ε}(s:af H h)(n:h r=ζ):H r=ζ:=by
 cases e:H r with
 |none=>rfl
 |some o=>rw[s _ _ e]at n;cases n
def Bv{A:cJ}{k:Nat}(h:gG k A):A.units+10 < cLine:=by let:=h.un;omega
def oZ:ak ["_law_e","_law_some"] ["_law_e"] (ae An):=bQ
def se:hJ:=#[.function,[(".0",.local),("_law_word_here",.local),("_law_so",.local)],μ,μ,[]]
def uB:(["_law_word_here","_law_so"]:List π).Nodup:=by decide+kernel
def CA:aV ["_law_e","_law_some"] (ae An) se ["_law_word_here","_law_so"] 2 []:=nS
def uO{f:ε}{fd:Φ}(F:xa K "_law_kinds" An f fd){c:xt}(m:mg "isinstance"=ζ)(gN:mg "NoName"=δ (.ref c.N))(gC:mg "NoCount"=δ (.ref c.C))(gL:mg "TooLong"=δ (.ref c.L))(gD:mg "TooDeep"=δ (.ref c.D))(gS:mg "NoStep"=δ (.ref c.S))(gR:mg "NoRow"=δ (.ref c.R))(gT:mg "NoText"=δ (.ref c.T))(gW:mg "Twice"=δ (.ref c.W)):EJ P w K mg base 1 f fd ["_law_e"] (pk K c):=by
 erw[F.okH oZ (λxm vs H Q E h=>?_) (λc0 xm A o1 s H vs Q E hr hh h=>?_)]
 .let⟨C,fs,B,t,u,y,rfl,_⟩:=h;rfl
 let⟨C,fs,B,t,u,y,rfl,z,k,q⟩:=h;erw[#[_,(jd (jz 1 oZ.nd$ jD$ ja (jh$ ja jj$ ja (jF (zF (K:=K) Z) Z m Ox$ ja (pv 0)$ ja (kG (v:=.ref c.N) Z gN Z) jb) jb)$ ja (jh$ ja jj$ ja (jF (zF (K:=K) Z) Z m Ox$ ja (pv 0)$ ja (kG (v:=.ref c.C) Z gC Z) jb) jb)$ ja (jh$ ja jj$ ja (jF (zF (K:=K) Z) Z m Ox$ ja (pv 0)$ ja (kG (v:=.ref c.L) Z gL Z) jb) jb) jb)$ jd (jz 1 oZ.nd$ jw qw (pv 1)$ jD$ ja (jh$ ja jj$ ja (jF (zF (K:=K) Z) Z m Ox$ ja (pv 0)$ ja (kG (v:=.ref c.D) Z gD Z) jb) jb)$ ja (jh$ ja jj$ ja (jF (zF (K:=K) Z) Z m Ox$ ja (pv 0)$ ja (kG (v:=.ref c.S) Z gS Z) jb) jb)$ ja (jh$ ja jj$ ja (jF (zF (K:=K) Z) Z m Ox$ ja (pv 0)$ ja (kG (v:=.ref c.R) Z gR Z) jb) jb) jb)$ jd (jz 1 oZ.nd$ jw qw (pv 1)$ jD$ ja (jh$ ja jj$ ja (jF (zF (K:=K) Z) Z m Ox$ ja (pv 0)$ ja (kG (v:=.ref c.T) Z gT Z) jb) jb)$ ja (jh$ ja jj$ ja (jF (zF (K:=K) Z) Z m Ox$ ja (pv 0)$ ja (kG (v:=.ref c.W) Z gW Z) jb) jb) jb)$ jg$ jm$ @u5 _ (xm) _ _ _ _ _ _ (["_law_word_here","_law_so"]) (2) ([]) _ _ _ _ hh (@vf _ (xm) _ _ _$ pv 1) CA (λ_ _ _ _ _=>ve (K:=K) (xm:=xm) (n:=2) Z hh (jA (ju (i:=0) uB Z$ Δ Z)$ jA (ju (i:=1) uB Z$ Δ Z) kH) Z Z) (λ_ _ _ _ _=>(@Xr _ _ _$ Jl$ pv 1)) (λ_ _ _ _ _=>(pv 0)) (by intro _;rfl)),?_]];try dsimp only[EL,eP,Cx.nox,Cx.wish]
 let b0:=aJ;erw[ah λF1 G=>#[_,Z,xm,C,_,_,_,_,Z,Z,z,k.x,k.kN,bg,λp n0=>?_]];let s0:af H (upd H p$ .tup [.str "name",.bl B]):=je n0;let e0:upd H p (.tup [.str "name",.bl B]) p=δ (.tup [.str "name",.bl B]):=jc;generalize upd H p (.tup [.str "name",.bl B])=H0 at s0 e0 ⊢;let S0:af H H0:=s0;erw[#[_,Z,xm,C,_,_,_,_,Z,Z,(zC S0 z),k.x,k.kC,bg,λa n1=>?_]];let s1:af H0 (upd H0 a$ .tup [.str "count",.bl t]):=je n1;let e1:upd H0 a (.tup [.str "count",.bl t]) a=δ (.tup [.str "count",.bl t]):=jc;generalize upd H0 a (.tup [.str "count",.bl t])=H1 at s1 e1 ⊢;let S1:af H H1:=S0.trans s1;erw[#[_,Z,xm,C,_,_,_,_,Z,Z,(zC S1 z),k.x,k.kL,bg,λb n2=>?_]];let s2:af H1 (upd H1 b$ .tup [.str "long",.bl u]):=je n2;let e2:upd H1 b (.tup [.str "long",.bl u]) b=δ (.tup [.str "long",.bl u]):=jc;generalize upd H1 b (.tup [.str "long",.bl u])=H2 at s2 e2 ⊢;let S2:af H H2:=S1.trans s2;erw[#[eJ,λM n3=>G _ _ ?_]];clear G;let sA:af H2 (upd H2 M$ .lst [.ref p,.ref a,.ref b]):=je n3;let eA:upd H2 M (.lst [.ref p,.ref a,.ref b]) M=δ (.lst [.ref p,.ref a,.ref b]):=jc;generalize upd H2 M (.lst [.ref p,.ref a,.ref b])=O at sA eA ⊢;let SA:af H O:=S2.trans sA;show cy _ _ _ [↑xm,↑M] O;erw[ah λF1 G=>#[_,Z,?_]];erw[#[_,Z,xm,C,_,_,_,_,Z,Z,(zC SA z),k.x,k.kD,bg,λd n4=>?_]];let s3:af O (upd O d$ .tup [.str "deep",.bl y]):=je n4;let e3:upd O d (.tup [.str "deep",.bl y]) d=δ (.tup [.str "deep",.bl y]):=jc;generalize upd O d (.tup [.str "deep",.bl y])=H3 at s3 e3 ⊢;let S3:af H H3:=SA.trans s3;erw[#[_,Z,xm,C,_,_,_,_,Z,Z,(zC S3 z),k.x,k.kS,bg,λg n5=>?_]];let s4:af H3 (upd H3 g$ .tup [.str "step",.bl μ]):=je n5;let e4:upd H3 g (.tup [.str "step",.bl μ]) g=δ (.tup [.str "step",.bl μ]):=jc;generalize upd H3 g (.tup [.str "step",.bl μ])=H4 at s4 e4 ⊢;let S4:af H H4:=S3.trans s4;erw[#[_,Z,xm,C,_,_,_,_,Z,Z,(zC S4 z),k.x,k.kR,bg,λj n6=>?_]];let s5:af H4 (upd H4 j$ .tup [.str "row",.bl μ]):=je n6;let e5:upd H4 j (.tup [.str "row",.bl μ]) j=δ (.tup [.str "row",.bl μ]):=jc;generalize upd H4 j (.tup [.str "row",.bl μ])=H5 at s5 e5 ⊢;let S5:af H H5:=S4.trans s5;erw[#[eJ,λlb n7=>?_]];let sB:af H5 (upd H5 lb$ .lst [.ref d,.ref g,.ref j]):=je n7;let eB:upd H5 lb (.lst [.ref d,.ref g,.ref j]) lb=δ (.lst [.ref d,.ref g,.ref j]):=jc;generalize upd H5 lb (.lst [.ref d,.ref g,.ref j])=HB at sB eB ⊢;let SB:af H HB:=S5.trans sB;erw[#[M,lb,_,_,Z,Z,(s3.trans$ s4.trans$ s5.trans sB) _ _ eA,eB,(by show 6<=τ;decide),λU n'=>G _ _ ?_]];clear G;let sC:af HB (upd HB U$ .lst ([.ref p,.ref a,.ref b]++[.ref d,.ref g,.ref j])):=je n';let eC:upd HB U (.lst ([.ref p,.ref a,.ref b]++[.ref d,.ref g,.ref j])) U=δ (.lst ([.ref p,.ref a,.ref b]++[.ref d,.ref g,.ref j])):=jc;generalize upd HB U (.lst ([.ref p,.ref a,.ref b]++[.ref d,.ref g,.ref j]))=X at sC eC ⊢;let SC:af H X:=SB.trans sC;show cy _ _ _ [↑xm,↑U] X;erw[ah λF1 G=>#[_,Z,?_]];erw[#[_,Z,xm,C,_,_,_,_,Z,Z,(zC SC z),k.x,k.kT,bg,λl a0=>?_]];let s6:af X (upd X l$ .tup [.str "text",.bl μ]):=je a0;let e6:upd X l (.tup [.str "text",.bl μ]) l=δ (.tup [.str "text",.bl μ]):=jc;generalize upd X l (.tup [.str "text",.bl μ])=H6 at s6 e6 ⊢;let S6:af H H6:=SC.trans s6;erw[#[_,Z,xm,C,_,_,_,_,Z,Z,(zC S6 z),k.x,k.kW,bg,λo a1=>?_]];let s7:af H6 (upd H6 o$ .tup [.str "twice",.bl μ]):=je a1;let e7:upd H6 o (.tup [.str "twice",.bl μ]) o=δ (.tup [.str "twice",.bl μ]):=jc;generalize upd H6 o (.tup [.str "twice",.bl μ])=H7 at s7 e7 ⊢;let S7:af H H7:=S6.trans s7;erw[#[bg,λld a2=>?_]];let sD:af H7 (upd H7 ld$ .lst [.ref l,.ref o]):=je a2;let eD:upd H7 ld (.lst [.ref l,.ref o]) ld=δ (.lst [.ref l,.ref o]):=jc;generalize upd H7 ld (.lst [.ref l,.ref o])=HD at sD eD ⊢;let SD:af H HD:=S7.trans sD;erw[#[U,ld,_,_,Z,Z,(s6.trans$ s7.trans sD) _ _ eC,eD,(by show 8<=τ;decide),λI a3=>G _ _ ?_]];clear G;let sE:af HD (upd HD I$ .lst ([.ref p,.ref a,.ref b]++[.ref d,.ref g,.ref j]++[.ref l,.ref o])):=je a3;let Y:upd HD I (.lst ([.ref p,.ref a,.ref b]++[.ref d,.ref g,.ref j]++[.ref l,.ref o])) I=δ (.lst ([.ref p,.ref a,.ref b]++[.ref d,.ref g,.ref j]++[.ref l,.ref o])):=jc;generalize upd HD I (.lst ([.ref p,.ref a,.ref b]++[.ref d,.ref g,.ref j]++[.ref l,.ref o]))=HE at sE Y ⊢;let SE:af H HE:=SD.trans sE;let tD:=sE;let t7:=sD.trans tD;let t6:=s7.trans t7;let tC:=s6.trans t6;let tB:=sC.trans tC;let t5:=sB.trans tB;let t4:=s5.trans t5;let t3:=s4.trans t4;let tA:=s3.trans t3;let t2:=sA.trans tA;let t1:=s2.trans t2;let t0:=s1.trans t1;let all:∀c∈([(p,"name",B),(a,"count",t),(b,"long",u),(d,"deep",y),(g,"step",μ),(j,"row",μ),(l,"text",μ),(o,"twice",μ)]:List Pk),HE c.1=δ (.tup [.str c.2.1,.bl c.2.2]):=λc J=>by
  simp only[Nv,MO,OZ]at J;rcases J with rfl |rfl |rfl |rfl |rfl |rfl |rfl |rfl
  .exact t0 _ _ e0
  .exact t1 _ _ e1
  .exact t2 _ _ e2
  .exact t3 _ _ e3
  .exact t4 _ _ e4
  .exact t5 _ _ e5
  .exact t6 _ _ e6
  .exact t7 _ _ e7
 let Y:HE I=δ (.lst (([(p,"name",B),(a,"count",t),(b,"long",u),(d,"deep",y),(g,"step",μ),(j,"row",μ),(l,"text",μ),(o,"twice",μ)]:List Pk).map λc=>vr c.1)):=Y;let eW:C9 ([(p,"name",B),(a,"count",t),(b,"long",u),(d,"deep",y),(g,"step",μ),(j,"row",μ),(l,"text",μ),(o,"twice",μ)]:List Pk)=(uf B t u y).map ti:=by cases B<;>cases t<;>cases u<;>cases y<;>rfl
 let l8:([(p,"name",B),(a,"count",t),(b,"long",u),(d,"deep",y),(g,"step",μ),(j,"row",μ),(l,"text",μ),(o,"twice",μ)]:List Pk).length=8:=rfl;show iw _ _ [↑xm,↑I] HE;erw[#[_,Z,I,Z,#[_,aF.of Y],?_]];generalize ([(p,"name",B),(a,"count",t),(b,"long",u),(d,"deep",y),(g,"step",μ),(j,"row",μ),(l,"text",μ),(o,"twice",μ)]:List Pk)=P8 at all Y eW l8;erw[Zd (K:=K) (xm:=xm) (xs:=P8.map λc=>vr c.1) (by rw[Mv,l8];decide) (λi ys H'=>ys=C9 (P8.take i)/\H'=HE) #[Z,Z] (λi ys H' h=>?_) (λi x ys H' hx h=>?_) (λys H' h=>?_)]
 .let⟨rfl,rfl⟩:=h;exact#[aF.of Y,yn,tM$ zC SE z]
 .let⟨rfl,rfl⟩:=h;rw[MK]at hx;cases J:P8[i]? with
  |none=>rw[J]at hx;cases hx
  |some c=>
   rw[J]at hx;cases hx;let hs:=ui J;erw[#[c.1,.str c.2.1,.bl c.2.2,Z,all c$ ML J,_,Z,_,Z,?_]];cases e:c.2.2
   .exact#[by rw[hs,e];simp,Z]
   .exact#[_,Z,by rw[hs,e];simp,Z]
 .let⟨rfl,rfl⟩:=h;rw[Mv,NC,eW];intro r nr;exact q r _ jc (SE.trans$ je nr)$ rn SE nr
def pf:ak ["_law_parts","_law_f","_law_args","_law_cells_here","_law_most","_law_caught","_law_e"] z39z (ae D4):=bQ
def yW{f:ε}{fd:Φ}{c:xt}{nA fR fK:ε}{f0 f3:Φ}(F:xa K "_law_word" D4 f fd)(GR:ai P w K mg base (eI P w) 45 fR f0 z32z (ms c.L c.D nA c.N c.C))(bR:au K f0 z32z [])(kR:fx K (.ref fR)=ν)(mR:mg "run"=↑fR)(GK:EJ P w K mg base 1 fK f3 ["_law_e"] (pk K c))(bK:au K f3 ["_law_e"] [])(kK:fx K (.ref fK)=ν)(mK:mg "_law_kinds"=↑fK)(gB:mg "BookError"=δ (.ref c.B))(hB:clsIn K c.B≠ζ)(tB:typeIn K (.ref c.B)=δ (.type "type"))(mB:mroIn K c.B (.type "BaseException")=δ ν)(kN:lK K c c.N ν μ μ μ)(kC:lK K c c.C μ ν μ μ)(kL:lK K c c.L μ μ ν μ)(kD:lK K c c.D μ μ μ ν)(nN:aW K c.N "name")(nC:aW K c.C "name"):⇑46 f fd z39z (nq nA):=by
 erw[F.ok pf λc0 A o1 s H vs Q E hr h=>?_]
 let⟨M,pA,ag,cA,f,Cs,ds,ns,xs,p0,is,o,rfl,hM,hP,ha,h0,h1,gC,hz,q1,q2⟩:=h;erw[#[_,(jd (jz 5 pf.nd$ @YE _ _ _)$ jd (@Ae _ _ _ _ _ _ _ _ _ _ _ (6) _ Z Z (@vk _ _ _ _ (@va _ _ _ _ _ _ _ _ _ _ _ _ _ _ GR hr.m Z mR kR bR .nil (ja (pv 0)$ ja (pv 1)$ ja (pv 2)$ ja (pv 3)$ ja (pv 4) jb) LO LK LK) LK) Z gB hB tB mB pf.nd Z Z (λx=>(jd (jz 5 pf.nd$ @uZ _ _ _ _ _ _ (x) _ _ _ _ _ _ _ _ GK (ba.mkM hr.m) Z Z mK kK bK .nil (ja (pv 6) jb) LO LK LK)$ jg$ jx (_L.PW.pt$ Zr (jB (uW$ Bv$ ba.mkM hr) (pv 5) (jD$ @ZD _ _ ["name"] LL)$ ax _)$ Xo$ jB (uW$ Bv$ ba.mkM hr) (pv 5) (jD$ @ZD _ _ ["count"] LL)$ ax _) (jg$ jT$ zh M4 M7 M6 jQ (pv 5)$ ja (u6 (K:=K) LK (pv 6) LK) jb) jo)) LO)$ jg$ jm$ pv 5),?_]];let b0:=aJ;erw[ah λF1 I=>I _ _ ?_];clear I;erw[ah λF1 I=>?_];show BZ _ _ _ _ _ _ [↑pA,δ$ .str f,↑ag,↑cA,δ$ .int (M:Int),δ .non,ζ] H;erw[#[_,Z,_,Z,_,Z,_,Z,_,Z,M,pA,ag,cA,f,Cs,ds,ns,xs,p0,is,Z,hM,hP,ha,h0,h1,gC,?_]];rcases hz with ⟨hn,q⟩ | ⟨i,d,n,hd,hn,rfl,oc,oe⟩
 .erw[.inl #[hn,?_]];intro J y O R x C T S z hT U;cases S;erw[#[kN.mb,λt p=>?_]];let G:Kp H (upd (upd y t$ fb t) x$ fc _ (δ J) t x):=λb o n e=>zA (H:=H) (O _ _ n e) n z p;let c4:iH (upd (upd y t$ fb t) x$ fc _ (δ J) t x) x _ [("name",.str f)]:=.inr #[J,t,jc,zA (H:=H) R uG z p];erw[ah λF2 r=>#[_,Z,_,_,ν,μ,μ,μ,Z,c4,kN,λl V k W X=>r _ _ ?_]];clear r;let k:V l=δ (.lst [.str "name"]):=k;erw[#[_,Z,fg,λY g=>#[l,Y,_,_,Z,Z,am k g,jc,_,Z,bJ LL ?_]]];let sz:=W.trans (je (o:=.lst [.str "name"]) g);let v:=am (o:=.lst [.str "name"]) k g;let c9:=zC sz c4;erw[#[_,Z,.inl #[Z,_,aF.of v],_,Z,x,_,_,.str f,Z,c9,kN.x,nN,Z,l,_,_,Z,Z,v,(by show 1 < τ;decide),I _ _ #[_,Z,q2 ["name",f] q l _ jc λb o n e=>?_]]];let e9:=(G.trans$ Kp.of_same sz) b o n e;by_cases hb:b=l
  .subst hb;rw[G b o n e]at X;cases X
  .rw[ji hb];exact e9
 .refine .inr #[i,d,n,hd,hn,Z,λhc=>?_,λhc=>#[λu sk a L' H2 er cv ok dp sz s2=>?_,λer=>?_,λer=>?_]]
  .let q:=oc hc;intro J y O R x C T S z hT U;cases S;erw[#[kC.mb,λt p=>?_]];let G:Kp H (upd (upd y t$ fb t) x$ fc _ (δ J) t x):=λb o n e=>zA (H:=H) (O _ _ n e) n z p;let c4:iH (upd (upd y t$ fb t) x$ fc _ (δ J) t x) x _ [("name",.str d.f)]:=.inr #[J,t,jc,zA (H:=H) R uG z p];erw[ah λF2 r=>#[_,Z,_,_,μ,ν,μ,μ,Z,c4,kC,λl V k W X=>r _ _ ?_]];clear r;let k:V l=δ (.lst [.str "count"]):=k;erw[#[_,Z,fg,λY g=>#[l,Y,_,_,Z,Z,am k g,jc,_,Z,aI LL #[_,Z,fg,λl3 j=>#[l,l3,_,_,Z,Z,am (am k g) j,jc,_,Z,bJ LL ?_]]]]];let sz:=W.trans ((je (o:=.lst [.str "name"]) g).trans$ je (o:=.lst [.str "count"]) j);let v:=am (o:=.lst [.str "count"]) (am (o:=.lst [.str "name"]) k g) j;let c9:=zC sz c4;erw[#[_,Z,.inl #[Z,_,aF.of v],_,Z,x,_,_,.str d.f,Z,c9,kC.x,nC,Z,l,_,_,Z,Z,v,(by show 1 < τ;decide),I _ _ #[_,Z,q2 ["count",d.f] q l _ jc λb o n e=>?_]]];let e9:=(G.trans$ Kp.of_same sz) b o n e;by_cases hb:b=l
   .subst hb;rw[G b o n e]at X;cases X
   .rw[ji hb];exact e9
  .let q:=oe hc;rw[er]at q;exact I _ _ #[_,Z,q1 q _$ Kp.of_same s2]
  .let q:=oe hc;rw[er]at q;intro _ y O x C T S z hT U;cases S;erw[#[kL.mb,λt p=>?_]];let G:Kp H (upd (upd y t$ fb t) x$ fc _ ζ t x):=λb o n e=>zA (H:=H) (O _ _ n e) n z p;erw[ah λF2 r=>#[_,Z,_,[],μ,μ,ν,μ,Z,.inl #[Z,t,jc],kL,λl V k W X=>r _ _ ?_]];clear r;let k:V l=δ (.lst [.str "long"]):=k;erw[#[_,Z,fg,λY g=>#[l,Y,_,_,Z,Z,am k g,jc,_,Z,aI LL #[_,Z,fg,λl3 j=>#[l,l3,_,_,Z,Z,am (am k g) j,jc,_,Z,aI LL$ I _ _ #[_,Z,q2 ["long"] q l _ (am (am k g) j) ?_]]]]]];exact G.trans$ Kp.of_same ((W.trans$ je g).trans$ je j)
  .let q:=oe hc;rw[er]at q;intro _ y O x C T S z hT U;cases S;erw[#[kD.mb,λt p=>?_]];let G:Kp H (upd (upd y t$ fb t) x$ fc _ ζ t x):=λb o n e=>zA (H:=H) (O _ _ n e) n z p;erw[ah λF2 r=>#[_,Z,_,[],μ,μ,μ,ν,Z,.inl #[Z,t,jc],kD,λl V k W X=>r _ _ ?_]];clear r;let k:V l=δ (.lst [.str "deep"]):=k;erw[#[_,Z,fg,λY g=>#[l,Y,_,_,Z,Z,am k g,jc,_,Z,aI LL #[_,Z,fg,λl3 j=>#[l,l3,_,_,Z,Z,am (am k g) j,jc,_,Z,aI LL$ I _ _ #[_,Z,q2 ["deep"] q l _ (am (am k g) j) ?_]]]]]];exact G.trans$ Kp.of_same ((W.trans$ je g).trans$ je j)
abbrev nX:da:=top 66
abbrev vJ:da:=top 77
abbrev DY:da:=top 78
def DM{H:Hp}{N:ε}{d:Df}{y:List π}{p:List π}{B:List V}(l:de H d.b B)(m:d.b.Ok y)(o:H d.pa=δ (.tup$ p.map ti)):Bg H N d y (De d.f p d.b):=by
 let⟨q,r⟩:=FQ l m;erw[#[Z,o,(Dg N d).symm,q.way,?_,λn c C e h=>?_]]
 .rw[uu];show(((mI d.b).2.map dA.cd).reverse).length=_;rw[Pf,Mv,Mv,Pf]
 rw[uu,MK]at e;let h:(((mI d.b).2.map dA.cd).reverse)[n]?=δ C:=h;rw[<- RW,MK]at h;cases i:(mI d.b).2.reverse[n]? with
 |none=>rw[i]at e;cases e
 |some x=>
  rw[i]at e h;cases e;cases h;let k:=r x (List.mem_reverse.mp$ ML i);erw[#[Z,Z,k.deed,k.cs,?_,λj w W g a=>?_]]
  .show x.ws.length=(x.ws.map$ WD.wy N).length;rw[Mv]
  .let g:(x.ws.map$ WD.wy N)[j]?=δ w:=g;let a:x.ws[j]?=δ W:=a;rw[MK,a]at g;cases g;exact#[Z,k.ways W$ ML a]
structure Pg(H:Hp)(pA:ε)(qs:List Qd)(ns:List Nat)(zs:List V):Prop where
 at':H pA=δ (.tup zs)
 dv:b6 H (qs.map dg) zs
 q:∀q∈qs,Bh H (Ee qs) q
 nd:(qs.map λq=>q.1.f).Nodup
 l8:qs.length<=8
 ok:lI (qs.map dg) ns
 pa:i8 H (qs.map dg) ns
def Ga{k:aE}:NX (.dK k):=λa z=>by cases z
def Do{x:List V}:NX (.tup x):=λa z=>by cases z
def Kp.tm{H h:Hp}(k:Kp H h):aj H h:=λb x e=>k _ _ Do e
def Pg.mono{H a:Hp}{p:ε}{Q:List Qd}{n:List Nat}{z:List V}(h:Pg H p Q n z)(k:aj H a):Pg a p Q n z:=#[k _ _ h.at',h.dv.mono k,λq b=>(h.q q b).mono k,h.nd,h.l8,h.ok,h.pa.mono k]
def Pg.pr{H:Hp}{pA:ε}{Q:List Qd}{n:List Nat}{a:List V}(h:Pg H pA Q n a):Bf H pA (Q.map Qd.pl):=#[#[a,h.at',BG (pA:=pA) (xs:=a) h.dv h.q],λd c=>by
 let⟨q,e,rfl⟩:=bS.mp c;let z:=h.q q e;obtain⟨⟨y,_,o⟩,_,s⟩:=z.ok;let t:=Jr q.1.b.er;rw[zB]at t;exact#[z.l1,MT t LN,KI o s]]
def Pg.fit{H:Hp}{p:ε}{Q:List Qd}{n:List Nat}{z:List V}(h:Pg H p Q n z):sL (Q.map Qd.pl):=#[by rw[Mv];let:=h.l8;omega,λd a=>by
 let⟨q,c,rfl⟩:=bS.mp a;let⟨_,D,_⟩:=(h.q q c).ok;show q.1.b.er.dep<=5;rw[Js];omega]
def Pg.ps{H:Hp}{f p n:ε}{Q:List Qd}{N:List Nat}{e x:List V}(h:Pg H f Q N e)(g:H p=δ (.tup x))(t:bh H (aU ((Q.map dg).map$ fX n)) .non x):Ps H n p (Q.map dg) N x (Q.map Qd.mk):=
 #[g,t,#[e,h.dv],h.ok,h.pa,by rw[Mv,Mv],λi d l b a=>by
  rw[MK]at b a;cases c:Q[i]? with
  |none=>rw[c]at b;cases b
  |some q=>
   rw[c]at b a;cases b;cases a;let z:=h.q q (ML c);obtain⟨⟨y,j,o⟩,_⟩:=z.ok;let⟨B,k⟩:=z.bd;exact#[y,#[o,j],DM k o z.pa]]
def DK{H:Hp}{D:List Df}{n:List Nat}(h:i8 H D n){i:Nat}{d:Df}{p:List π}(a:D[i]?=δ d)(c:H d.pa=δ (.tup$ p.map ti)):n[i]?=δ p.length:=by let f:i < D.length:=(χ.mp a).1;let b:n[i]?=δ (n[i]'(by rw[<- h.1];exact f)):=Mw _;let⟨g,e,l,_⟩:=h.2 i d _ a b;rw[c]at e;injection e with e;injection e with e;let:=NK List.length e;rw[Mv,Mv]at this;rw[b,<- l,this]
def BF{H:Hp}{r:ε}{D:List Df}{m:List V}{n:List Nat}{x y:V}(G:H r=δ (.tup m))(A:b6 H D m)(B:D.length<=8)(C:lI D n)(h:i8 H D n)(o:oE H D x y):∃(Q:List Qd) (q:Qd) (i:Nat) (t:ε) (I:List Int),D=Q.map dg/\Pg H r Q n m/\Q[i]?=δ q/\x= .str q.1.f/\y= .ref t/\H t=δ (.tup$ I.map tT)/\n[i]?=δ I.length/\I.length=q.2.length/\∀z∈I,dE z:=by
 let⟨d,J,t,I,L,rfl,c,rfl,p,g,s,u⟩:=o;let⟨Q,rfl,j,N⟩:=Gv A C h;let⟨q,F,rfl⟩:=bS.mp L;let⟨i,M,rfl⟩:=kv.mp F;let k:Q[i]?=δ Q[i]:=Mw M;let v:(Q.map dg)[i]?=δ Q[i].1:=by rw[MK,k];rfl
 let l:=DK h v c;let E:J=Q[i].2:=by let z:=c.symm.trans (j _ F).pa;injection z with z;injection z with z;exact(TX λa b e=>by injection e).mp z
 rw[<- g]at l;exact#[Q,Q[i],i,t,I,Z,#[G,A,j,N,by rw[Mv]at B;exact B,C,h],k,Z,Z,p,l,by rw[g,E],u]
inductive iG(b:List V)(H:Hp)(Q:VK)(a:XK):Prop
 |mk(p:ε)(_:b=[.ref p])(_:ar H p)(_:∀(l:ε) (C:aE) (H':Hp),H l=ζ->H' l=δ (.dK C)->GT C->C.length<=13->ar H' p->ay p H H'->Q (.ref l) H')
inductive CL(p l:ε)(H:Hp)(i:Nat)(k:_L.St)(a:Hp):Prop
 |mk(h j:Option V)(C:aE)(b:k=[↑p,↑l,h,j])(c:a l=δ (.dK C))(d:GT C)(e:C.length<=i)(f:ar a p)(g:ay p H a)
inductive mv(b:List V)(H:Hp)(Q:VK)(a:XK):Prop
 |mk(p:ε)(_:b=[.ref p])(_:ar H p)(_:∀(t r:ε) (v2 v3:V) (d:Df) (xs:List V) (H':Hp),H' t=δ (.tup [.ref r,v2,v3])->H' r=δ (.tup xs)->b6 H' [d] xs->lI [d] [1]->i8 H' [d] [1]->oE H' [d] v2 v3->ay p H H'->Q (.ref t) H')
inductive mX(j:List V)(H:Hp)(Q:VK)(b:XK):Prop
 |mk(C:aE)(P:List df)(h c e:ε)(f:π)(d:df)(g:List Int)(k:Nat)(m:Int)(o:iJ)(_:j=[.ref h,.str f,.ref c,.ref e,.int m])(_:Bf H h P)(_:sL P)(_:be P f=δ d)(_:H c=δ (.tup (g.map tT)))(_:∀i∈g,dE i)(_:d.ps.length=g.length)(_:H e=δ (.dK C))(_:_K.GT C)(_:C.length<=20)(_:0<=m)(_:m<=300)(_:Ex P C m 15 k d.body (bV d.ps g) [] 0 o)(_:k<=130000)(_:∀a L' t' H',o= .done a L' t'->af H H'->Q .non H')(_:∀(w:π) (l:ε) (H':Hp),(o= .long/\w="long"∨o= .deep/\w="deep")->H' l=δ (.lst [.str w])->af H H'->Q (.ref l) H')
section
variable {Cf:gi}{ys:List π}{H0 Hb H:Hp}{p wl:ε}{σ:_L.St}
def Em{p q t:ε}{x f:π}{k:Nat}(h:H p=δ (.tup [.str "call",.str x,.str f,.ref q]))(d:x∈ys)(a:(f,1)∈Cf)(e:H q=δ (.tup [.ref t]))(g:gF H ys k t)(i:k < 6):cQ Cf H ys 0 (.ref p):=by
 let⟨T,j,m⟩:=g.ok i;erw[QR (l:=.cl x f q [(t,T)]) h #[Z,e,λc b=>?_] #[d,(by show 1<=6;decide),λc b=>?_] a]
 .rw[ρ.mp b];exact j
 .rw[ρ.mp b];exact m
def Fq{d g T:TE}{j:Nat}(i:Ev H0 p wl ys Hb σ d (PN ys)){f:π}(l:Ev H0 p wl ys Hb σ g (sG f))(b:(f,1)∈Cf)(n:Ev H0 p wl ys Hb σ T (PT ys j))(o:j < 6):Ev H0 p wl ys Hb σ (bq$ al (tC$ .str "call")$ al d$ al g$ al (bq$ al T aK) aK) (λH v=>cQ Cf H ys 0 v):=by
 let' R:Hp->V->Prop:=λH v=>∃q a,v= .ref q/\H q=δ (.tup [.ref a])/\gF H ys j a
 let M:nM R:=λ_ _ _ m #[q,a,e,c,s]=>#[q,a,e,m _ _ c,s.mono m];let A:Ev H0 p wl ys Hb σ (bq$ al T aK) R:=λH Q m W q=>
  n H _ m W λU Y #[a,E,X] C D=>#[fg,λr N=>km (P:=R) C (λF G x I k=>q F G x I (D.trans k)) N λt z=>#[r,a,Z,by rw[z,E],X.mono t]]
 exact CH yt (B:=sG f) (λ_ _ _ _ h=>h) M i l A λH r u v x z #[y,J,c] (E:v= .str f) #[q,a,L,O,S]=>Em (f:=f) (by rw[z,J,E,L]) c b O S o
def Fs{E F:TE}{f1:π}{n:Int}(e:σ[0]?=δ (↑p))(o:1<=n)(s:n<=1000)(U:Ev H0 p wl ys Hb σ E (PD [(f1,1)] 1 f1))(Y:Ev H0 p wl ys Hb σ F (sG f1)):Ev H0 p wl ys Hb σ (bq$ al (bq$ al E aK)$ al F$ al (bq$ al (wO n) aK) aK) (λH v=>∃t r c G d I,v= .ref t/\H t=δ (.tup [.ref r,c,G])/\H r=δ (.tup I)/\b6 H [d] I/\((i' d/\d.b.Cs [(f1,1)])/\d.f=f1)/\i8 H [d] [1]/\oE H [d] c G):=λH Q m W q=>
 U H _ m W λc h x2 W2 u=>#[fg,λr N=>by
  let J:af h (upd h r$ .tup [c]):=je N;let W4:=W2.same J;let y:Fw p h (upd h r$ .tup [c]):=.new N;let e4:upd h r (.tup [c]) r=δ (.tup [c]):=jc;erw[Y _ _ ((m.trans u).trans y) W4 λk H5 X W5 l=>zi e o s _ _ (((m.trans u).trans y).trans l) W5 λv6 g x6 W6 A=>#[fg,λa L=>?_]];let⟨i,rfl,i0,i1⟩:=x6;let B:af g (upd g a$ .tup [.int i]):=je L;let e5:upd g a (.tup [.int i]) a=δ (.tup ([i].map tT)):=jc;erw[#[eJ,λt M=>?_]];let T:af (upd g a$ .tup [.int i]) (upd (upd g a$ .tup [.int i]) t$ .tup [.ref r,k,.ref a]):=je M;let mm:aj h (upd (upd g a$ .tup [.int i]) t$ .tup [.ref r,k,.ref a]):=(((af.tm J).trans l.t).trans A.t).trans (af.tm$ B.trans T);let⟨b1,g1,d,d1,d2,ps,O,R,S⟩:=lu _ _ _ mm x2;let X:k= .str f1:=X;erw[q _ _ #[t,r,k,.ref a,d,[.ref b1],Z,jc,?_,#[_,_,Z,d1,Z],#[d2,S],#[Z,λj x n C D=>?_],d,ps,a,[i],ρ.mpr Z,by rw[X,S],O,Z,T _ _ e5,by rw[R];rfl,by show 1<=100;decide,λz hz=>by rw[ρ.mp hz];exact#[i0,LN]] ((W6.same B).same T) (((((u.trans y).trans l).trans A).trans$ .new L).trans$ .new M)]
  .rw[<- g1];exact T _ _$ B _ _$ A.t _ _$ l.t _ _ e4
  .match j,C,D with
   |0,C,D=>cases C;cases D;exact#[_,O,R,LO]]
end
def gM:ak ["_law_box_here","_law_cells_here","_law_k","_law_cell"] z2z (ae nX):=bQ
def uH{f:ε}{M:Φ}{fT fU:ε}{fdT x:Φ}(F:xa K "_law_cells" nX f M)(r:‹1› fT fdT z0z aY "_law_take")(cU:‹2› fU x z2z iY "_law_number")(mr:mg "range"=ζ):⇑3 f M z2z iG:=by
 erw[F.ok gM λc0 A O s H vs Q E g h=>?_]
 let⟨p,rfl,B,q⟩:=h;erw[#[_,(jd (jz 1 gM.nd K9)$ jd (kP Ni Z (zr Z mr$ ja (r.e g.m$ ja (pv 0)$ ja jf jb) jb) (ju (i:=2) gM.nd Z$ Δ Z)$ jd (jz 3 gM.nd$ r.e g.m$ ja (pv 0)$ ja jf jb)$ jd (jx (zo$ r.e g.m$ ja (pv 0)$ ja jf jb) (jg$ jz 3 gM.nd$ jw kQ (jw kQ (jw JU jf jf) jf)$ r.e g.m$ ja (pv 0)$ ja jf jb) jo)$ jg$ za (jR g) (pv 1) (pv 3) (cU.e g.m$ ja (pv 0) jb) Z)$ jg$ jm$ pv 1),?_]];let b0:=aJ;let t0:=lH;erw[ah λt a=>λl N=>a _ _ ?_];clear a;let S:af H (upd H l$ .dK []):=je N;let R:upd H l (.dK []) l=δ (.dK []):=jc;generalize upd H l (.dK [])=H1 at S R;let L:l≠p:=B.ne N;let B1:=B.same S;erw[ah λt a=>gn λJ j=>#[_,Z,p,14,Z,B1,LO,LO,λd H2 d0 d1 B2 T=>#[_,Z,LN,LN,j _ _ ?_]]];clear j;erw[qA (lo:=0) (CL p l H) #[ζ,ζ,[],Z,by rw[T l L];exact R,_K.GT.nil,Mx _,B2,(ay.of_same S).trans$ ay.of_eq T] ?_ (λσ H' h=>a _ _ ?_)]
 .clear a;intro E0 _ i σ H3 hi fE Gq o h;let⟨o2,o3,C,rfl,y,G,lC,D,I⟩:=h;erw[o ?_];clear o;show cy (dy _ _) _ E0 _ _;erw[ah λt a=>#[_,Z,p,14,Z,D,LO,LO,λc4 H4 d2 d3 B4 U=>a _ _ ?_]];clear a;erw[ah λt a=>?_];let c:∀(u:Int) (v:Hp),ar v p->(∀b,b≠p->v b=H3 b)->t [↑p,↑l,δ$ .int (0+(i:Int)),δ$ .int u] v:=λu v BH W=>a _ _ (by
   erw[#[_,Z,p,Z,BH,λm H7 m0 m1 B7 X=>?_]];let h7:H7 l=δ (.dK C):=by rw[X l L,W l L];exact y
   let pl:=Jb C (.inl u) (.int m);exact#[_,Z,_,Z,l,_,Z,gc.k (k:=.inl u) h7 LN,fE _ _ #[_,_,_,Z,jc,G.put _ #[m0,m1],LN,B7.eq$ ji$ MU L,(I.trans ((ay.of_eq W).trans$ ay.of_eq X)).upd_own N]])
  erw[oJ λG1 yT yF=>#[_,Z,p,8,Z,B4,LO,LO,λd5 H5 d4 d7 Y e5=>#[Z,_,Z,?_]]];by_cases h3:d5=0
  .rw[h3,Ng (Z:tT 0=tT 0)];erw[yT _ #[_,_,Z,Z,#[LO,LO,LO],_,_,Z,Z,_,Z,p,4,Z,Y,LO,LO,λd6 H6 d8 d' B6 e6=>#[_,_,Z,Z,c _ H6 B6 λb n=>(e6 b n).trans ((e5 b n).trans$ U b n)]]]
  .rw[MY (λz=>h3 (by injection z))];exact yF _$ c _ H5 Y λb n=>(e5 b n).trans (U b n)
 .let⟨o2,o3,C,rfl,y,G,lC,D,I⟩:=h;exact#[_,Z,q l C H' N y G LN D I]
def iR:ak ["_law_box_here","_law_w","_law_n","_law_deeper","_law_body_here"] z2z (ae vJ):=bQ
def yP{f:ε}{z:Φ}{L fT:ε}{c fdT:Φ}(F:xa K "_law_itself" vJ f z)(M:‹2› L c z25z ff "_law_names")(N:‹1› fT fdT z0z aY "_law_take"):⇑3 f z z2z mv:=by
 erw[F.ok iR λO A o s H vs Q E C h=>?_]
 let⟨p,rfl,B,q⟩:=h;erw[#[_,(jd (jz 1 iR.nd$ M.e C.m$ ja (pv 0)$ ja jf jb)$ jd (jz 2 iR.nd$ jh$ ja jj$ ja (jr jp (pv 1) jf (λ_ _=>Z)) jb)$ jd (jz 3 iR.nd$ jh$ ja jj$ ja (jr jp (pv 1) jf (λ_ _=>Z))$ ja (jr jp (pv 1) jf (λ_ _=>Z))$ ja (jh$ ja (jh$ ja jj$ ja jj$ ja (pv 2)$ ja (jh$ ja jj$ ja jf jb) jb) jb) jb)$ jd (jz 4 iR.nd$ jh$ ja (jh$ ja jj$ ja (pv 2)$ ja (jh$ ja (pv 3)$ ja (jh$ ja jj$ ja (jr jp (pv 1) jf (λ_ _=>Z))$ ja (jh$ ja jj$ ja (jr jp (pv 1) jf (λ_ _=>Z)) jb) jb) jb)$ ja (jh jb) jb)$ ja (jh$ ja jj$ ja (jh$ ja jj$ ja jj$ ja (pv 2)$ ja (jh$ ja jj$ ja (jr jp (pv 1) jf (λ_ _=>Z)) jb) jb) jb) jb)$ jg$ jm$ jh$ ja (jh$ ja (jh$ ja (jr jp (pv 1) jf (λ_ _=>Z))$ ja (jh$ ja (jr jp (pv 1) jf (λ_ _=>Z)) jb)$ ja (pv 4) jb) jb)$ ja (jr jp (pv 1) jf (λ_ _=>Z))$ ja (jh$ ja (N.e C.m$ ja (pv 0)$ ja jf jb) jb) jb),?_]];let R:=aJ;erw[ah λFa G=>#[_,Z,p,14,Z,B,LO,LO,λW g I S i T j U ka=>G _ _ ?_]];clear G;obtain⟨Y,a⟩:∃y,g[0]?=δ y:=#[_,Mw (by omega:0 < g.length)];let W0:Wd H I p W g:=#[U,ka,i];show cy _ _ _ [↑p,↑W,ζ,ζ,ζ] I;erw[ah λF1 f1=>jO W0 (Jg$ ke Z LO LN) λl H1 X W1 k1=>f1 _ _ ?_];show cy _ _ _ [↑p,↑W,δ l,ζ,ζ] H1;erw[ah λF2 f2=>jO W1 (Fq (Cf:=[(Y,1)]) (ke Z LO LN) (qH (k:=0) Z Z a) LM (zZ (n:=1) (ql Qa) (jH Z aq$ X) (kO (Qz LO (by decide:(1:Int) < 9)) LO) LO LO) LO) λV H2 x2 W2 J=>f2 _ _ ?_];show cy _ _ _ [↑p,↑W,δ l,δ V,ζ] H2;erw[ah λF3 f3=>jO W2 (QT (Cf:=[(Y,1)]) (tJ (Cf:=[(Y,1)]) (jH Z aq$ aq _ _ _ J.t X) (QT (jH Z dX x2)$ Ka (ke Z LO LN) (Jg$ ke Z LO LN) LO) tG LO LO)$ Ev.up (QS (Cf:=[(Y,1)]) (zZ (n:=1) (ql zw) (jH Z aq$ aq _ _ _ J.t X) (Jg$ ke Z LO LN) LO LO) LO) λ_ _=>cQ.lift) λu H3 x3 W3 k3=>f3 _ _ ?_];show iw _ _ [↑p,↑W,δ l,δ V,δ u] H3;erw[KW W3 (Fs (f1:=Y) Z LO LO (X2 (qH (k:=0) Z Z a) (tK$ ke Z LO LN) (jH Z dO x3) LO LN)$ qH (k:=0) Z Z a) λv H' x W'=>?_];let⟨t,r,V,u,d,xs,rfl,g0,g1,g2,g3,g4,g5⟩:=x;erw[q t r V u d xs H' g0 g1 g2 #[?_,?_] g4 g5 W'.K]
 .show ∀x∈[d],i' x/\x.b.Cs [(d.f,1)];intro x hx;rw[ρ.mp hx,g3.2];exact g3.1
 .show [d.f].Nodup/\∀y∈[d.f],y.length<=20;erw[#[LM,λy hy=>?_]];rw[ρ.mp hy,g3.2];exact j.1 Y$ ML a
def BP:ak ["_law_program","_law_f","_law_args","_law_cells_here","_law_most","_law_word_here"] z20z (ae DY):=bQ
def Du{f:ε}{y:Φ}{T:ε}{g:Φ}(F:xa K "_law_due" DY f y)(U:‹218› T g z20z wt "_law_plain")(W:mg "int"=ζ):⇑219 f y z20z mX:=by
 erw[F.ok BP λX A O s H vs Q E Y h=>?_]
 let⟨C,z,B,D,G,f,d,I,k,m,o,rfl,i,j,hf,p,q,hl,r,t,u,v,hm,hx,x,q1,q2⟩:=h;erw[#[_,(jd (jz 5 BP.nd$ jr j6 (U.e Y.m$ ja (pv 0)$ ja (pv 1)$ ja (pv 2)$ ja (pv 3)$ ja (pv 4) jb) jf (λ_ _=>Z))$ jg$ jm$ jr jp (jD$ ja (@YE _ _ _)$ ja (jD$ ja (pv 5) jb) jb) (jC j8 Z W Pl$ ja (kU Jx (pv 5) jj$ ax _) jb) (λ_ _=>Z)),?_]];let b0:=aJ;erw[ah λF1 M=>#[_,Z,_,Z,_,Z,_,Z,_,Z,C,z,B,D,G,f,d,I,k,m,o,Z,i,j,hf,p,q,hl,r,t,u,v,hm,hx,x,λb L' t' H3 R wA gA c a h0 gL lL tm S=>#[R,_,_,_,Z,Z,aB.of a,io,M _ _ ?_],λw H3 R v2 v3 t' v5 c a tm S=>#[R,_,_,_,Z,Z,aB.of a,io,M _ _ ?_]]]
 .erw[#[_,Z,fg,λl N=>#[bg,λL n=>#[_,Z,Z,.inr #[_,Z,L,_,_,_,Z,Z,aF.of jc,Z,q1 _ _ _ _ c ((S.trans$ je N).trans$ je n)]]]]]
 .let ne:decide (ti w=ti "told")=μ:=by rcases c with ⟨_,rfl⟩ | ⟨_,rfl⟩<;>decide+kernel
  erw[#[_,Z,fg,λl N=>#[bg,λL n=>#[_,Z,Z,.inr #[_,Z,L,_,_,_,Z,Z,aF.of jc,(by rw[ne];rfl),q2 w l _ c (am jc n) ((S.trans$ je N).trans$ je n)]]]]]
def YL{X:Cx}(d:X.A.units < cLine):gg X (compareOp .NotEq) (λx y H Q=>(x= .non/\y= .non/\Q (.bl μ) H)∨∃(a b:ε) (W:List π),x= .ref a/\y= .ref b/\H a=δ (.lst$ W.map ti)/\H b=δ (.lst$ W.map ti)/\Q (.bl μ) H):=by
 intro p s c H x y v u Q I r R h;rcases h with ⟨e,E,q⟩ | ⟨a,b,W,e,E,f,g,q⟩
 .subst e;subst E;exact Jx p s c H _ _ v u Q I r R #[Z,q]
 .subst e;subst E;exact DH d p s c H _ _ v u Q I r R #[a,b,_,Z,Z,aF.of f,aF.of g,qt W,q]
def YG{X:Cx}(d:X.A.units < cLine):gg X (compareOp .Eq) (λx y H Q=>(x= .non/\y= .non/\Q (.bl ν) H)∨∃(a b:ε) (W:List π),x= .ref a/\y= .ref b/\H a=δ (.lst$ W.map ti)/\H b=δ (.lst$ W.map ti)/\Q (.bl ν) H):=by
 intro p s c H x y v u Q I r R h;rcases h with ⟨e,E,q⟩ | ⟨a,b,W,e,E,f,g,q⟩
 .subst e;subst E;exact zJ p s c H _ _ v u Q I r R #[Z,q]
 .subst e;subst E;exact DF d p s c H _ _ v u Q I r R #[a,b,_,Z,Z,aF.of f,aF.of g,qt W,q]
abbrev lV:da:=top 79
def Iv:iJ->Option (List π)
 | .done _ _ _=>ζ
 | .long=>δ (["long"]:List π)
 | .deep=>δ (["deep"]:List π)
def xg:∀{x:OC} {o:iJ},dZ x o->xf x=Iv o
 | .ok _ _ _ _,.done _ _ _,_ | .long,.long,_ | .deep,.deep,_=>rfl
def Cj(H:Hp)(v:V):Option (List π)->Prop
 |none=>v= .non
 |some W=>∃l,v= .ref l/\H l=δ (.lst (W.map ti))
def K6{x:List V}:NX (.lst x):=λa z=>by cases z
def Cj.kp{H a:Hp}{v:V}{o:Option (List π)}(h:Cj H v o)(k:Kp H a):Cj a v o:=by
 cases o with
 |none=>exact h
 |some W=>let⟨l,e,h⟩:=h;exact#[l,e,k _ _ K6 h]
def Xx{H:Hp}{v u:V}{o:Option (List π)}(h:Cj H v o)(d:Cj H u o){b:Bool}{Q:VK}(q:Q (.bl b) H):(v= .non/\u= .non/\Q (.bl b) H)∨∃(a c:ε) (W:List π),v= .ref a/\u= .ref c/\H a=δ (.lst$ W.map ti)/\H c=δ (.lst$ W.map ti)/\Q (.bl b) H:=by
 cases o with
 |none=>exact .inl #[h,d,q]
 |some W=>let⟨l,e,h⟩:=h;let⟨L,E,d⟩:=d;exact .inr #[l,L,W,e,E,h,d,q]
structure LS(p r p2 ta cA nA:ε)(qs:List Qd)(nl:List Nat)(zs xs:List V)(is:List Int)(C:aE)(H:Hp):Prop where
 pg:Pg H r qs nl zs
 ps:Ps H nA p2 (qs.map dg) nl xs (qs.map Qd.mk)
 ta:H ta=δ (.tup$ is.map tT)
 ca:H cA=δ (.dK C)
 bx:ar H p
section
variable {p r p2 ta cA nA:ε}{qs:List Qd}{nl:List Nat}{zs xs:List V}{is:List Int}{C:aE}{H H':Hp}
def LS.kp(S:LS p r p2 ta cA nA qs nl zs xs is C H)(k:Kp H H'):LS p r p2 ta cA nA qs nl zs xs is C H':=by let⟨x,y,h,a,b,e⟩:=S.bx.ob;exact#[S.pg.mono k.tm,S.ps.mono k.tm,k.tm _ _ S.ta,k _ _ Ga S.ca,S.bx.eq (by rw[e];exact k _ _ K6 e)]
def LS.bt(S:LS p r p2 ta cA nA qs nl zs xs is C H)(B:ar H' p)(k:ay p H H'):LS p r p2 ta cA nA qs nl zs xs is C H':=by let⟨x,y,h,a,b,e⟩:=S.bx.ob;let t:=k.tm S.bx;exact#[S.pg.mono t,S.ps.mono t,t _ _ S.ta,k _ _ (jE S.ca e (by intro z;cases z)) S.ca,B]
def tq(S:LS p r p2 ta cA nA qs nl zs xs is C H){q:Qd}(j:q∈qs)(c:is.length=q.2.length)(d:∀z∈is,dE z)(G:GT C)(L:C.length<=20){M:Nat}(x:M<=300){m:Int}(t:m=(M:Int)){Q:VK}{E:XK}(h:∀v H',Cj H' v (xf$ bY M (qs.map Qd.mk) C 16 q.1.f is [] 0)->Kp H H'->Q v H'):mX [.ref r,.str q.1.f,.ref ta,.ref cA,.int m] H Q E:=by
 subst t;let⟨u,o,g,k⟩:=tL (BU S.pg.q S.pg.nd) C (m:=(M:Int)) LN 15 q.pl is [] 0 M (bS.mpr #[q,j,Z]) LN;let⟨b,_⟩:=Zu j S.pg.nd;let e:=xg (AM (yq S.pg.q) b k$ MH _);rw[e]at h;erw[#[C,qs.map Qd.pl,r,ta,cA,q.1.f,q.pl,is,u,(M:Int),o,Z,S.pg.pr,S.pg.fit,b,S.ta,d,c.symm,S.ca,G,L,LN,LN,k,g,λa y T H' i s=>h _ _ ?_ (Kp.of_same s),λw l H' i n s=>h _ _ ?_ (Kp.of_same s)]]
 .rw[i];rfl
 .rcases i with ⟨rfl,rfl⟩ | ⟨rfl,rfl⟩
  .exact#[l,Z,n]
  .exact#[l,Z,n]
def JH(S:LS p r p2 ta cA nA qs nl zs xs is C H)(g:GT C){M:Nat}(d:M<=1000){m:Int}(i:m=(M:Int)){f:π}{a:ε}{j:List Int}(b:H a=δ (.tup$ j.map tT))(c:∀z∈j,dE z){o:Option (List π)}(n:Bi (qs.map dg) nl (qs.map Qd.mk) C M f j o){Q:VK}{E:XK}(h:∀v H',Cj H' v o->Kp H H'->Q v H'):nq nA [.ref p2,.str f,.ref a,.ref cA,.int m] H Q E:=by subst i;exact#[M,p2,a,cA,f,C,qs.map dg,nl,xs,qs.map Qd.mk,j,o,Z,d,S.ps,b,c,S.ca,g,n,λe H' k=>h _ _ (by rw[e];rfl) k,λW e l H' q k=>h _ _ (by rw[e];exact#[l,Z,q]) k]
end
inductive LV(e:_L.St)(i j:Nat)(G:Hp->Prop)(f:_L.St)(H:Hp):Prop
 |mk(c d:Option V)(a:f=(e.set i c).set j d)(b:G H)
def yo{Y:List π}(h:Y≠[]):∃y∈Y,dM (Y.map ti) (-1)=δ (.str y):=by let l:=List.length_pos_iff.mpr h;erw[#[Y[Y.length - 1],N4 _,?_]];unfold dM nK;rw[MS LO,Mv,MQ LN];show(Y.map ti)[_]?=_;rw[MK,show(-1+(Y.length:Int)).toNat=Y.length - 1 by omega,Mw LN];rfl
def yu(z:Int)(h:z<=300):∃M:Nat,(if z > 0 then z else 0)=(M:Int)/\M<=300:=by
 by_cases c:z > 0
 .rw[MQ c];exact#[z.toNat,LN,LN]
 .rw[MS c];exact#[0,Z,LN]
def Z5{x:π}{Y:List π}:iK (.str x) (Y.map ti)=ν↔x∈Y:=by
 constructor
 .intro h;erw[Ph λn=>?_];unfold iK at h;let⟨v,H,e⟩:=List.any_eq_true.mp h;let⟨y,a,rfl⟩:=bS.mp H;let e:y=x:=by simpa [lr] using e
  exact n$ e▸a
 .intro h;cases c:iK (.str x) (Y.map ti) with
  |true=>rfl
  |false=>exact absurd h (ZJ c)
def yl{X:Cx}{K:Ω}(h:X.K=K):EU X (fj K):=by subst h;exact j6
def QP{X:Cx}{K:Ω}(h:X.K=K):gg X (compareOp .NotIn) (EN K ν):=by subst h;exact qC
def sY(i:List Int)(lo h:Option Int):∃j:List Int,aX (i.map tT) lo h=j.map tT/\∀z∈j,z∈i:=by unfold aX;rw[<- SX,<- O9];exact#[_,Z,λz H=>Rs (Nh H)]
def cX(H:Hp)(v:List V):Prop:=∀x∈v,∃(a:ε) (j:List Int),x= .ref a/\H a=δ (.tup$ j.map tT)/\∀z∈j,dE z
def cX.tm{H a:Hp}{v:List V}(h:cX H v)(k:aj H a):cX a v:=λx b=>let #[A,j,e,c,d]:=h x b;#[A,j,e,k _ _ c,d]
def pW{A:cJ}{k:Nat}(h:ba k A):A.units < cLine:=by let:=h.un;omega
inductive mZ(K:Ω)(d:List V)(H:Hp)(Q:VK)(b:XK):Prop
 |mk(a:ε)(c:List Int)(_:d=[.ref a])(_:aF K H a (c.map tT))(_:c.length<=63)(_:∀H',Q (.bl ν) H')
def bE:ak z40z ["_law_script"] (ae lV):=bQ
def Zp:hJ:=#[.function,[(".0",.local),("_law_one",.local)],μ,μ,[]]
def yw:(["_law_one"]:List π).Nodup:=by decide+kernel
def xQ:aV z40z (ae lV) Zp ["_law_one"] 1 []:=nS
def Zq:hJ:=#[.function,[(".0",.local),("_law_name",.local),("_law_heads",.free)],μ,μ,[]]
def yx:(["_law_name","_law_heads"]:List π).Nodup:=by decide+kernel
def xU:aV z40z (ae lV) Zq ["_law_name","_law_heads"] 1 [16]:=nS
def Dw{f:ε}{fd:Φ}{nA fB fT fK fC fS fM fP fD fW:ε}{fdB fdT g7 g8 g' i0 i1 fdD fdW:Φ}(F:xa K "law" lV f fd)(cB:‹1› fB fdB ["_law_script","_law_k"] (pi K) "_law_box")(cT:‹1› fT fdT z0z aY "_law_take")(cK:‹23› fK g7 z2z mf "_law_case")(cC:‹3› fC g8 z2z iG "_law_cells")(cS:‹3› fS g' z2z mv "_law_itself")(cM:‹65› fM i0 ["program"] (mh K nA) "made")(cP:‹218› fP i1 z20z wt "_law_plain")(cD:‹219› fD fdD z20z mX "_law_due")(cW:‹46› fW fdW z39z (nq nA) "_law_word")(ml:mg "len"=ζ)(m0:mg "max"=ζ):⇑220 f fd ["_law_script"] (mZ K):=by
 erw[F.ok bE λm4 A o4 s H vs Q E hr h=>?_]
 symm;let⟨a,ns,rfl,hS,hn,qq⟩:=h;erw[#[_,(jd (jz 1 bE.nd$ cB.e hr.m$ ja (pv 0)$ ja jf jb)$ jd (zd (cK.e hr.m$ ja (pv 1) jb)$ qg (n:=3) Z$ jA (ju (i:=2) bE.nd Z$ Δ Z)$ jA (ju (i:=3) bE.nd Z$ Δ Z)$ jA (ju (i:=4) bE.nd Z$ Δ Z) kH)$ jd (jx (zo$ cT.e hr.m$ ja (pv 1)$ ja jf jb) (jg$ zd (cS.e hr.m$ ja (cB.e hr.m$ ja (pv 0)$ ja jf jb) jb)$ qg (n:=3) Z$ jA (ju (i:=2) bE.nd Z$ Δ Z)$ jA (ju (i:=3) bE.nd Z$ Δ Z)$ jA (ju (i:=4) bE.nd Z$ Δ Z) kH) jo)$ jd (jz 5 bE.nd$ cC.e hr.m$ ja (cB.e hr.m$ ja (pv 0)$ ja jf jb) jb)$ jd (jz 6 bE.nd$ cM.e hr.m$ ja (pv 2) jb)$ jd (zd (cP.e hr.m$ ja (pv 2)$ ja (pv 3)$ ja (pv 4)$ ja (pv 5)$ ja jf jb)$ qg (n:=5) Z$ jA (ju (i:=7) bE.nd Z$ Δ Z)$ jA (ju (i:=8) bE.nd Z$ Δ Z)$ jA (ju (i:=9) bE.nd Z$ Δ Z)$ jA (ju (i:=10) bE.nd Z$ Δ Z)$ jA (ju (i:=11) bE.nd Z$ Δ Z) kH)$ jd (kP Ni Z (qd$ jD$ ja (pv 10)$ ja (jw kQ (pv 10) jf)$ ja (jw jS (pv 10) jf)$ ja jf$ ja (cT.e hr.m$ ja (pv 1)$ ja jf jb) jb) (ju (i:=12) bE.nd Z$ Δ Z)$ jd (jz 13 bE.nd$ cD.e hr.m$ ja (pv 2)$ ja (pv 3)$ ja (pv 4)$ ja (pv 5)$ ja (jF (J3 Z) Z m0 VF$ ja jf$ ja (pv 12) jb) jb)$ jg$ jx (jB (YL$ pW hr) (cW.e hr.m$ ja (pv 6)$ ja (pv 3)$ ja (pv 4)$ ja (pv 5)$ ja (jF (J3 Z) Z m0 VF$ ja jf$ ja (pv 12) jb) jb) (pv 13)$ ax _) (jg$ jm$ @Jf _ _ _ _) jo)$ jd (kP Ni Z (qd$ jD$ ja (jw zb (pv 4)$ jh$ ja jf jb)$ ja (jK qx (pv 4) (jI jf) ki)$ ja (jh jb) jb) (ju (i:=14) bE.nd Z$ Δ Z)$ jd (jz 15 bE.nd$ cW.e hr.m$ ja (pv 6)$ ja (pv 3)$ ja (pv 14)$ ja (pv 5)$ ja (cT.e hr.m$ ja (pv 1)$ ja jf jb) jb)$ jg$ jx (_L.PW.pt$ KK (jB Jx (jF jL Z ml NQ$ ja (pv 14) jb) (jF jL Z ml NQ$ ja (pv 4) jb)$ ax _)$ Jz$ jB (YL$ pW hr) (pv 15) (jD$ ja jj$ ja (pv 3) jb)$ ax _) (jg$ jm$ @Jf _ _ _ _) jo)$ jd (ze (i:=16) bE.nd Z (hL Z)$ @kY _ _ _ _ _ _ _ (["_law_one"]) (1) ([]) _ _ _ _ Z (zp$ pv 2) xQ (λ_ _ _ _ _=>(ju (i:=0) yw Z$ Δ Z)) (λ_ _ _ _ _=>(@zR _)) (λ_ _ _ _ _=>(jr (yl (K:=K) Z) (pv 0) jf (λ_ _=>Z))) (by intro _;rfl))$ jd (jz 15 bE.nd$ jD$ ja jj$ ja jj$ ja jj$ ja jj$ ja (jw zg (jK wo (pv 3) ki$ jI$ X0 KM jf) jj)$ ja (jw zg (jK wo (pv 3) ki$ jI$ X0 KM jf) jj) jb)$ jd (jz 17 bE.nd$ jr jp (@kY _ _ _ _ _ _ _ (["_law_name","_law_heads"]) (1) ([16]) _ _ _ _ Z (qd$ pv 15) xU (λ_ _ _ _ _=>(ju (i:=0) yx Z$ Δ Z)) (λ_ _ _ _ _=>(@Xr _ _ _$ jB (QP (K:=K) Z) (pv 0) (pv 1) Z)) (λ_ _ _ _ _=>(pv 0)) (by intro _;rfl)) (X0 KM jf) (λ_ _=>Z))$ jd (kP Ni Z (qd$ jD$ ja (pv 4)$ ja (jh jb) jb) (ju (i:=18) bE.nd Z$ Δ Z)$ jg$ jx (jB (YL$ pW hr) (cW.e hr.m$ ja (pv 6)$ ja (pv 17)$ ja (pv 18)$ ja (pv 5)$ ja (cT.e hr.m$ ja (pv 1)$ ja jf jb) jb) (jD$ ja jj$ ja (pv 17) jb)$ ax _) (jg$ jm$ @Jf _ _ _ _) jo)$ jd (jz 13 bE.nd$ cD.e hr.m$ ja (pv 2)$ ja (pv 3)$ ja (pv 4)$ ja (pv 5)$ ja jf jb)$ jg$ jm$ kU (YG$ pW hr) (cW.e hr.m$ ja (pv 6)$ ja (pv 3)$ ja (pv 4)$ ja (pv 5)$ ja jf jb) (pv 13)$ ax _),?_]];let m5:=aJ;erw[ah λF1 g=>#[_,Z,a,ns,1,Z,hS,LO,LO,λp H1 np B1 e1=>g _ _ ?_]];clear g;left;let s1:af H H1:=λb o e=>by rw[e1 b$ jk e np];exact e
 erw[ah λF1 g=>#[_,Z,p,Z,B1,λt r v2 v3 ds zs H3 ht d5 hD h1 h8 nl hN d6 d7 fr B3 k3=>#[t,_,Z,aB.of ht,Z,_,_,Z,_,_,Z,_,_,Z,Z,g _ _ ?_]]];clear g;left;let s3:af H H3:=λb o e=>k3 _ _ (jk e np) (s1 _ _ e);symm;let⟨G,q,i,T,R,rfl,P3,hq,rfl,rfl,a1,h7,h',h3⟩:=BF d5 hD h8 hN d6 d7;right;rw[NJ]at fr;clear ht d5 hD h8 h1 hN d6 d7;show cy _ _ _ [↑a,↑p,↑r,δ$ .str q.1.f,↑T,ζ,ζ,ζ,ζ,ζ,ζ,ζ,ζ,ζ,ζ,ζ,ζ,ζ,ζ] H3;erw[ah λF1 g=>?_];let c3:∀(r T:ε) (G:List Qd) (nl:List Nat) (zs:List V) (q:Qd) (i:Nat) (R:List Int) (HH:Hp),Pg HH r G nl zs->G[i]?=δ q->HH T=δ (.tup$ R.map tT)->nl[i]?=δ R.length->R.length=q.2.length->(∀z∈R,dE z)->eG (G.map$ Df.f ∘ dg)->ar HH p->af H HH->F1 [↑a,↑p,↑r,δ$ .str q.1.f,↑T,ζ,ζ,ζ,ζ,ζ,ζ,ζ,ζ,ζ,ζ,ζ,ζ,ζ,ζ] HH:=by
  clear P3 a1 hq h7 h' h3 fr B3 k3 s3;intro r T G nl zs q i R HH P0 hq a1 h7 h' h3 fr B0 s0;erw[g _ _ ?_];clear g;left;let a2:q∈G:=ML hq;let a3:(G.map dg)[i]?=δ q.1:=by rw[MK,hq];rfl
  erw[ah λF1 g=>#[_,Z,a,ns,2,Z,s0.seq hS,LO,LO,λp6 H6 n3 B6 e6=>#[p6,Z,B6,λcA C H7 i3 d' gC lC B7 k7=>g _ _ ?_]]];clear g;left;let s7:af HH H7:=λb o e=>k7 _ _ (jk e n3) (by rw[e6 b$ jk e n3];exact e);let B5:ar H7 p:=B0.same s7;let P7:=P0.mono (af.tm s7);erw[ah λF1 g=>#[_,Z,r,G.map dg,zs,Z,P7.at',P7.dv,by rw[Mv];let:=P7.l8;omega,λd hd=>?_,λv H8 tr s8=>g _ _ ?_]]
  .symm;let⟨c,hc,rfl⟩:=bS.mp hd;exact(P7.q c hc).ok
  clear g;left;symm;let⟨_,p2,xs,rfl,e5,e7⟩:=tr;let P8:=P7.mono (af.tm s8);let S8:LS p r p2 T cA nA G nl zs xs R C H8:=#[P8,P8.ps e5 e7,s8 _ _$ s7 _ _ a1,s8 _ _ d',B5.same s8];clear P0 P7 P8 e5 e7 s7 s8 d' B5 B7 k7 e6 B6 i3 a1 B0 n3;let⟨kk,o,e9,hx⟩:=tL (BU S8.pg.q S8.pg.nd) C (m:=60) LO 15 q.pl R [] 0 60 (bS.mpr #[q,a2,Z]) LO;let⟨a4,_⟩:=Zu a2 S8.pg.nd;erw[ah λF1 g=>?_];let r0:∀(w7:π) (v8 v9 I:V) (B:Nat) (H9:Hp),(B:Int)<=60->LS p r p2 T cA nA G nl zs xs R C H9->F1 [↑a,↑p,↑r,δ$ .str q.1.f,↑T,↑cA,↑p2,δ$ .str w7,δ v8,δ v9,δ$ .int (B:Int),δ I,ζ,ζ,ζ,ζ,ζ,ζ,ζ] H9:=by
   clear S8 hx e9 a4;intro w7 v8 v9 I B H9 t5 S9;erw[g _ _ ?_];clear g;left;erw[ah λF1 g=>gn λJ j=>#[_,Z,_,Z,_,_,Z,Z,_,Z,_,_,Z,Z,_,Z,p,61,Z,S9.bx,LO,LO,λdm c5 i4 j0 B2 e3=>#[(by show 5<=τ;decide),λl nl=>#[l,Z,#[_,aF.of jc],j _ _ ?_]]]];clear j;let S4:=(S9.bt B2$ ay.of_eq e3).kp (Kp.of_same$ je (o:=.lst [.int (B:Int),.int ((B:Int) - 1),.int ((B:Int)+1),.int 0,.int dm]) nl);let a':upd c5 l (.lst [.int (B:Int),.int ((B:Int) - 1),.int ((B:Int)+1),.int 0,.int dm]) l=δ (.lst [.int (B:Int),.int ((B:Int) - 1),.int ((B:Int)+1),.int 0,.int dm]):=jc;generalize upd c5 l (.lst [.int (B:Int),.int ((B:Int) - 1),.int ((B:Int)+1),.int 0,.int dm])=c6 at S4 a';let hv:∀x∈([.int (B:Int),.int ((B:Int) - 1),.int ((B:Int)+1),.int 0,.int dm]:List V),∃z:Int,x= .int z/\z<=300:=by intro x hx;simp only[Nv,MO,OZ]at hx;rcases hx with rfl |rfl |rfl |rfl |rfl<;>exact#[_,Z,LN]
   clear e3 B2 nl S9;erw[Je (K:=K) (xs:=[.int (B:Int),.int ((B:Int) - 1),.int ((B:Int)+1),.int 0,.int dm]) (λ_=>LV [↑a,↑p,↑r,δ$ .str q.1.f,↑T,↑cA,↑p2,δ$ .str w7,δ v8,δ v9,δ$ .int (B:Int),δ I,ζ,ζ,ζ,ζ,ζ,ζ,ζ] 12 13 (λH'=>LS p r p2 T cA nA G nl zs xs R C H'/\H' l=δ (.lst [.int (B:Int),.int ((B:Int) - 1),.int ((B:Int)+1),.int 0,.int dm]))) #[ζ,ζ,Z,S4,a'] (λj σ Hx _ h=>?_) ?_ (λσ Hx h=>g _ _ ?_)]
   .symm;let⟨_,_,_,_,h2⟩:=h;exact aF.of h2
   .clear g;left;intro E hE j x σ H2 b0 f0 Gq kq h;symm;let⟨L,O,rfl,S,h4⟩:=h;erw[kq ?_];clear kq;symm;let⟨z,rfl,z0⟩:=hv x (ML b0);let⟨M,eM,hM⟩:=yu z z0;show cy (dy _ _) _ E [↑a,↑p,↑r,δ$ .str q.1.f,↑T,↑cA,↑p2,δ$ .str w7,δ v8,δ v9,δ$ .int (B:Int),δ I,δ$ .int z,O,ζ,ζ,ζ,ζ,ζ] H2;erw[ah λF2 f2=>#[_,Z,_,Z,_,Z,_,Z,_,Z,_,_,Z,tq S a2 h' h3 gC LN hM eM λv b1 e' k0=>f2 _ _ ?_]];clear f2;left;let U:=S.kp k0;erw[oJ λG1 yT yF=>#[_,Z,_,Z,_,Z,_,Z,_,Z,_,_,Z,?_]];erw[JH U gC (by omega:M<=1000) eM U.ta h3 (.inr #[i,q.1,R.length,a3,h7,Z,λn=>absurd Z n,λ_=>Z]) λu H0 h5 N=>#[_,Z,Xx h5 (e'.kp N) #[_,Z,yF _$ f0 _ _ #[_,_,Z,U.kp N,(k0.trans N) _ _ K6 h4]]]]
   symm;let⟨L,O,rfl,S1,_⟩:=h;clear hv S4 a' i4 j0;show cy _ _ _ [↑a,↑p,↑r,δ$ .str q.1.f,↑T,↑cA,↑p2,δ$ .str w7,δ v8,δ v9,δ$ .int (B:Int),δ I,L,O,ζ,ζ,ζ,ζ,ζ] Hx;symm;let⟨_,_,_,m3⟩:=S1.pg.pa.2 i q.1 R.length a3 h7;erw[ah λF1 g=>gn λJ j=>#[_,Z,fg,λt3 n0=>#[T,t3,_,_,Z,Z,am S1.ta n0,jc,(by rw[Mv];show R.length+1<=τ;omega),λW m6 b2 s6=>?_]]];let b3:=s6 _ _ (am (o:=.tup [.int 0]) S1.ta n0);erw[#[_,Z,_,Z,T,_,Z,b3,λX H4 b4 s'=>#[pC,λD n1=>#[eJ,λl nl=>#[l,Z,#[_,aF.of jc],j _ _ ?_]]]]];clear j;let K1:af Hx H4:=((je n0).trans s6).trans s';symm;let⟨j3,j1,j2⟩:=sY R (δ 1) ζ;right;rw[j1]at b4;let e2:R.map tT++[tT 0]=(R++[0]).map tT:=by rw[M0];rfl
   rw[e2]at b2;let s4:af H4 (upd (upd H4 D$ .tup []) l$ .lst [.ref W,.ref X,.ref D]):=(je n1).trans (je nl);let S5:=S1.kp (Kp.of_same$ K1.trans s4);let b5:upd (upd H4 D$ .tup []) l (.lst [.ref W,.ref X,.ref D]) l=δ (.lst [.ref W,.ref X,.ref D]):=jc;let b7:upd (upd H4 D$ .tup []) l (.lst [.ref W,.ref X,.ref D]) D=δ (.tup (([]:List Int).map tT)):=am jc nl;let sp:cX (upd (upd H4 D$ .tup []) l$ .lst [.ref W,.ref X,.ref D]) [.ref W,.ref X,.ref D]:=λx hx=>by
    simp only[Nv,MO,OZ]at hx;symm;rcases hx with rfl |rfl |rfl
    .exact#[_,_,Z,s4 _ _$ s' _ _ b2,qW h3 #[LO,LO]]
    .exact#[_,_,Z,s4 _ _ b4,λz hz=>h3 z (j2 z hz)]
    .exact#[_,_,Z,b7,λz hz=>nomatch hz]
   generalize upd (upd H4 D$ .tup []) l (.lst [.ref W,.ref X,.ref D])=m7 at s4 S5 b5 b7 sp;clear b3 b2 b4 s6 s' K1 s4 n0 n1 nl S1 b7;erw[Je (K:=K) (xs:=[.ref W,.ref X,.ref D]) (λ_=>LV [↑a,↑p,↑r,δ$ .str q.1.f,↑T,↑cA,↑p2,δ$ .str w7,δ v8,δ v9,δ$ .int (B:Int),δ I,L,O,ζ,ζ,ζ,ζ,ζ] 14 15 (λH'=>LS p r p2 T cA nA G nl zs xs R C H'/\H' l=δ (.lst [.ref W,.ref X,.ref D])/\cX H' [.ref W,.ref X,.ref D])) #[ζ,ζ,Z,S5,b5,sp] (λj σ Hx _ h=>?_) ?_ (λσ Hx h=>g _ _ ?_)]
   .symm;let⟨_,_,_,_,h2,_⟩:=h;exact aF.of h2
   .clear g;left;intro E hE j x σ H2 b0 f0 Gq kq h;symm;let⟨o1,o2,rfl,S,h4,s2⟩:=h;erw[kq ?_];clear kq;symm;let⟨ag,js,rfl,c9,c2⟩:=s2 x (ML b0);show cy (dy _ _) _ E [↑a,↑p,↑r,δ$ .str q.1.f,↑T,↑cA,↑p2,δ$ .str w7,δ v8,δ v9,δ$ .int (B:Int),δ I,L,O,↑ag,o2,ζ,ζ,ζ] H2;erw[ah λF2 f2=>#[_,Z,_,Z,_,Z,_,Z,_,Z,p,3,Z,S.bx,LO,LO,λd2 b1 d0 d1 B4 e4=>?_]];let k0:ay p H2 b1:=ay.of_eq e4;let t1:=k0.tm S.bx;let U:=S.bt B4 k0;let lp:l≠p:=by let⟨_,_,_,_,_,e⟩:=S.bx.ob;exact jE h4 e (by intro z;cases z)
    let b9:=k0 _ _ lp h4;let h6:=t1 _ _ c9;symm;obtain⟨M,eM⟩:∃M:Nat,d2=(M:Int):=#[d2.toNat,LN];let p0:∀(u:V) (H0:Hp),Kp b1 H0->LV [↑a,↑p,↑r,δ$ .str q.1.f,↑T,↑cA,↑p2,δ$ .str w7,δ v8,δ v9,δ$ .int (B:Int),δ I,L,O,ζ,ζ,ζ,ζ,ζ] 14 15 (λH'=>LS p r p2 T cA nA G nl zs xs R C H'/\H' l=δ (.lst [.ref W,.ref X,.ref D])/\cX H' [.ref W,.ref X,.ref D]) [↑a,↑p,↑r,δ$ .str q.1.f,↑T,↑cA,↑p2,δ$ .str w7,δ v8,δ v9,δ$ .int (B:Int),δ I,L,O,↑ag,δ u,ζ,ζ,ζ] H0:=λu H0 k=>#[_,_,Z,U.kp k,k _ _ K6 b9,(s2.tm t1).tm k.tm];by_cases hl:R.length=js.length
    .erw[JH U gC (by omega:M<=1000) eM h6 c2 (.inr #[i,q.1,R.length,a3,h7,Z,λn=>absurd hl n,λ_=>Z]) λu H0 h5 N=>f2 _ _ ?_];clear f2;left;let S6:=U.kp N;erw[oJ λG1 yT yF=>#[_,Z,ag,_,Z,.inr$ aB.of$ N.tm _ _ h6,_,Z,T,_,Z,.inr$ aB.of S6.ta,Z,_,Z,aI (by rw[Mv,Mv,hl];simp)$ yF _$ f0 _ _$ p0 _ _ N]]
    .erw[JH U gC (by omega:M<=1000) eM h6 c2 (o:=δ ["count",q.1.f]) (.inr #[i,q.1,R.length,a3,h7,Z,λ_=>Z,λn=>absurd n hl]) λu H0 h5 N=>f2 _ _ ?_];clear f2;left;let S6:=U.kp N;erw[oJ λG1 yT yF=>#[_,Z,ag,_,Z,.inr$ aB.of$ N.tm _ _ h6,_,Z,T,_,Z,.inr$ aB.of S6.ta,Z,_,Z,bJ (by rw[Mv,Mv];simp;omega) #[_,Z,_,Z,bg,λl5 n4=>?_]]];let k1:Kp H0 (upd H0 l5$ .lst [.str "count",.str q.1.f]):=Kp.of_same (je n4);exact Xx (h5.kp k1) (o:=δ ["count",q.1.f]) #[l5,Z,jc] #[_,Z,yF _$ f0 _ _$ p0 _ _$ N.trans k1]
   symm;let⟨o1,o2,rfl,S0,_⟩:=h;clear sp S5 b5;show cy _ _ _ [↑a,↑p,↑r,δ$ .str q.1.f,↑T,↑cA,↑p2,δ$ .str w7,δ v8,δ v9,δ$ .int (B:Int),δ I,L,O,o1,o2,ζ,ζ,ζ] Hx;let lz:zs.length=G.length:=by rw[S0.pg.dv.len,Mv]
   let l8:=S0.pg.l8;erw[ah λF1 g=>#[_,Z,r,Z,#[_,aB.of S0.pg.at'],?_]];erw[zP (K:=K) (xs:=zs) LN (λi ys H'=>ys=((G.map$ Df.f ∘ dg).take i).map ti/\H'=Hx) #[Z,Z] (λi ys H' h=>?_) (λi x ys H' hx h=>?_) (λys H' h hA n5=>g _ _ ?_)]
   .symm;let⟨rfl,e⟩:=h;right;rw[e];exact#[aB.of S0.pg.at',by rw[Mv,M1];omega]
   .symm;let⟨rfl,e⟩:=h;right;rw[e];symm;let⟨d,hd,bs,rfl,h1,_⟩:=S0.pg.dv.at i x hx;let hf:(G.map$ Df.f ∘ dg)[i]?=δ d.f:=by rw[<- NJ,MK,hd];rfl
    erw[#[_,Z,d.p,_,_,_,Z,Z,aB.of h1,io,?_,Z]];rw[NY,hf,M0];rfl
   clear g;left;symm;let⟨rfl,e⟩:=h;right;rw[lz,show(G.map$ Df.f ∘ dg).take G.length=(G.map$ Df.f ∘ dg) by rw[Nq (by rw[Mv];exact Mx _)]];subst e;let S2:=S0.kp (Kp.of_same$ je (o:=.lst ((G.map$ Df.f ∘ dg).map ti)) n5);let b':upd H' hA (.lst ((G.map$ Df.f ∘ dg).map ti)) hA=δ (.lst ((G.map$ Df.f ∘ dg).map ti)):=jc;generalize upd H' hA (.lst ((G.map$ Df.f ∘ dg).map ti))=a0 at S2 b';clear S0 n5;show cy (dy _ _) _ _ [↑a,↑p,↑r,δ$ .str q.1.f,↑T,↑cA,↑p2,δ$ .str w7,δ v8,δ v9,δ$ .int (B:Int),δ I,L,O,o1,o2,↑hA,ζ,ζ] a0;let m8:q.1.f.length<=20:=S2.pg.ok.2.2 _ (Rz$ Rz a2);erw[ah λF1 g=>#[_,Z,1,Z, -1,Z,_,Z,LN,λz1 k4=>#[_,_,Z,Z,(by show z1.length+1<=τ;omega),_,Z,1,Z, -1,Z,_,Z,LN,λz2 k5=>#[_,_,Z,Z,(by show z2.length+1<=τ;omega),(by show 6<=τ;decide),λls n6=>g _ _ ?_]]]];clear g;left;let s5:af a0 (upd a0 ls$ .lst ((["a","b","c","d",z1++("q":π),z2++("x":π)]:List π).map ti)):=je n6;let c0:upd a0 ls (.lst ((["a","b","c","d",z1++("q":π),z2++("x":π)]:List π).map ti)) ls=δ (.lst ((["a","b","c","d",z1++("q":π),z2++("x":π)]:List π).map ti)):=jc;show cy (dy _ _) _ _ [↑a,↑p,↑r,δ$ .str q.1.f,↑T,↑cA,↑p2,δ$ .str w7,δ v8,δ v9,δ$ .int (B:Int),δ I,L,O,o1,↑ls,↑hA,ζ,ζ] (upd a0 ls$ .lst ((["a","b","c","d",z1++("q":π),z2++("x":π)]:List π).map ti));generalize upd a0 ls (.lst ((["a","b","c","d",z1++("q":π),z2++("x":π)]:List π).map ti))=m9 at s5 c0 ⊢;let S':=S2.kp (Kp.of_same s5);let c4:=s5 _ _ b';let mc:∀c∈(z17z:List π),c∈(["a","b","c","d",z1++("q":π),z2++("x":π)]:List π):=λc hc=>Nb [z1++("q":π),z2++("x":π)] hc;let y6:(["a","b","c","d",z1++("q":π),z2++("x":π)]:List π).length=6:=rfl;generalize (["a","b","c","d",z1++("q":π),z2++("x":π)]:List π)=Y at c0 mc y6;clear S2 b' s5 n6 k4 k5;erw[ah λF1 g=>#[_,Z,ls,Z,#[_,aF.of c0],Jw (λy=>!iK (.str y) ((G.map$ Df.f ∘ dg).map ti)) LN c0 (λy H1 Q' hy k hq=>#[_,Z,_,Z,hA,_,Z,.inl$ aF.of$ k _ _ c4,Z,qt _,_,Z,hq _$ af.refl _]) (λy H1 Q' hy hq=>#[_,Z,hq]) λk6 f3 lo n7=>?_]];let nf:∀y∈Y.filter (λy=>!iK (.str y) ((G.map$ Df.f ∘ dg).map ti)),y∉(G.map$ Df.f ∘ dg):=λy hy m=>by let z:=(pw.mp hy).2;rw[Z5.mpr m]at z;cases z
   let ne:Y.filter (λy=>!iK (.str y) ((G.map$ Df.f ∘ dg).map ti))≠[]:=by
    symm;let⟨c,hc,hn⟩:=fr;erw[List.ne_nil_of_mem (a:=c)$ pw.mpr #[mc c hc,?_]];cases z:iK (.str c) ((G.map$ Df.f ∘ dg).map ti) with
    |false=>rfl
    |true=>exact absurd (Z5.mp z) hn
   symm;let⟨ot,f4,f5⟩:=yo ne;let k9:=nf ot f4;erw[#[1,Z,lo,_,_,_,Z,Z,aF.of jc,f5,g _ _ ?_]];clear g;left;let S7:=S'.kp (Kp.of_same$ f3.trans$ je (o:=.lst ((Y.filter λy=>!iK (.str y) ((G.map$ Df.f ∘ dg).map ti)).map ti)) n7);generalize upd k6 lo (.lst ((Y.filter λy=>!iK (.str y) ((G.map$ Df.f ∘ dg).map ti)).map ti))=H5 at S7 ⊢;clear S' c4 c0 mc y6 nf ne f4 f5 f3 n7;show cy _ _ _ [↑a,↑p,↑r,δ$ .str q.1.f,↑T,↑cA,↑p2,δ$ .str w7,δ v8,δ v9,δ$ .int (B:Int),δ I,L,O,o1,↑ls,↑hA,δ$ .str ot,ζ] H5;erw[ah λF1 g=>gn λJ j=>#[_,Z,pC,λe0 n'=>#[bg,λl nl=>#[l,Z,#[_,aF.of jc],j _ _ ?_]]]];clear j;let c':af H5 (upd (upd H5 e0$ .tup []) l$ .lst [.ref T,.ref e0]):=(je n').trans (je nl);let S3:=S7.kp (Kp.of_same c');let c1:upd (upd H5 e0$ .tup []) l (.lst [.ref T,.ref e0]) l=δ (.lst [.ref T,.ref e0]):=jc;let d3:upd (upd H5 e0$ .tup []) l (.lst [.ref T,.ref e0]) e0=δ (.tup (([]:List Int).map tT)):=am jc nl;let sp:cX (upd (upd H5 e0$ .tup []) l$ .lst [.ref T,.ref e0]) [.ref T,.ref e0]:=λx hx=>by
    simp only[Nv,MO,OZ]at hx;symm;rcases hx with rfl |rfl
    .exact#[_,_,Z,S3.ta,h3]
    .exact#[_,_,Z,d3,λz hz=>nomatch hz]
   generalize upd (upd H5 e0$ .tup []) l (.lst [.ref T,.ref e0])=m' at c' S3 c1 d3 sp;clear c' n' nl S7 d3;erw[Je (K:=K) (xs:=[.ref T,.ref e0]) (λ_=>LV [↑a,↑p,↑r,δ$ .str q.1.f,↑T,↑cA,↑p2,δ$ .str w7,δ v8,δ v9,δ$ .int (B:Int),δ I,L,O,o1,↑ls,↑hA,δ$ .str ot,ζ] 18 18 (λH'=>LS p r p2 T cA nA G nl zs xs R C H'/\H' l=δ (.lst [.ref T,.ref e0])/\cX H' [.ref T,.ref e0])) #[ζ,ζ,Z,S3,c1,sp] (λj σ Hx _ h=>?_) ?_ (λσ Hx h=>g _ _ ?_)]
   .symm;let⟨_,_,_,_,h2,_⟩:=h;exact aF.of h2
   .clear g;left;intro E hE j x σ H2 b0 f0 Gq kq h;symm;let⟨_,o3,rfl,S,h4,s2⟩:=h;erw[kq ?_];clear kq;symm;let⟨ag,js,rfl,c9,c2⟩:=s2 x (ML b0);show lB _ _ _ E [↑a,↑p,↑r,δ$ .str q.1.f,↑T,↑cA,↑p2,δ$ .str w7,δ v8,δ v9,δ$ .int (B:Int),δ I,L,O,o1,↑ls,↑hA,δ$ .str ot,↑ag] H2;erw[oJ λG1 yT yF=>#[_,Z,_,Z,_,Z,_,Z,_,Z,p,61,Z,S.bx,LO,LO,λd2 b1 d0 d1 B4 e4=>?_]];let k0:ay p H2 b1:=ay.of_eq e4;let t1:=k0.tm S.bx;let U:=S.bt B4 k0;let lp:l≠p:=by let⟨_,_,_,_,_,e⟩:=S.bx.ob;exact jE h4 e (by intro z;cases z)
    let b9:=k0 _ _ lp h4;symm;obtain⟨M,eM⟩:∃M:Nat,d2=(M:Int):=#[d2.toNat,LN];erw[JH U gC (by omega:M<=1000) eM (t1 _ _ c9) c2 (o:=δ ["name",ot]) (.inl #[by rw[NJ];exact k9,Z]) λu H0 h5 N=>#[_,Z,bg,λl5 n4=>?_]];let k1:Kp H0 (upd H0 l5$ .lst [.str "name",.str ot]):=Kp.of_same (je n4);let k2:=N.trans k1;exact Xx (h5.kp k1) (o:=δ ["name",ot]) #[l5,Z,jc] #[_,Z,yF _$ f0 _ _ #[ζ,_,Z,U.kp k2,k2 _ _ K6 b9,(s2.tm t1).tm k2.tm]]
   symm;let⟨_,o3,rfl,f6,_⟩:=h;show cy _ _ _ [↑a,↑p,↑r,δ$ .str q.1.f,↑T,↑cA,↑p2,δ$ .str w7,δ v8,δ v9,δ$ .int (B:Int),δ I,L,O,o1,↑ls,↑hA,δ$ .str ot,o3] Hx;clear sp S3 c1;erw[ah λF1 g=>#[_,Z,_,Z,_,Z,_,Z,tq f6 a2 h' h3 gC LN (by decide:60<=300) Z λv o5 f7 k'=>g _ _ ?_]];clear g;left;let f8:=f6.kp k';exact#[_,Z,_,Z,_,Z,_,Z,JH f8 gC (by decide:60<=1000) Z f8.ta h3 (.inr #[i,q.1,R.length,a3,h7,Z,λn=>absurd Z n,λ_=>Z]) λu o6 f9 l0=>#[_,Z,Xx f9 (f7.kp l0)$ qq _]]
  clear g;left;erw[#[_,Z,_,Z,_,Z,_,Z,C,G.map Qd.pl,r,T,cA,q.1.f,q.pl,R,kk,60,o,Z,S8.pg.pr,S8.pg.fit,a4,S8.ta,h3,h'.symm,S8.ca,gC,LN,LO,LO,hx,e9,λb L' t' H9 rr wA gA eo d4 o7 gL lL tm s9=>#[rr,_,Z,aB.of d4,Z,_,_,Z,_,_,Z,_,_,Z,_,_,Z,_,_,Z,Z,r0 _ _ _ _ _ _ tm$ S8.kp$ Kp.of_same s9],λw H9 rr v2 v3 t' v5 eo d4 tm s9=>#[rr,_,Z,aB.of d4,Z,_,_,Z,_,_,Z,_,_,Z,_,_,Z,_,_,Z,Z,r0 _ _ _ _ _ _ tm$ S8.kp$ Kp.of_same s9]]]
 clear g;left;erw[oJ λG1 yT yF=>#[_,Z,p,4,Z,B3,LO,LO,λd8 H8 o8 o9 B8 e8=>#[Z,_,Z,?_]]];let k8:ay p H3 H8:=ay.of_eq e8;let T8:=k8.tm B3;let s8:af H H8:=λb o e=>k8 _ _ (jk e np) (s3 _ _ e);symm;by_cases h0:d8=0
 .right;rw[h0,Ng (Z:tT 0=tT 0)];erw[yT _ ?_];clear yT yF;erw[#[_,Z,a,ns,3,Z,s8.seq hS,LO,LO,λp1 c5 n2 B2 e3=>#[p1,Z,B2,λt2 r2 v2 v3 d x0 c6 l2 l3 l4 l6 f' g0 l7=>#[t2,_,Z,aB.of l2,Z,_,_,Z,_,_,Z,_,_,Z,Z,?_]]]];symm;let⟨q0,q2,i2,t4,l',m1,P1,m2,rfl,rfl,g1,g2,g4,g5⟩:=BF l3 l4 (by show 1<=8;decide) l6 f' g0;let g6:af H8 c6:=λb o e=>l7 _ _ (jk e n2) (by rw[e3 b$ jk e n2];exact e);let l1:q0.length=1:=by rw[<- Mv (f:=dg),<- m1];rfl
  exact c3 r2 t4 q0 [1] x0 q2 i2 l' c6 P1 m2 g1 g2 g4 g5 (eG.few (by rw[Mv];omega)) (B8.same g6)$ s8.trans g6
 .right;rw[MY (λz=>h0 (by injection z))];exact yF _$ c3 r T G nl zs q i R H8 (P3.mono T8) hq (T8 _ _ a1) h7 h' h3 fr B8 s8
def sU{K:Ω}(e:K.lookup C=δ #[o,O,.cls c,s]):clsIn K C=δ c:=by unfold clsIn;rw[e]
def Eu{K:Ω}(e:excIn K B dG "ValueError.__new__"=ν):tailIn K dG (.ref B::dG)=ν:=by
 let⟨n,q,N,f,g,a,s,sub,A,c,D,k,i,j,l,m,b,o,h,H⟩:=Xa e;let d:tailIn K dG dG=ν:=by unfold tailIn;simp
 unfold tailIn;dsimp only;rw[b];simp only[h,H,d,beq_self_eq_true,Bool.and_self,Bool.or_true]
@[elab_as_elim] theorem LF{P:List η->Prop}(u:List η)(h:u.length=1)(q:∀a,P [a]):P u:=by
 cases u with
 |nil=>cases h
 |cons a r=>
  cases r with
  |nil=>exact q a
  |cons _ _=>cases h
def _root_._L.aM.b1{K:Ω}{st:da}{p:List π}(F:aM K x q st f g)(h:∀(kV d b:η) (A:Option ε) (c C a:η),bindArgs (rz x q (bM st) (a8 st) (ae st) .none kV d b A c C) #[[a],[]]=pure (p.zip [a]):=by intros;rfl)(e:↥(p.length=1)):au K g p []:=F.binds λkV d b A c C u H=>LF u (H.trans e) λa=>h kV d b A c C a
@[elab_as_elim] theorem LG{P:List η->Prop}(u:List η)(h:u.length=2)(q:∀a b,P [a,b]):P u:=by
 cases u with
 |nil=>cases h
 |cons a r=>
  cases r with
  |nil=>cases h
  |cons b R=>
   cases R with
   |nil=>exact q a b
   |cons _ _=>cases h
def _root_._L.aM.b2{K:Ω}{st:da}{p:List π}(F:aM K x q st f i)(h:∀(kV d g:η) (A:Option ε) (c C a b:η),bindArgs (rz x q (bM st) (a8 st) (ae st) .none kV d g A c C) #[[a,b],[]]=pure (p.zip [a,b]):=by intros;rfl)(e:↥(p.length=2)):au K i p []:=F.binds λkV d g A c C u H=>LG u (H.trans e) λa b=>h kV d g A c C a b
@[elab_as_elim] theorem LH{P:List η->Prop}(u:List η)(h:u.length=3)(q:∀a b c,P [a,b,c]):P u:=by
 cases u with
 |nil=>cases h
 |cons a r=>
  cases r with
  |nil=>cases h
  |cons b R=>
   cases R with
   |nil=>cases h
   |cons c d=>
    cases d with
    |nil=>exact q a b c
    |cons _ _=>cases h
def _root_._L.aM.b3{K:Ω}{st:da}{p:List π}(F:aM K x q st f j)(h:∀(kV d g:η) (A:Option ε) (C i a b c:η),bindArgs (rz x q (bM st) (a8 st) (ae st) .none kV d g A C i) #[[a,b,c],[]]=pure (p.zip [a,b,c]):=by intros;rfl)(e:↥(p.length=3)):au K j p []:=F.binds λkV d g A C i u H=>LH u (H.trans e) λa b c=>h kV d g A C i a b c
@[elab_as_elim] theorem LI{P:List η->Prop}(u:List η)(h:u.length=4)(q:∀a b c d,P [a,b,c,d]):P u:=by
 cases u with
 |nil=>cases h
 |cons a r=>
  cases r with
  |nil=>cases h
  |cons b R=>
   cases R with
   |nil=>cases h
   |cons c e=>
    cases e with
    |nil=>cases h
    |cons d f=>
     cases f with
     |nil=>exact q a b c d
     |cons _ _=>cases h
def _root_._L.aM.b4{K:Ω}{st:da}{p:List π}(F:aM K x q st f j)(h:∀(kV D g:η) (A:Option ε) (C i a b c d:η),bindArgs (rz x q (bM st) (a8 st) (ae st) .none kV D g A C i) #[[a,b,c,d],[]]=pure (p.zip [a,b,c,d]):=by intros;rfl)(e:↥(p.length=4)):au K j p []:=F.binds λkV D g A C i u H=>LI u (H.trans e) λa b c d=>h kV D g A C i a b c d
@[elab_as_elim] theorem LJ{P:List η->Prop}(u:List η)(h:u.length=5)(q:∀a b c d e,P [a,b,c,d,e]):P u:=by
 cases u with
 |nil=>cases h
 |cons a r=>
  cases r with
  |nil=>cases h
  |cons b R=>
   cases R with
   |nil=>cases h
   |cons c f=>
    cases f with
    |nil=>cases h
    |cons d g=>
     cases g with
     |nil=>cases h
     |cons e i=>
      cases i with
      |nil=>exact q a b c d e
      |cons _ _=>cases h
def _root_._L.aM.b5{K:Ω}{st:da}{p:List π}(F:aM K x q st f j)(h:∀(kV D g:η) (A:Option ε) (C i a b c d e:η),bindArgs (rz x q (bM st) (a8 st) (ae st) .none kV D g A C i) #[[a,b,c,d,e],[]]=pure (p.zip [a,b,c,d,e]):=by intros;rfl)(e:↥(p.length=5)):au K j p []:=F.binds λkV D g A C i u H=>LJ u (H.trans e) λa b c d e=>h kV D g A C i a b c d e
def eL(K:Ω)(p q:π)(st:da)(f:ε):Prop:=∃(o:η) (O:Option ε) (kV d a:η) (A:Option ε) (c C:η) (s:Array (Option η)),K.lookup f=δ #[o,O,.func$ rz p q (bM st) (a8 st) (ae st) .none kV d a A c C,s]/\codeIn K c q=ν/\fx K (.ref f)=ν
def cw(K:Ω)(p:π)(st:da)(f:ε):Prop:=nsIn K Ξ p=δ (↑f)/\eL K p p st f
section
variable {K:Ω}{py q:π}{st:da}{f:ε}{oc:η}{od:Option ε}{kV dc pm:η}{an:Option ε}{cd ct:η}{sl:Array (Option η)}
def Lg(l:K.lookup f=δ #[oc,od,.func$ rz py q (bM st) (a8 st) (ae st) .none kV dc pm an cd ct,sl])(c:codeIn K cd q=ν)(k:fx K (.ref f)=ν):eL K py q st f:=#[_,_,_,_,_,_,_,_,_,l,c,k]
def IV(a:nsIn K Ξ py=δ (↑f))(l:K.lookup f=δ #[oc,od,.func$ rz py py (bM st) (a8 st) (ae st) .none kV dc pm an cd ct,sl])(c:codeIn K cd py=ν)(k:fx K (.ref f)=ν):cw K py st f:=#[a,Lg l c k]
def eL.go(h:eL K py q st f):∃F,aM K py q st f F/\fx K (.ref f)=ν:=by let⟨oc,od,kV,dc,pm,an,cd,ct,sl,l,c,k⟩:=h;exact#[_,tR l c k,k]
def cw.go{mg:π->Option η}(t:cw K py st f)(X:K.In h)(G:h.Ns Ξ mg):∃a,aM K py py st f a/\fx K (.ref f)=ν/\mg py=↑f:=by let⟨a,F,k⟩:=t.2.go;exact#[a,F,k,O7 X G t.1]
end
def Cq{l:rx}{w:bU}{K:Ω}{mg:π->Option η}(X:K.In h)(G:h.Ns Ξ mg)(n7:mg "law"=↑fa)
                                 
  (t7:cw K "names_in" eV f0)
  (t8:cw K "own_terms" D1 n')
  (t':cw K "used_behind_terms" vP fUb)
  (o3:cw K "used_ahead_of" Aq f1)
  (o4:cw K "used_ahead" Ap fUa)
  (o5:cw K "bodies_in" DW o6)
  (o7:cw K "many_cuts" vG o8)
  (o9:cw K "deed_of" vC o')
  (p0:cw K "place_of_give" l9 f2)
  (p1:cw K "place_of_set" vI p2)
  (p3:cw K "part_made" vH p4)
  (p5:cw K "made" oV p6)
  (p7:cw K "_law_box" DX p9)
  (wO:cw K "_law_take" vO p')
  (q0:cw K "_law_number" lW q1)
  (q2:cw K "_law_names" iP q3)
  (q4:cw K "_law_term" oX q5)
  (q6:cw K "_law_spot" vK q7)
  (q':cw K "_law_statement" vL fSt)
  (r0:cw K "_law_body" oR r1)
  (r2:cw K "_law_any" DV r3)
  (eh:cw K "_law_op" IH r4)
  (r5:cw K "_law_inner" n9 r6)
  (r7:cw K "_law_looped" iD r8)
  (r':cw K "_law_ticking" gK s0)
  (s1:cw K "_law_busy" vw s2)
  (s3:cw K "_law_case" oU s4)
  (s5:cw K "joined" lU s6)
  (s7:cw K "worth" ma s8)
  (s9:cw K "named" iE f3)
  (s':cw K "begun" nW u0)
  (u1:cw K "deeper" lR u2)
  (u3:cw K "part_of" lY u4)
  (u8:cw K "cut_at" nY u9)
  (u':cw K "held_at" lT v6)
  (v7:cw K "worths" iF v8)
  (v9:cw K "deed_at" lQ v')
  (w0:cw K "found_in" iO w1)
  (w2:cw K "end_of" lS w3)
  (w4:cw K "first_of" iN w5)
  (w6:cw K "onward" lX w7)
  (w8:cw K "run" D3 w9)
  (w':cw K "_law_cells" nX x0)
  (x1:cw K "_law_worth" HU x2)
  (x3:cw K "_law_turn" oh x4)
  (x5:cw K "_law_looped_run" GV fWl)
  (x6:cw K "_law_deed_run" GQ fWd)
  (x7:cw K "_law_body_run" GP fWb)
  (x8:cw K "_law_def_run" GS x9)
  (x':cw K "_law_plain" IG y0)
  (y1:cw K "_law_kinds" An y2)
  (y3:cw K "_law_word" D4 y5)
  (y6:cw K "_law_itself" vJ z7)
  (z8:cw K "_law_due" DY z')
  (tZ:cw K "law" lV fZ)
  (A':nsIn K Ξ "NOUGHT"=δ (↑D)) (B0:K.lookup D=δ #[.type "tuple",odN,.seq (ι [.str "num" rN0,.int 0 rN1]) nN,slN]) (B1:nsIn K Ξ "Cutting"=δ (↑a)) (v1:nsIn K Ξ "TOP"=δ (δ$ .int 1000000000000000000 tTop)) (vD:nsIn K Ξ "DEEPEST"=δ (δ$ .int 15 tD)) (vR:nsIn K Ξ "BookRun"=δ (↑C)) (vT:nsIn K Ξ "Turns"=δ (↑c0))
  (v2:nsIn K Ξ "TooLong"=δ (↑t))
  (v3:nsIn K Ξ "TooDeep"=δ (↑u))
  (v4:nsIn K Ξ "NoName"=δ (↑j))
  (v5:nsIn K Ξ "NoCount"=δ (↑o))
  (B2:nsIn K Ξ "NoStep"=δ (↑xS))
  (B3:nsIn K Ξ "NoRow"=δ (↑xR))
  (B4:nsIn K Ξ "NoText"=δ (↑xT))
  (B5:nsIn K Ξ "Twice"=δ (↑xW))
  (B6:nsIn K Ξ "BookError"=δ (↑B))
  (B7:K.lookup t=δ #[ocxL,odxL,.cls cdxL,slxL]) (t0:typeIn K (.ref t)=δ (.type "type")) (mbxL:mroIn K t (.type "BaseException")=δ ν) (k7:fx K (.ref t)=ν)
  (B8:K.lookup u=δ #[ocxD,odxD,.cls cdxD,slxD]) (t1:typeIn K (.ref u)=δ (.type "type")) (mbxD:mroIn K u (.type "BaseException")=δ ν) (k8:fx K (.ref u)=ν)
  (B9:K.lookup B=δ #[ocxB,odxB,.cls cdxB,slxB]) (t2:typeIn K (.ref B)=δ (.type "type")) (m8:mroIn K B (.type "BaseException")=δ ν)
  (k9:fx K (.ref j)=ν) (t3:typeIn K (.ref j)=δ (.type "type"))
  (o1:K.lookup j=δ (excClassObj nmxN qnxN j B' bsxN (.ref B::dG) ν snxN C' abxN D' ddxN k0xN k1xN k2xN k3xN k5xN "ValueError.__new__")) (n0:findIn K (.ref j) "name"=δ ζ) (c1:specialIn K (.ref j) "__call__"=δ (δ$ .builtin "type.__call__")) (t4:PySem.W.instIn K (.ref j) (.type "type")=δ ν)
  (E1:findIn K (.ref j) "__init__"=δ (↑T)) (E2:isFn K (.ref T)=ν)
  (k':fx K (.ref o)=ν) (t5:typeIn K (.ref o)=δ (.type "type"))
  (o2:K.lookup o=δ (excClassObj nmxC qnxC o E3 bsxC (.ref B::dG) ν snxC E4 abxC E5 ddxC k0xC k1xC k2xC k3xC k5xC "ValueError.__new__")) (n1:findIn K (.ref o) "name"=δ ζ) (c2:specialIn K (.ref o) "__call__"=δ (δ$ .builtin "type.__call__")) (t6:PySem.W.instIn K (.ref o) (.type "type")=δ ν)
  (E6:findIn K (.ref o) "__init__"=δ (↑U)) (E7:isFn K (.ref U)=ν)
  (e0:excIn K t dG "ValueError.__new__"=ν) (e1:excIn K u dG "ValueError.__new__"=ν) (e2:excIn K B dG "ValueError.__new__"=ν)
  (k2:lK K (#[j,o,t,u,xS,xR,xT,xW,B]:xt) j ν μ μ μ) (k3:lK K (#[j,o,t,u,xS,xR,xT,xW,B]:xt) o μ ν μ μ) (a':lK K (#[j,o,t,u,xS,xR,xT,xW,B]:xt) t μ μ ν μ) (b0:lK K (#[j,o,t,u,xS,xR,xT,xW,B]:xt) u μ μ μ ν)
  (rk:RK K C) (E8:Mk K C f4) (tm:Ce K c0 "__init__" f5) (m9:cq K C "take_turn" f6) (m':cq K C "number_in" f7) (m3:cq K C "chain_of" E9) (b7:cq K C "what_of" E')
  (ck:CK K a) (mk:Mk K a f8) (b9:cq K a "place_of_body" f9) (H0:cq K a "place_of" H1) (H2:cq K a "place_of_cut" H3) (H4:cq K a "ways_of" H5)
  (H6:eL K "__init__" "Cutting.__init__" vF f8)
  (H7:eL K "place_of_body" "Cutting.place_of_body" Ak f9)
  (H8:eL K "place_of" "Cutting.place_of" Ao H1)
  (H9:eL K "place_of_cut" "Cutting.place_of_cut" Al H3)
  (H':eL K "ways_of" "Cutting.ways_of" Ar H5)
  (I1:eL K "__init__" "Turns.__init__" vM f5)
  (I2:eL K "take_turn" "Turns.take_turn" og f6)
  (I3:eL K "number_in" "Turns.number_in" vN f7)
  (I4:eL K "__init__" "BookRun.__init__" vt f4)
  (I5:eL K "chain_of" "BookRun.chain_of" Ai E9)
  (I6:eL K "what_of" "BookRun.what_of" Aj E')
  (I7:eL K "__init__" "NoName.__init__" n8 T) (I':eL K "__init__" "NoCount.__init__" nZ U)
  (z2:nsIn K Ξ "len"=δ ζ)
  (z3:nsIn K Ξ "int"=δ ζ)
  (S:nsIn K Ξ "range"=δ ζ)
  (z0:nsIn K Ξ "list"=δ ζ)
  (y:nsIn K Ξ "reversed"=δ ζ)
  (V:nsIn K Ξ "tuple"=δ ζ)
  (E:nsIn K Ξ "sorted"=δ ζ)
  (z4:nsIn K Ξ "set"=δ ζ)
  (z5:nsIn K Ξ "zip"=δ ζ)
  (z1:nsIn K Ξ "dict"=δ ζ)
  (z6:nsIn K Ξ "max"=δ ζ)
  (p:nsIn K Ξ "isinstance"=δ ζ)
  :∃fd:Φ,(∀(s:θ) (v:η),BindsTo s fd #[[v],[]] [("_law_script",v)])/\∀base:ef,K.In base->base.Ns Ξ mg->ai l.prog w K mg base aA 220 fa fd ["_law_script"] (mZ K):=by
 let e:=n7.symm.trans (O7 X G tZ.1);symm;cases e;let⟨J0,A,Y,M⟩:=t7.go X G;let⟨dOw,b',K1,K3⟩:=t8.go X G;let⟨dUb,c3,kUb,K4⟩:=t'.go X G;let⟨dUo,F0,c4,m4⟩:=o3.go X G;let⟨dUa,c5,kUa,K5⟩:=o4.go X G;let⟨dBi,c6,L0,L1⟩:=o5.go X G;let⟨dMc,F6,c9,c'⟩:=o7.go X G;let⟨dDe,d0,L3,L4⟩:=o9.go X G;let⟨dPg,F1,d1,d2⟩:=p0.go X G;let⟨dPs,d3,L5,L6⟩:=p1.go X G;let⟨dPm,d4,L7,L8⟩:=p3.go X G;let⟨dMa,d5,L9,L'⟩:=p5.go X G;let⟨dBx,d6,N1,N2⟩:=p7.go X G;let⟨dTk,F,k,m⟩:=wO.go X G;let⟨dNu,F2,k4,m5⟩:=q0.go X G;let⟨dNm,F3,k5,m6⟩:=q2.go X G;let⟨dTm,F4,d7,m7⟩:=q4.go X G;let⟨dPo,d8,N3,N'⟩:=q6.go X G;let⟨dSt,d',kSt,O'⟩:=q'.go X G;let⟨dBo,F7,P0,e3⟩:=r0.go X G;let⟨dAn,e4,P1,P4⟩:=r2.go X G;let⟨dOp,I,k0,m0⟩:=eh.go X G;let⟨dIn,e5,P7,P8⟩:=r5.go X G;let⟨dLo,e6,Q',R1⟩:=r7.go X G;let⟨dTi,e7,R3,R4⟩:=r'.go X G;let⟨dBu,e8,R5,R6⟩:=s1.go X G;let⟨dCa,e9,R7,R8⟩:=s3.go X G;let⟨dJo,e',R',S0⟩:=s5.go X G;let⟨dWo,J,k6,m1⟩:=s7.go X G;let⟨dNd,F5,f',g0⟩:=s9.go X G;let⟨dBe,g1,S1,S2⟩:=s'.go X G;let⟨dDp,g2,S3,S4⟩:=u1.go X G;let⟨dPf,g4,S5,S6⟩:=u3.go X G;let⟨dCu,L,k1,m2⟩:=u8.go X G;let⟨dHe,F9,g5,g6⟩:=u'.go X G;let⟨dWs,g7,S7,S8⟩:=v7.go X G;let⟨dDa,g8,S9,S'⟩:=v9.go X G;let⟨dFo,g',T0,T1⟩:=w0.go X G;let⟨dEn,F',h0,h1⟩:=w2.go X G;let⟨dFi,h2,T2,T8⟩:=w4.go X G;let⟨dOn,h3,T9,T'⟩:=w6.go X G;let⟨dRu,h4,V0,V1⟩:=w8.go X G;let⟨dCe,h5,V2,V3⟩:=w'.go X G;let⟨dLw,a0,V4,h6⟩:=x1.go X G;let⟨dTu,h7,V5,V6⟩:=x3.go X G;let⟨dWl,h8,kWl,V7⟩:=x5.go X G;let⟨dWd,h',kWd,V8⟩:=x6.go X G;let⟨dWb,i0,kWb,V9⟩:=x7.go X G;let⟨dWf,a1,V',i1⟩:=x8.go X G;let⟨dLp,a2,i2,i3⟩:=x'.go X G;let⟨dKn,i4,W0,W1⟩:=y1.go X G;let⟨dWr,j0,W2,W3⟩:=y3.go X G;let⟨dSe,j1,W4,W5⟩:=y6.go X G;let⟨dDu,j2,W6,W7⟩:=z8.go X G;let⟨dmI,j3,kmI⟩:=H6.go;let⟨dmB,a3,kmB⟩:=H7.go;let⟨dmO,l0,kmO⟩:=H8.go;let⟨dmC,l1,kmC⟩:=H9.go;let⟨dmW,l2,kmW⟩:=H'.go;let⟨dTI,l3,kTI⟩:=I1.go;let⟨dTT,l4,kTT⟩:=I2.go;let⟨dTN,l5,kTN⟩:=I3.go;let⟨dRI,l6,kRI⟩:=I4.go;let⟨dRC,a4,kRC⟩:=I5.go;let⟨dRW,l7,kRW⟩:=I6.go;let⟨dIN,l8,kIN⟩:=I7.go;let⟨dIC,l',kIC⟩:=I'.go;let⟨ocZ,odZ,W8,W9,W',X1,X',Y',slZ,lZ,cZ,kZ⟩:=tZ.2;let FZ:=tR (st:=lV) lZ cZ kZ;let b:=OA X G z2;let f:=OA X G z3;let d:=OA X G S;let O:=OA X G z0;let N:=OA X G y;let n:=OA X G V;let i:=OA X G E;let Q:=OA X G z4;let R:=OA X G z5;let q:=OA X G z1;let n2:=OA X G z6;let r:=OA X G p;let n3:nO K D:=λH=>.inr #[_,_,_,B0,Z,Z,bg,(.cons #[_,Z] (.cons #[_,Z] .nil))];erw[#[rz "law" "law" (bM lV) (a8 lV) (ae lV) .none W8 W9 W' X1 X' Y',λs v=>.of_eq Z,λbase _ _=>?_]];generalize l.prog=P;let g:⇑1 p' _ _ aY:=yR F;let Z':⇑1 p9 _ _ (pi K):=Ds d6 b f;let G2:⇑2 q1 _ _ iY:=rJ F2 #[g,F.b2,k,m];let G3:⇑2 q3 _ _ ff:=uP F3 g F.b2 k m d;let G5:⇑6 q5 _ _ (c8 4):=Ca (P:=P) (w:=w) (base:=base) F4 F4.b3 m7 #[g,F.b2,k,m] #[G2,F2.b1,k4,m5] b 4;let GPo:⇑7 q7 _ _ i5:=yQ d8 #[g,F.b2,k,m] #[G5,F4.b3,d7,m7];let SS:=Hg (P:=P) (w:=w) (base:=base) d' F7 #[g,F.b2,k,m] #[G5,F4.b3,d7,m7] #[GPo,d8.b2,N3,N'] d'.b5 O' F7.b5 e3 b n d;let GBo:⇑21 r1 _ _ (ig 6):=(SS 6).2;let GAn:⇑22 r3 _ _ ph:=Dp e4 #[g,F.b2,k,m] #[G3,F3.b2,k5,m6] #[GBo,F7.b5,P0,e3] b d n f;let G0:⇑2 r4 _ _ ni:=Gj I #[g,F.b2,k,m];let GIn:⇑3 r6 _ _ (dn 2):=uN e5 #[g,F.b2,k,m] #[G0,I.b3,k0,m0];let GLo:⇑3 r8 _ _ (dn 1):=rF e6 #[g,F.b2,k,m] #[G0,I.b3,k0,m0] f n;let GTi:⇑3 s0 _ _ (dn 1):=Zk e7 #[g,F.b2,k,m] #[G0,I.b3,k0,m0] f n;let GBu:⇑4 s2 _ _ me:=yE e8 #[g,F.b2,k,m] #[G0,I.b3,k0,m0] #[G3,F3.b2,k5,m6] #[GLo,e6.b4,Q',R1] #[GTi,e7.b4,R3,R4] #[GIn,e5.b4,P7,P8];let GCa:⇑23 s4 _ _ mf:=yG e9 #[g,F.b2,k,m] #[G2,F2.b1,k4,m5] #[GBu,e8.b1,R5,R6] #[GAn,e4.b3,P1,P4] b n;let NS:=BC (P:=P) (w:=w) (base:=base) A A.b1 M Q i;let G6:⇑7 f0 _ _ (dq 6):=NS 6;let GNc:⇑7 f0 _ _ (pp K):=Dx (fN:=f0) (fdN:=J0) A #[NS 5,A.b1,Y,M] Q i;let GOw:⇑1 n' _ _ nj:=Dy b';let US:=Hu (P:=P) (w:=w) (base:=base) c5 c3 F0 c5.b2 K5 c3.b2 K4 F0.b2 m4 #[GOw,b'.b1,K1,K3] #[G6,A.b1,Y,M] O Q i N;let GUo:⇑31 f1 _ _ (hV 7):=(US 7).2;let GUz:⇑10 f1 _ _ (hV 0):=(US 0).2;let GBi:⇑1 o6 _ _ mW:=Dr c6;let G9:⇑2 o8 _ _ ij:=yJ F6 #[GBi,c6.b1,L0,L1] O;let GDe:⇑1 o' _ _ iV:=yH d0;let GPg:⇑8 f2 _ _ hG:=uQ F1 #[G6,A.b1,Y,M];let GPc:⇑8 f2 _ _ (pq K):=DA F1 #[GNc,A.b1,Y,M];let GPs:⇑11 p2 _ _ iZ:=yN d3 #[GUz,F0.b2,c4,m4];let GmB:⇑63 f9 _ _ (nk a 8):=Li (P:=P) (w:=w) (base:=base) ck a3 l0 l1 l2 a3.b3 b9 l0.b3 H0 l1.b3 H2 l2.b4 H4 #[G9,F6.b1,c9,c'] #[GUo,F0.b2,c4,m4] #[GDe,d0.b1,L3,L4] #[GPg,F1.b1,d1,d2] #[GPs,d3.b2,L5,L6] b n N 8 (Mx _);let GmI:⇑3 f8 _ _ (pj a):=Dv j3 ck #[G9,F6.b1,c9,c'];let GPm:⇑64 p4 _ _ (mq K D):=yL d4 ck mk GmI j3.b2 (O7 X G B1) (O7 X G A') n3 GmB a3.b3 b9 #[GPc,F1.b1,d1,d2] n N;let GMa:⇑65 p6 _ _ (mh K D):=yI d5 #[GPm,d4.b3,L7,L8] n;let GJo:⇑1 s6 _ _ iX:=rE e' (O7 X G v1);let G4:⇑7 s8 _ _ (cR K 6):=xh (P:=P) (w:=w) (base:=base) J J.b2 m1 #[GJo,e'.b3,R',S0] 6;let G1:⇑1 u9 _ _ (iU D):=uI L;let G':⇑2 v6 _ _ (iW D):=rC F9 #[G1,L.b2,k1,m2] q R;let GWs:⇑8 v8 _ _ hX:=rM g7 #[G4,J.b2,k6,m1] n;let GDa:⇑9 v' _ _ (gY D):=rA g8 #[G',F9.b3,g5,g6] #[G1,L.b2,k1,m2] #[G4,J.b2,k6,m1] #[GWs,g7.b2,S7,S8];let GFo:⇑1 w1 _ _ fe:=uK g';let n4:⇑8 w3 _ _ (mY D):=uJ F' #[G1,L.b2,k1,m2] #[G4,J.b2,k6,m1] n n3;let GFi:⇑9 w5 _ _ (gZ D):=Zm h2 #[n4,F'.b3,h0,h1] q R;let GOn:⇑9 w7 _ _ (wu D):=rK h3 #[G1,L.b2,k1,m2] #[G',F9.b3,g5,g6] #[GFo,g'.b1,T0,T1] #[n4,F'.b3,h0,h1];let hxL:clsIn K t≠ζ:=by
  unfold clsIn;rw[B7];intro z;symm;cases z
 let hxD:clsIn K u≠ζ:=by unfold clsIn;rw[B8];intro z;cases z
 let mxL:=O7 X G v2;let mxD:=O7 X G v3;let xmL:XM K mg "TooLong" t:=#[e0,k7,a'.x,t0,mxL];let xmD:XM K mg "TooDeep" u:=#[e1,k8,b0.x,t1,mxD];let n5:⇑1 f3 _ _ mj:=rG F5;let GPf:⇑2 u4 _ _ mj:=rL g4 #[n5,F5.b2,f',g0];let TE:=Eu e2;let hxB:clsIn K B≠ζ:=by unfold clsIn;rw[B9];intro z;cases z
 let GIN:⇑1 T _ _ (ii j "name"):=uM l8 #[k2.x,n0,_,sU o1,Z,Z];let MzN:XC P w K mg base j T _ "NoName":=#[#[#[_,_,_,_,_,_,_,_,_,_,_,_,_,_,_,_,o1,TE],c1,t4,k9],E1,E2,GIN,l8.b2,O7 X G v4,k2.x,t3];let GIC:⇑1 U _ _ (ii o "name"):=uL l' #[k3.x,n1,_,sU o2,Z,Z];let MzC:XC P w K mg base o U _ "NoCount":=#[#[#[_,_,_,_,_,_,_,_,_,_,_,_,_,_,_,_,o2,TE],c2,t6,k'],E6,E7,GIC,l'.b2,O7 X G v5,k3.x,t5];let GNx:ai P w K mg base (eI P w) 3 f3 _ _ (AQ j):=rH F5 MzN;let GBe:ai P w K mg base (eI P w) 4 u0 _ _ (AN j o):=Gb g1 MzC (FI (ai.calm$ n5.mono LO) GNx) F5.b2 f' g0 b;let GDp:ai P w K mg base (eI P w) 1 u2 _ _ (eY u):=rB g2 (O7 X G vD) xmD;let GTI:⇑1 f5 _ _ (mw C):=yU l3 rk;let GTT:ai P w K mg base (eI P w) 1 f6 _ _ (i6 C t):=uR l4 rk xmL;let GTN:⇑1 f7 _ _ (g9 C):=yV l5 rk;let GRI:⇑2 f4 _ _ (mn C):=yM l6 rk GTI l3.b3 (O7 X G vT) tm;let GRC:=Fc (P:=P) (w:=w) (base:=base) rk a4 a4.b4 m3 l7 l7.b3 b7 #[GFi,h2.b2,T2,T8] #[GDa,g8.b3,S9,S'] #[GOn,h3.b2,T9,T'] GTT l4.b1 m9 GTN l5.b2 m' (GDp) g2.b1 S3 S4 #[GPf,g4.b2,S5,S6] n 16;let GRu:ai P w K mg base (eI P w) 45 w9 _ _ (ms t u D j o):=yO h4 rk E8 GRI l6.b4 (O7 X G vR) (GBe) g1.b3 S1 S2 GRC a4.b4 m3;let GCe:⇑3 x0 _ _ iG:=uH h5 #[g,F.b2,k,m] #[G2,F2.b1,k4,m5] d;let GLw:⇑9 x2 _ _ (iu 8):=HR (P:=P) (w:=w) (base:=base) a0 a0.b2 h6 f n2 8;let GTu:⇑1 x4 _ _ dD:=uS h7;let GWf:⇑217 x9 _ _ (ou 15):=iB (P:=P) (w:=w) (base:=base) #[GLw,a0.b2,V4,h6] #[GTu,h7.b2,V5,V6] i0 i0.b5 V9 h8 h8.b5 V7 h' h'.b5 V8 a1 a1.b5 i1 f n q R 15;let n6:⇑218 y0 _ _ wt:=Gg a2 #[GWf,a1.b5,V',i1] q;let GKn:EJ P w K mg base 1 y2 _ _ (pk K (#[j,o,t,u,xS,xR,xT,xW,B]:xt)):=uO i4 r (O7 X G v4) (O7 X G v5) (O7 X G v2) (O7 X G v3) (O7 X G B2) (O7 X G B3) (O7 X G B4) (O7 X G B5);let GWr:⇑46 y5 _ _ (nq D):=yW (c:=(#[j,o,t,u,xS,xR,xT,xW,B]:xt)) j0 (GRu) h4.b5 V0 V1 (GKn) i4.b1 W0 W1 (O7 X G B6) hxB t2 m8 k2 k3 a' b0 n0 n1;let GSe:⇑3 z7 _ _ mv:=yP j1 #[G3,F3.b2,k5,m6] #[g,F.b2,k,m];let GDu:⇑219 z' _ _ mX:=Du j2 #[n6,a2.b5,i2,i3] f;exact Dw FZ #[Z',d6.b2,N1,N2] #[g,F.b2,k,m] #[GCa,e9.b1,R7,R8] #[GCe,h5.b1,V2,V3] #[GSe,j1.b1,W4,W5] #[GMa,d5.b1,L9,L'] #[n6,a2.b5,i2,i3] #[GDu,j2.b5,W6,W7] #[GWr,j0.b5,W2,W3] b n2
def IX{l:rx}{Y:bU->ef->Prop}{d:DefRec}{K:Params->Ω}(e:l.most=δ 63)(H:d.params.defaults=[])
  (g:∀(w:bU) (h:ef),Y w h->(K w.params).In h)
  (F:∀(w:bU) (mg:π->Option η) (b:ε) (h:ef),(K w.params).In h->h.Ns Ξ mg->mg d.name=↑b->
   ∃c:Φ,(∀(s:θ) (u:η),BindsTo s c #[[u],[]] [("_law_script",u)])/\∀base:ef,(K w.params).In base->base.Ns Ξ mg->ai l.prog w (K w.params) mg base aA 220 b c ["_law_script"] (mZ$ K w.params)):
  PySem.W.WalkO q L m Y l.row.toRowW d [] (λf v=>PySem.call f v):=
 _L.AZ (n:=63) (k:=220) (x:="_law_script") (CX:=λ_=>aA) (sp:=λw=>mZ (K w.params)) e LO H #[Z,LO,LO] g F (λ_ _ a N i _ j=>#[a,N,Z,j,i,λ_=>Z]) λ_ _ _ _ _ z=>z
end _K
local macro_rules|`(command|#print $s:str)=>do{let mut l:=Array.mkEmpty 0;let mut n:=0;let mut k:=0;for c in s.getString.toList do{let a:=c.toNat;n:=n*62+(if a<58 then a-48 else if a<91 then a-55 else a-61);k:=k+1;if k%11==0 then{l:=l.push (Lean.mkIdent (.mkSimple s!"tw{n}"));n:=0}};let f:=Lean.mkIdent `PySem.W.Fast;`(command|structure $f:ident:Prop where ($l* :True))}
#print "52Lq0Zv1nKb3Igg6DaKa6DHYrY56QUYSFKMobvZzEiqd0yCldxH0Eb0EBgoU8chnGqBjXvY06ybyVAQMLYGSRJ8j3vz5tfWiUcd1tWSwgv2SI2BoLf9cc0p8sHbkA2Epkow2A7yHO8j8eKv4IaZcszjuir0rHsFgD2kS64nxcViZjzH8EkNdCkxlEVW5T01ocYoQd28h1gSgCtd094NpO8TW7MLPByzrzaWc5it5kizM8XBOYg8TrDEKpTYma2P053xUBz6ALSGefDpe8t8Feyu6agY5E03Fl7GYaw9N2HWe3cN68JBU2MhKCSeLNH41hY7vpTd4BxBkB8gyeyOZHH9AwNcEQ56mAMV90BR4VTR0X0RPBJBtZ45bAKV0bULXM8oY8MmbCUdS5Aa4T4CRsC9EzL6DnbdNo60M1YJ3cS9m16sgrO0zY4Yx7JtLR1D62NPG2ZhFWzrLYXD3kDtulzhpIJ4qy1UdiiyzBFBBPHPnWFDByptKOoHJ1KFKUByTUgc0CDT63CA2dab6AIbmkkbyRst0Z32qkzXWlk3Y5YDgx5A84FqjmqAqlxBvLbA9Rgcevzr1lO2p8qE8Zu5RxKFW9lFoLBvlMNCRpe8V3y0X2u9pvZF6oZd2SmMiWCIsmnDjhIum24EN1MkmbbCJ0CNC7Re4E2L6l4UrAyh73wGDu1MOhlxaB0ilazo5yfbRId5IbLv3SsP78ERFtOK7WC2rtt0dG3Fxs3hQpiBeKH3LH9qSPHTWjCa54l6ZbmZykfEX1giCeHtf9E7zBRXKT6ka01az1ArXrngD0QYk5m2n0n3mqer3W4IafK0lNQbjdPldKmI7dk64U8g0eY0wYyygQ36IlDBs7GvXp8kyBdo74DLO91EIyxSlPhKLHtg45riAMEArYxIjcb6OXKLQaSjSztAn3h7e97T22Q9D1nxVCiE7lK05cvsiFZKZXIOJRVF87c2V40oDfWgIY8N5wzrgkzrA2NIcQ8GVGPfAr29GHSfxtSv37QsyF5uShgD7Ao8oU8dVZAAmXsGIpd6JTKGbLr9TAZ8V2g7Huh0cJXdIrJnreUJjKfEnpvKbBekE1LXU8HSWRVryCM4LloZ1zt6Irg1n6HWkRg0Aoebq1LhsEK05cSuhRXVqBPr8lkdtIdx4blxeuyvTAEFi2GxdppJUeGqVG0IwEWqhIWUtAM01ocmIUCXY7zcA988qqsoklzDNa2HM3G6a0iSdIcv6CdXRjkJ2NtnktHPxz5AU8dxk5K2xvLN5iLVC36mmD3shz5CRzGO1TIsIlu6UNi66Xa4ufLvUjLL9PvPNvnNT58w7gMbT6BVJRuNWsigRBoJyNHQG0LRrcHBiQ1hSL1AS75LF7FEhIjeBjogZJ5vRf8Br6jGV14jsoIYEhydjfT1GJOCUxCt3DW16ornn1WSlRR5OZHZwv2shL0PRTRBWoUofAC2dPqXMkFb3Fy1FyRKT0qCZ8MxR4WjQ65AgALmjjbjN34ynZEt19pq4gQC7fnqkgU3RE1qL0sHIW6aEs8Bv0wACKEHS3cNMfm8FAl6MlZX9Yi1J9z8Nb17XhH3goZcKnxMGC0mkqCNWorK4oQQ04DFMX89JOOt7E59t13Zjrsr5pyUdBkqby1k4XE6DrJGp6ATwdALQPlfLgXR4hClDyWEFl12Y5JuDbZOFr7IKGLrJFn5ih11es3k7wmxw99Ej2WiLYDfG6cLsCmPxjlT4jjfp77mkAN2efv9gTbO7uGXbJebGVrtpGzIYIOKV1BILN97XFAY95r5eE4P31IjjT3mK1zrxHBs04MISqnDJ89H1T84wR1uppsLwaptZ1Rm475yWtRS4kuHnAh4pePm4CEN1bFq6bywOr16rNLkIqxSBnJZfa9nB2DBV11UKvhWpVq77BvyNvtkDNLHWCZCp9JXFeJzrUqHYItGF8hVUtu7trqf9yTfymlPO0XBy377nzq51CAZYULTmO9FtIFuuIOu9pBuHLqlZCcQOqPAtUP0MWOYaF7H87jnwsr0RElXQpC3m34cIbmjTNoiPvWIt457YHVEK77D95inTTMLs9Fy3Z2YyRWN00b7IFtSZvxHa4nqI2aEu7DXMa9tWTFLo7jx5UHVOjRjBodRUsbzToz18rNM4OQCc01DLap8liWy5GXqGmqZyjfEDv5bVIZPa0u7SPTK7DGFvS2QmRqQoexr6Hw10S8kITtv68Kai3rhAGVCLGHvUhscuxAp5zcEbzSlyJ5nzPVr5ooRAoQQMy0uhwH9VEWIfWhXjhLM1pnHYrYcpJFODgVihh0FDXQ7ncCOgu49u2mw0N48e4GJUhPH7ykLNFQ5MSIq52eg5Jkb63ATADRDw2vZlhsQDG8lkmkDaNNAE98PPUm7KzTx7Nn8T64tSsFGjbfyUXg4xH8U1jQIHIrEk8gBEWui6Bo65kgbDlvKmePHvTkuyfbsdP0sYT4RwpzluLsvNZ9nMZeWFKtGMpMb0EpC9U4cQPYp7oI29fZQM3xYQ2bDEEpx0hKj2LtpJjy9x8jFvDLpXlqbJu36le0Seji0k2HG1jGPh4Q95LHsIvthOix9mKrgT64ILW11LEpG9Z3jt7sQ1Rzs4E2VJrp4GWoja189V2zYcOXSAW8HkKclNbQjrLBGsszBUm5366NKhwuW4J2J3NUbOpHS7SLkOYAAO9Hc90qmqawjtgRUEZx9eQ4Va6UCD6rJDQgekGKuZI60OvV74JIbRJQL91m091DKSAFIb86ILnrqDMyxcuGGbqztiqIu3AVDQ4bJGaeh7NSGxB4g6uIJEGxtnQSN4v6l7iOqzIHVi518pTrsrb1s9aMAgP60c9L56SV8JFOqsZHNpST88PekN3O2LcchEjAz4uNW46Ju93pDubrRoxnxuPGRAIqeMVcMzEjvSuO2DDdzCFCkpDKUlzZ5O60pSzKrEq1REkZwybUjR36sJicvfOW03vbLr1yiCh2D3F722AAwDrCRsCqtzqSO51sHKmNhqQhJ3nL3tfhum9j3YvbsRqFb4d6HlOVA5Wc93KPt5m7ZZimi4AYkkcygSBV4HbZimEOu2tJ43KLwmQY6zAR8CyONHWf954Miup991OKFNArjm1uuLmF7ngjyonwcP7HJSWDZ3ssBImYx0rUTMlgKvQUF82FvCZ2grbdtcPGeZ9DzMqBtdl7NGUQnGEPa6jHJP6yMwaTyuyKuj6ioKx2vEGh2X9pv7w753wOLXJYraSc5EOwx4klu9QDJav34cTxRJAHxYXUYf0aX11Aiv6RaejPF2Lua69BEPm5OeribMDE8UKXAMVBQwnit9kwE17YWxXQAmkqE6HGn6fA1s88BlwuV80LAz8wZKd7HHnSKcYmf2BiEjhfRQ6wU5z8wK6fbyPzsCJhZ1cfsQaHW4K4m6XLpGroKVtscDIxiL26tDD8hkn5gW4ufmO5BZlUsIzzYVyyqPfkBilAXIV1eADHBtPJuAM2PV5pVPXOzSEUU4CS9tdrh4n7Bkn0sCp94qX1cpmnOJBc8IK2ybQvQSdXZKiHN22JziSqGa2umiUmzsX0y92BLUeuZbClbMmNz4QgQG0aml4YvLtZJHN4AcEADjmBKUrf5GBhvW6oI7sBN2V6VAYFDlmFQ1GoBZNM6KxMCaOGGHYVyM6GaMIrhQYiA21nm9OvQtZkDM3l2TbKHr86uk0DHxum8DvpF14KAIRjrw4PL0QZPVbsEym38BlT7AqHc5D6Gcg7bqLoAy2gqNmfUJzpB6reHm5ZZ9pgHkhkNVkXD9e5MxdRu7EIp54hfzyQ2le1S4Artht8L9c0EVmOhpgoFpQ1jVr0vrNOi6ETt5gxZeuM9FGjowH28F09CL7J8QRVmN12PtI0LLJKzP7GUDkhvh94mIiSoTj1wQfu9qVBi789SbXJzmlOh7diUK3YGq1IUbms457AU9n9osmdLGYc2v8Ui8E5BItzi8iOV098IOTZISL4tL0cZqPni7iU342eumGfFwxKcA0AQgBwcV8u9WOcZ30MG8LQJTMpGRYdIZ8304GliGn7RBIOLpCK05A1mtZPgM5x3CtvDKpHccZ3ITKdmzr6RqAJ18WDDpGoYwIN75qSj2yim6Jr8oZtuggB2iAKykps3xPCRQ9PHSuWGRCiPanuQ2pvg5T7fgykyIY7ISvwCDTceQsGqa3eiTEyEgCKrfRDlBDiD0uFkmxcy8199egzSUswwxhJjzbbctRCDdH6YU7xdCSbRFD6cG01JK7eEGZmVvklpw2BP0aTSZRSJP78Y8qSj6d7LLC9fG9wUudtH0ePAckuumt41y7ObTy72C4EY6o3nPq4VKMcdr5tgNlC60BACdVKOynGOXs5p7JNqC5txukMj7nn8AYwuequw3su6qdGny0QUO3BPgmy09Vz3DDxw16T8cqaq9pnWt2s59mF5x2Q6WMJyJ5KQjumnVCY4P5IyoKRmFLJy"
open PySem PySem.W PyProof.Rows PySem.W.X
def _K.Hv {q : ψ} {loose : List PySem.Str} {XP : (PySem.Str → Option η) → ef → Prop} {K : Params → Ω} {as : List ε} {n t : Nat} {r : RowW} {d : DefRec} {kwd : List (PySem.Str × PySem.Expr)} {run : η → List η → Sem η}
    (e : ∀ P, as = (K P).map (·.1)) (h : WalkO q loose XP (InK K) r d kwd run) : WalkX q loose XP (obsZ as) (valZ K n t) r d kwd run :=
  fun w s₀ s₁ mg mb G Y a o pm cd doc dV kV h1 h2 h3 h4 h5 h6 args vals as' L => h w s₀ s₁ mg mb G (InK.keeps w _ _ (z_facts e Y).2.1 L.keeps) a o pm cd doc dV kV h1 h2 h3 h4 h5 h6 args vals as'
set_option maxRecDepth 100000 in
set_option maxHeartbeats 0 in
theorem PySem.Challenge.cw_againbook_k24_runs_refused_holds : PySem.Challenge.rw_againbook_k24_runs_refused.Holds := by
  w_on; o_law; z_head; (case hw => w_witness2)
  erw[_K.Hv (fun _ => by rfl)$ _K.IX (l := PySem.Challenge.rw_againbook_k24_runs_refused) rfl rfl (fun w h Y => Y) ?F]
  case F =>
    intro w mg fa h KX G hmg
    apply _K.Cq KX G hmg
    iterate 55 (apply _K.IV;iterate 4 k_is)
    iterate 43 k_is
    iterate 3 k_exc
    iterate 4 (constructor;(constructor<;>k_is);(iterate 8 kit_is);k_is)
    erw[⟨⟨?_,?_,?_,?_⟩,?_,?_,?_,?_,?_⟩];iterate 4 k_is
    iterate 5 (unfold _L.aW;k_is)
    iterate 2 (constructor;iterate 4 k_is)
    iterate 4 (constructor;iterate 3 k_is)
    erw[⟨⟨?_,?_,?_,?_⟩,?_,?_⟩];iterate 4 k_is
    iterate 2 (unfold _L.aW;k_is)
    constructor;iterate 4 k_is
    iterate 4 (constructor;iterate 3 k_is)
    iterate 13 (apply _K.Lg;iterate 3 k_is)
    iterate 12 k_is
