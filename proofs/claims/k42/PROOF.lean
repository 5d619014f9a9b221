import PyProof.Rows.All
import Wide.All
import OpenK.AllK
import Wide.FinOn
import Lean
import PyProof.EqAt
import PyProof.EqKinds
import PyProof.TupleCall
import PySem.Challenge.RW_againbook_k42_again_refused
set_option Elab.async false
set_option linter.all false
set_option maxRecDepth 100000
set_option genSizeOf false
set_option compiler.extract_closed false
set_option bootstrap.genMatcherCode false
open Option renaming some->δ,none->θ,map_eq_some_iff->dt,isSome_iff_exists->ly
open List renaming toArray->ε,getElem?_eq_some_iff->ξ,mem_singleton->τ,mem_cons->Ξ,mem_append->γ,mem_map->dw,range->fr,lookup->gN,mem_append_right->gW,mem_iff_getElem->hJ,getElem?_eq_getElem->ib,replicate->ic,mem_append_left->ks,nodup_cons->mF,cons->pz,mem_range->rb
open PySem renaming Value->ζ,Addr->η,Shared->ι,wpAny->π,Str->ρ,sizeLine->υ,model->χ,Program->ψ,mainGlobals->Δ,starEach->Θ,Around->bS,World->bU,Stmt->cv,Heap->cJ,strKind->de,Expr->dr,Builtin->ea,backTo->fx,FuncData->fy,Obj->ge,Scope->hG,codeAny->hY,holding->iv,sizeLine->kz,Env->rc
open Bool renaming false->μ,true->ν,eq_false_iff->im
open PySem.Value renaming ref->ω,none->Ψ,type->eT,int->hL,str->kw,bool->mS
open Or renaming inl->Φ,inr->gL
open PySem.Builtin.SmallTypes renaming nextOf->Ω,ownedTupleIsFree->bF,ownedTupleHandOut->lq
open PySem.W renaming Frag->β,keepIn->fz,methodObj->mT,takerIn->pk,OpenLaw->pp,fnOf->qs
open PySem.Obj renaming mapSeq->ab,mapFields->gb,putSet->lu
open Array renaming getElem?_eq_some_iff->bm,toList->mu
open PySem.Builtin.Tuple renaming tupleExact->ef,tupleItemsOf->nz
open PySem.Builtin.List renaming listSameRef->ey,listTooLong->fJ,listExtendWith->gs,listLengthHint->ir,listSubscript?->nI,listAllItems->oS
open PySem.Heap renaming SameBut->fv,ExtBut->mL
open PySem.Builtin.Slice renaming slicePlaces->gR,sliceAdjust->js,sliceApplied->mU
open PySem.F renaming slot_zip_getattribute->iu,called_tuple->mI
local macro_rules|`(tactic|let $d:letDecl)=>`(tactic|have $d:letDecl)
local macro_rules|`(↑$a)=>`(some (.ref $a))
local macro_rules|`(tactic|let ⟨$x,*⟩:=$t)=>do{let y←x.getElems.mapM fun|`($i:ident)=>`(Lean.Parser.Tactic.rcasesPatLo|$i:ident)|_=>`(Lean.Parser.Tactic.rcasesPatLo|_);`(tactic|obtain ⟨$y,*⟩:=$t)}
theorem lN:0≤kz:=by decide
theorem i8:1≤kz:=by decide
theorem bL:2≤kz:=by decide
theorem fq:3≤kz:=by decide
theorem su:4≤kz:=by decide
set_option maxHeartbeats 4000000
open PySem.W (keepIn Frag nsIn kitOne fnOf mg_of codeIn findIn mroIn isFn mg_none_of kia_one typeIn emptyDict clsIn instObj hasDictIn kitAny specialIn callWith_K excIn lookIn plainGet notCls tailIn)
noncomputable section
theorem UJ{p:Prop}(h:p:=by decide):p:=h
theorem UK{p:Prop}(h:p:=by omega):p:=h
theorem UL{p:Prop}(h:p:=by simp):p:=h
theorem UM{p:Prop}(h:p:=by decide +kernel):p:=h
theorem UN{p:Prop}(h:p:=by rfl):p:=h
theorem Z{α:Sort u}{a:α}:a=a:=rfl
open PySem renaming wpAny_bind->Lr,wpAny_pure->Lu,wpAny_holding->LI,wpAny_field->LY,wpAny_call_entry->Mg,wpAny_callSpecial?_slot->Mj,wpAny_newObj_type->Mm,wpAny_mono->Mp,builtinLookup_eq_fast->Mq,wpAny_setField->Ms,wpAny_Call_Name_kw->Mt,wpAny_seqItems->Mz,boot_len->ME,typeLookup_type->MW,codeAny_builtin->MX,mem_of_lookup->M0,isSubtype_type->Nb,wpAny_setState_of->Nc,wpAny_specialOf->Ng,wpAny_rule->Nh,wpAny_typeOf->Nn,wpAny_standAt->Nw,wpAny_attempt->Nx,plainId_quiet->Ny,wpAny_isInstance->Nz,sizeLine_eq->NE,wpAny_setField_rec->NH,codeAny_mono->NJ,wpAny_passesOwn->NK,wpAny_askSetting->NW,wpAny_setEntries_of->N4,wpAny_newList->N6,wpAny_execs_nil->N7,wpAny_pyIter_tuple->N8,wpAny_newTuple->Oc,wpAny_call->OA,wpAny_bindName->OB,tupleKind_room_in1->OD,wpAny_truthy_bool->OS,wpAny_pyIter_list->OT,wpAny_of_eq->OU,fits_of_scanBound->OX,entryFor_of_tree->Pb,wpAny_updateSeq->Ph,wpAny_loadPart->Pn,wpAny_fieldsOf->Po,isSubtype_stop->Pq,entryFor_alias->Pr,wpAny_onRaise->PQ,call_meets->PY,wpAny_sequenceKey->P8,wpAny_pyIter_slot->P9,wpAny_execs_cons->Rl,noFill_tuple_add->Rm,codeAny_of_tree->RE,wpAny_runValue->RO,wpAny_newFunctionEnv_cells->RP,wpAny_listPart->RQ,wpAny_comprehension_free->R6,seq_tuple_add->Sa,wpAny_unpackItems_tuple->Sf,wpAny_pyNext_list_item->Su,seqIndex_neg->Sw,concat_meets->Sy,callType_new->SA,wpAny_pyNext_list_end->SJ,wpAny_isTrue_Compare1->SK,codeAny_call_function->SM,wpAny_updateSeq_pair->SV,wpAny_loadName_local->SW,wpAny_letGo->SX,seqIndex_of->SY,codeAny_extend_loopS->S0,codeAny_call_builtin->S3,wpAny_loadName_cell->Tg,wpAny_load->Tu,wpAny_Name->Tv,wpAny_storeSet_of->Tx,wpAny_pyIter_enum->Tz,wpAny_assign_Name->TB,wpAny_Assign_Name->TC,slot_list_setitem->TF,merged_length_le->TR,exec_Assign_arm->Ua,callType_codes->UA
open List renaming getElem?_eq_getElem->Ls,length_map->Lw,length_append->Ly,size_toArray->LA,getElem?_map->LK,mem_cons_self->LN,mem_append_right->LQ,mem_of_getElem?->LS,mem_cons_of_mem->LW,not_mem_nil->Ma,length_take->Mb,map_append->Mc,length_cons->Md,getD_eq_getElem?_getD->Mw,mem_of_mem_take->MD,take_length->MG,lookup_cons->MH,getElem?_eq_none->MM,take_of_length_le->MP,map_cons->MU,mem_append_left->MV,take_add_one->M1,mem_cons->M8,getElem?_set_ne->Na,getElem?_set_self->Nf,length_drop->Nj,getElem?_append_right->Nl,getElem?_append_left->Nq,take_sublist->Nr,map_map->Nt,forIn_cons->NC,length_singleton->NF,take_succ->NM,mem_append->NZ,find?_cons->N0,getElem?_reverse->Oa,getElem_mem->Ob,of_mem_zip->Og,forIn_nil->Oo,reverse_cons->Ot,length_range->Ou,map_take->Ox,append_cancel_right->Oy,any_cons->Oz,all_eq_true->OH,getElem_cons_drop->OY,length_set->O3,take_append_drop->O8,length_replicate->O9,length_filter_le->Pa,nodup_nil->Pe,filterMap_cons->Pk,mem_singleton->Pm,map_nil->Py,getElem?_inj->Pz,append_assoc->PH,eraseIdx_eq_take_drop_succ->PM,ext_getElem->PV,length_zip->P0,length_nil->P5,append_nil->P6,length_eraseIdx_of_lt->Rj,getElem?_zip_eq_some->Rp,drop_eq_getElem_cons->Rq,all_cons->Rz,getElem?_replicate->RF,append_cancel_left->RG,mem_of_mem_drop->R4,length_reverse->Sd,getElem?_drop->Sm,forIn_toArray->Sn,filter_append->So,any_eq_false->SE,zipIdx_cons->SO,append_inj'->SQ,any_eq_true->SR,zipIdx_nil->Tb,nodup_cons->Tc,mem_filter->Td,take_take->Tj,drop_zero->Tk,map_drop->Tw,map_set->TK
open PySem.Heap renaming get?_push_of_some->Lv,lt_size->Lz,get?_push_size->LB,get?_update_other->LO,get?_update_self->Mi,size_push->Mr,size_update->PX,get?_update_ne->Se
open Nat renaming le_refl->Lx,ne_of_lt->LC,zero_le->LF,lt_of_lt_of_le->LH,le_trans->LJ,ne_of_gt->Mv,lt_irrefl->ML,lt_succ_self->MQ,le_succ->MZ,succ_le_succ->M6,lt_of_le_of_lt->M7,lt_succ_of_lt->Nu,le_of_lt->NA,min_eq_left->ND,le_add_right->NQ,not_lt_zero->Oi,le_of_not_lt->ON,le_max_right->OP,zero_add->O0,sub_self->O1,lt_or_ge->O2,min_le_left->O6,le_max_left->O7,sub_zero->PJ,le_of_eq->PL,add_sub_cancel'->Sj,add_le_add_left->Sl,lt_of_succ_lt->SN,le_add_left->Th,max_assoc->TH,mod_lt->UF
open Bool renaming false_ne_true->LD,false_eq_true->LG,and_eq_true->MJ,not_true->Od,eq_iff_iff->O4,and_false->Pf,or_false->RB,not_eq_true'->SH,eq_false_iff->SI,false_and->Tt,true_or->TQ
open PySem.F renaming plainAttrs_list->LM,type_list_append->LZ,slot_list_append->L9,slot_tuple_iterator_next->MK,slot_zip_next->MS,type_list_extend->NO,slot_list_extend->NP,args_tuple_iterator_next_1->NR,plain_list_iadd->NT,args_zip_next_1->NV,entry_tuple_iterator_next->NY,entry_zip_next->N5,args_object_init_2->Oh,args_tuple_add_2->Op,entry_tuple_add->Oq,slot_tuple_add->OF,plainAttrs_str->OG,type_str_join->OK,slot_str_join->OL,slot_dict_get->OM,plain_proto_collect->PR,entry_proto_collect->PU,plain_extend_loop->PZ,plain_tuple_new->Rg,entry_list_iadd->Rh,args_dict_get_3->Ri,entry_dict_get->Ro,slot_set_iter->Rx,plain_set_new->Ry,args_list_extend_2->SG,entry_list_extend->SU,slot_list_extend->Te
open Array renaming length_toList->LU,getElem?_toList->M4,getElem?_eq_getElem->Np,getElem?_eq_none->OR,size_append->Pw,toList_push->Ss,size_map->Tf
open PySem.Obj renaming data_mapFields->Mf,isFreed_of_fields->MN,cls_mapFields->N9
open Option.some renaming inj->Mh
open PySem.PassesOwn renaming never->Ml,leaving->RJ
open PyProof.Rows renaming callWith_type1->Mn,boot_tuple->Ni,slot_tuple_getitem->No,boot_isinstance->Nv,listUpdate_at->Ol,seqEpoch_at->OV,entry_list_sort->Pj,slot_list_sort->Pp,boot_sorted->Pt,args_list_sort->Pu,plain_sorted->P',entry_sorted->Ra,args_sorted1->Rb,kind_sorted->Rt,list_sort_plain->RC,get?_update_seq->RD,size_push'->RS,Subscript_->RT,boot_reversed->Sb,subscriptTail_builtinR->Sv,listItems_at->Sx,collect_list->Sz,boot_int->Ta,boot_dict->TU,tupleItemsOf_->Ur,iadd_int->Us,entry_tuple_getitem->Ut,callWith_builtin1->Uu,boot_zip->Uv,boot_enumerate->Uw,boot_dict->Ux,args_tuple_getitem->Uy,slicePart_none->Uz,boot_str->UB,boot_set->UC
open Int renaming emod_lt_of_pos->Mo,toNat_natCast->Mx,emod_nonneg->MF,eq_ofNat_of_zero_le->RL,toNat_of_nonneg->Sq,ediv_nonneg->Tp
open PySem.Around renaming under_plainId->My,frames_deeper->RN
open PySem.W renaming mg_none_of->M3,mg_of->Oe,kia_one->Om,cellsFrom_some->OE,methodCall_KW->OJ,plainGet_of->Pd,callWith_K->Pg,looks_mroIn->Rs,callWith_K0->RI,codeRec_of->RU,kitx_list->RX,kitx_dict->RY,any_some->UD
open PySem.AutoSeq1 renaming wpAny_loadPart'->M5
open PySem.Heap.SameBut renaming update->M9,refl->Rr
open PySem.Calls renaming spliced_cons->Nk,spliced_nil->NG,call_function_entry->NN,callWith_builtin->OQ,Name_function_global->Rc,evalArgs_plain->RW
open PyProof.Rows.F renaming plain_set_update_loop->NB,entry_set_update_loop->Ov
open PySem.Value renaming isStrOf_shape->Of
open PySem.W.KFB renaming if_not->OZ,if_so->UE
open Option renaming getD_none->Px,isNone_some->RZ,isNone_none->R0,isSome_map->Sc,bind_some->Si
open PySem.Heap.IsSliceOf renaming new->P7
open PySem.SeqAt.EqAt renaming str_int->Ru,int_str->Rv,tuple_int->Ts,str_str->TM,int_int->TN
open PySem.Heap.DictOf renaming new->RM
open PySem.IsL renaming isList->RV
open Eq renaming trans->Sr
open StateT renaming run_pure->SD
open PyProof.Rows.IsTup renaming new->SF
open PySem.W.Looks renaming of_pure->Ti,here->TW,ld->UG
open PySem.ItemsOf renaming nil->To
open PySem.Meets renaming of_wp->TJ
open PySem.EqMixed renaming ne_str_int->TX,ne_str_bool->TY,ne_int_str->TZ,ne_bool_str->T3,eq_str_int->T5,eq_str_bool->T6,eq_int_str->T7,eq_bool_str->T8
open PySem.Within renaming cons->Ub
open PySem.EqNone renaming ne_str_none->Uc,ne_none_str->Ud,ne_none_none->Ue,ne_none_int->Uf,ne_none_bool->Ug,ne_int_none->Uh,ne_bool_none->Ui,eq_str_none->Uj,eq_none_str->Uk,eq_none_none->Ul,eq_none_int->Um,eq_none_bool->Uo,eq_int_none->Up,eq_bool_none->Uq
def LL:=@decide_eq_false
def LP:=@if_pos
def LV:=@if_neg
def LX:=@decide_eq_true
def Me:=@Ne.symm
def Mu:=@of_decide_eq_true
def MO:=@congrArg
def MT:=@if_false
def MY:=@bne_self_eq_false
def Oj:=@or_false
def On:=@if_true
def O5:=@of_decide_eq_false
def Pl:=@beq_self_eq_true
def Rk:=@Iff.rfl
def Tq:=@PySem.Heap.IsTupleIter.at
def UH:=@PySem.Heap.IsList.at
local macro_rules|`(#[$x,*])=>`(⟨$x,*⟩)
local macro_rules|`(tactic|omega)=>`(tactic|lia)
namespace _L
open PySem PySem.Spec PyProof.Rows
abbrev bM:=Sum Int ρ
noncomputable def lE:bM->ζ->Bool
 | .inl k,v=>Value.isInt k v
 | .inr x,v=>Value.isStrOf x v
noncomputable def HW(w:bU):bM->Int
 | .inl k=>hashInt k
 | .inr x=>hashStr w x
theorem jZ:∀{k:bM} {v:ζ},lE k v=ν->(∃i t,k=Sum.inl i/\v=hL i t)∨(∃x t,k=Sum.inr x/\v=kw x t)
 | .inl i,v,h=>by let⟨t,e⟩:=Value.isInt_shape (k:=i) (v:=v) h;exact .inl #[i,t,Z,e]
 | .inr x,v,h=>by let⟨t,e⟩:=Of (x:=x) (v:=v) h;exact .inr #[x,t,Z,e]
theorem ZO(i:Int)(t:Tok):lE (.inl i) (.int i t)=ν:=by simp [lE,Value.isInt]
theorem ZP(x:ρ)(t:Tok):lE (.inr x) (.str x t)=ν:=by simp [lE,Value.isStrOf]
theorem Cz(a b:Int):decide ((Sum.inl a:bM)=Sum.inl b)=(a==b):=by
 by_cases e:a=b
 .subst e;simp
 .let h:¬(Sum.inl a:bM)=Sum.inl b:=λq=>e (Sum.inl.inj q);rw[LL h];exact(beq_eq_false_iff_ne.mpr e).symm
theorem CC(a b:ρ):decide ((Sum.inr a:bM)=Sum.inr b)=decide (a=b):=by
 by_cases e:a=b
 .subst e;simp
 .let h:¬(Sum.inr a:bM)=Sum.inr b:=λq=>e (Sum.inr.inj q);rw[LL h,LL e]
theorem CA(a:Int)(b:ρ):decide ((Sum.inl a:bM)=Sum.inr b)=μ:=LL (λq=>nomatch q)
theorem CB(a:ρ)(b:Int):decide ((Sum.inr a:bM)=Sum.inl b)=μ:=LL (λq=>nomatch q)
noncomputable def a5(p:ψ)(w:bU):PySem.KeyKind p w bM where
 is:=lE
 hash:=HW w
 inj:=λv a b d c=>by
  rcases jZ d with ⟨i,t,rfl,rfl⟩ | ⟨x,t,rfl,rfl⟩
  .rcases jZ c with ⟨j,u,rfl,e⟩ | ⟨y,u,rfl,e⟩
   .injection e with E _;rw[E]
   .exact nomatch e
  .rcases jZ c with ⟨j,u,rfl,e⟩ | ⟨y,u,rfl,e⟩
   .exact nomatch e
   .injection e with E _;rw[E]
 byValue:=λk v h=>by rcases jZ h with ⟨i,t,rfl,rfl⟩ | ⟨x,t,rfl,rfl⟩<;>rfl
 pyHash:=λH h=>by
  rcases jZ H with ⟨i,t,rfl,rfl⟩ | ⟨x,t,rfl,rfl⟩
  .exact wpAny_pyHash_int h
  .exact wpAny_pyHash_str h
 eqBool:=λf H h=>by
  rcases jZ f with ⟨i,t,rfl,rfl⟩ | ⟨x,t,rfl,rfl⟩
  .rcases jZ H with ⟨j,u,rfl,rfl⟩ | ⟨y,u,rfl,rfl⟩
   .rw[Cz]at h;exact wpAny_eqBool_int h
   .rw[CA]at h;exact Rv i t y u _ _ _ _ h
  .rcases jZ H with ⟨j,u,rfl,rfl⟩ | ⟨y,u,rfl,rfl⟩
   .rw[CB]at h;exact Ru x t j u _ _ _ _ h
   .rw[CC]at h;exact wpAny_eqBool_str h
 «strs»:=λk x t v h=>by
  rcases jZ h with ⟨i,u,rfl,e⟩ | ⟨y,u,rfl,e⟩
  .exact nomatch e
  .injection e with E _;subst E;cases v<;>rfl
theorem XS(p:ψ)(w:bU)(i:Int)(t:Tok):(a5 p w).is (.inl i) (.int i t)=ν:=ZO i t
theorem XT(p:ψ)(w:bU)(x:ρ)(t:Tok):(a5 p w).is (.inr x) (.str x t)=ν:=ZP x t
end _L
namespace _L
open PySem PySem.Spec PyProof.Rows
inductive V where
 |non |bl (b:Bool) |int (i:Int) |str (x:ρ) |byt (b:Array UInt8) |flt (b:UInt64) |ref (a:η) |ty (n:String)
 deriving DecidableEq
set_option genInjectivity false
def aF:V->ζ->Prop
 | .non,u=>u=Ψ
 | .bl b,u=>u=mS b
 | .int i,u=>∃t,u=hL i t
 | .str x,u=>∃t,u=kw x t
 | .byt b,u=>∃t,u=Value.bytes b t
 | .flt b,u=>∃t,u=Value.float b t
 | .ref a,u=>u=ω a
 | .ty n,u=>u=eT n
abbrev ax:List V->List ζ->Prop:=Paired aF
theorem ax.length(r:ax x u):x.length=u.length:=Paired.length r
theorem ax.get:∀{X:List V} {U:List ζ} {i:Nat} {x:V},ax X U->X[i]?=δ x->∃u,U[i]?=δ u/\aF x u
 |_,_,_,_,.nil,e=>by simp at e
 |_,_,0,_,.cons r _,e=>by simp at e;subst e;exact#[_,Z,r]
 |_,_,i+1,x,.cons _ t,e=>by let⟨u,h,H⟩:=ax.get (i:=i) (x:=x) t (by simpa using e);exact#[u,by simpa using h,H]
theorem ax.set(r:aF x u):∀{X:List V} {U:List ζ} (i:Nat),ax X U->ax (X.set i x) (U.set i u)
 |_,_,_,.nil=>.nil
 |_,_,0,.cons _ t=>.cons r t
 |_,_,i+1,.cons q t=>.cons q (ax.set r i t)
theorem ax.append:∀{x y:List V} {u w:List ζ},ax x u->ax y w->ax (x++y) (u++w)
 |_,_,_,_,.nil,s=>s
 |_,_,_,_,.cons r t,s=>.cons r (ax.append t s)
theorem ax.take:∀{x:List V} {u:List ζ} (n:Nat),ax x u->ax (x.take n) (u.take n)
 |_,_,0,_=>.nil
 |_,_,_+1,.nil=>.nil
 |_,_,n+1,.cons r t=>.cons r (ax.take n t)
theorem ax.drop:∀{x:List V} {u:List ζ} (n:Nat),ax x u->ax (x.drop n) (u.drop n)
 |_,_,0,r=>r
 |_,_,_+1,.nil=>.nil
 |_,_,n+1,.cons _ t=>ax.drop n t
def dQ:Option V->Option ζ->Prop
 |some v,δ u=>aF v u
 |none,θ=>True
 |_,_=>False
def KV{a:Type}:List (a×V)->List (a×ζ)->Prop:=Paired λ(p:a×V) (q:a×ζ)=>p.1=q.1/\aF p.2 q.2
noncomputable def kV:bM->V
 | .inl i=>.int i
 | .inr x=>.str x
inductive HO where
 |lst (xs:List V)
 |tup (xs:List V)
 |dK (kvs:List (bM×V)) |dT (kvs:List (List bM×V))
 |set (S:Int->Bool) (n:Nat)
 |ins (C dx:η) (fs:List (ρ×V))
 |own (x:η)
 |xd (fs:List (ρ×V))
 |met (f x:η)
 |rng (lo hi:Int)
 |frz (o:ge) (u:HO)
 |tbl (ps:Array ζ)
 |ext (φ:cJ->Prop)
abbrev Hp:=η->Option HO
noncomputable def af(H:Hp)(a:η)(o:HO):Hp:=λb=>if b=a then δ o else H b
theorem jc:af H a o a=δ o:=by unfold af;rw[LP Z]
theorem ji(h:b≠a):af H a o b=H b:=by unfold af;rw[LV h]
theorem jO{H:Hp}(h:H a=δ o)(c:H b=δ u)(d:o≠u):a≠b:=by intro e;subst e;rw[h]at c;exact d (Mh c)
theorem jl{H:Hp}(h:H a=δ o)(c:H b=θ):a≠b:=by intro e;subst e;rw[h]at c;cases c
section
variable (P:ψ)(w:bU)
def aM(H:Hp)(h:cJ)(a:η):HO->Prop
 | .lst X=>X.length<=υ/\∃(i:List ζ) (n:Nat),ax X i/\h.get? a=δ { cls:=.type "list",data:=.seq i.toArray n }
 | .tup X=>X.length<=υ/\∃i:List ζ,ax X i/\IsTup h a i.toArray
 | .dK k=>k.length<=υ/\(a==sysModules)=μ/\∃c,KV k c/\h.DictOf (a5 P w) a c
 | .dT k=>k.length<=υ/\(a==sysModules)=μ/\∃X:List (List bM×η×ζ),
   Paired (λ(p:List bM×V) (q:List bM×η×ζ)=>p.1=q.1/\H q.2.1=δ (.tup$ p.1.map kV)/\aF p.2 q.2.2) k X/\
   ∃o e E,h.get? a=δ o/\o.ExactDict/\o.data= .dict e E/\e.toList=X.map (entryOfKey$ tupleKind$ a5 P w)/\(X.map (·.1)).Nodup
 | .set S n=>h.SetOf (intKind P w) a S n
 | .ins C d F=>H d=δ (.own a)/\F.length<=1000/\d≠a/\h.get? a=δ (instObj C d)/\
   ∃m,h.Ns1 d m/\(∀f,dQ (F.lookup f)$ m f)/\PySem.Within m (F.map (·.1))
 | .own _=>∃o,h.get? a=δ o
 | .xd F=>∃m,h.Ns1 a m/\∀f,dQ (F.lookup f) (m f)
 | .rng lo l=>∃t u v,h.get? a=δ { cls:=.type "range",data:=.fields (ε [.int lo t,.int l u,.int 1 v]) }
 | .frz o u=>h.get? a=δ o/\aM H h a u
 | .tbl r=>h.get? a=δ { cls:=.none,data:=.fields r }
 | .met f x=>h.get? a=δ (mT (.ref f) (.ref x))
 | .ext b=>b h/\(∃o,h.get? a=δ o)/\∀g j:cJ,b g->(∀o,g.get? a=δ o->j.get? a=δ o)->b j
def eV(H:Hp)(h:cJ):Prop:=∀a o,H a=δ o->aM P w H h a o
end
section
variable {P:ψ}{w:bU}{H H':Hp}{h h':cJ}{a:η}{o:HO}
theorem aM.lt(x:aM P w H h a o):a < h.objs.size:=by
 cases o with
 |lst X=>let⟨_,_,_,_,e⟩:=x;exact Lz e
 |tup X=>let⟨_,_,_,p⟩:=x;exact p.lt
 |dK k=>let⟨_,_,_,_,o,_,_,e,_⟩:=x;exact Lz e
 |dT k=>let⟨_,_,_,_,o,_,_,e,_⟩:=x;exact Lz e
 |set S n=>let⟨o,_,_,_,e,_⟩:=x;exact Lz e
 |ins C d F=>let⟨_,_,_,e,_⟩:=x;exact Lz e
 |own y=>let⟨_,e⟩:=x;exact Lz e
 |xd F=>obtain⟨_,⟨_,_,_,e,_⟩,_⟩:=x;exact Lz e
 |rng lo b=>let⟨_,_,_,e⟩:=x;exact Lz e
 |frz O u=>let⟨e,_⟩:=x;exact Lz e
 |tbl c=>exact Lz (show h.get? a=δ _ from x)
 |met f y=>exact Lz (show h.get? a=δ _ from x)
 |ext g=>obtain⟨_,⟨_,e⟩,_⟩:=x;exact Lz e
theorem Paired.mapP{c d:Type}{F G:c->d->Prop}:∀{l:List c} {L:List d},Paired F l L->(∀a b,F a b->G a b)->Paired G l L
 |_,_,.nil,_=>.nil
 |_,_,.cons r t,f=>.cons (f _ _ r) (Paired.mapP t f)
theorem aM.stay(x:aM P w H h a o)(k:∀b u,(b=a∨H b=δ (.own a))->h.get? b=δ u->h'.get? b=δ u)
  (s:∀b,H b=δ (.own a)->H' b=δ (.own a)) (A:∀b X,H b=δ (.tup X)->H' b=δ (.tup X)):aM P w H' h' a o:=by
 induction o with
 |lst X=>let⟨z,i,n,r,e⟩:=x;exact#[z,i,n,r,k _ _ (.inl Z) e]
 |tup X=>let⟨z,i,r,O,e,c⟩:=x;exact#[z,i,r,O,k _ _ (.inl Z) e,c]
 |dK K=>let⟨z,y,V,r,O,E,g,e,c⟩:=x;exact#[z,y,V,r,O,E,g,k _ _ (.inl Z) e,c]
 |dT K=>let⟨z,y,X,r,O,E,g,e,c⟩:=x;exact#[z,y,X,Paired.mapP r λp q z=>#[z.1,A _ _ z.2.1,z.2.2],O,E,g,k _ _ (.inl Z) e,c]
 |set S n=>let⟨O,E,g,t,e,c⟩:=x;exact#[O,E,g,t,k _ _ (.inl Z) e,c]
 |ins C D F=>obtain⟨d,z,N,e,m,⟨j,E,g,B,c⟩,r⟩:=x;exact#[s _ d,z,N,k _ _ (.inl Z) e,m,#[j,E,g,k _ _ (.inr d) B,c],r]
 |own y=>let⟨O,e⟩:=x;exact#[O,k _ _ (.inl Z) e]
 |xd F=>obtain⟨m,⟨j,E,g,e,c⟩,r⟩:=x;exact#[m,#[j,E,g,k _ _ (.inl Z) e,c],r]
 |rng lo G=>let⟨t,u,v,e⟩:=x;exact#[t,u,v,k _ _ (.inl Z) e]
 |frz O u I=>let⟨e,q⟩:=x;exact#[k _ _ (.inl Z) e,I q]
 |tbl l=>have e:h.get? a=δ { cls:=.none,data:=.fields l }:=x;show h'.get? a=δ { cls:=.none,data:=.fields l };exact k a _ (.inl Z) e
 |met f y=>have e:h.get? a=δ (mT (.ref f)$ .ref y):=x;show h'.get? a=δ (mT (.ref f)$ .ref y);exact k a _ (.inl Z) e
 |ext J=>obtain⟨p,⟨o,e⟩,st⟩:=x;exact#[st _ _ p λo q=>k _ _ (.inl Z) q,#[o,k _ _ (.inl Z) e],st]
theorem eV.lt(x:eV P w H h)(e:H a=δ o):a < h.objs.size:=(x a o e).lt
theorem eV.fresh(x:eV P w H h)(e:h.objs.size<=a):H a=θ:=by
 cases q:H a with
 |none=>rfl
 |some u=>exact absurd (LH (x.lt q) e) (ML _)
theorem eV.kept(x:eV P w H h)(k:∀b u,h.get? b=δ u->h'.get? b=δ u):eV P w H h':=λa o e=>
 (x a o e).stay (λb u _ q=>k b u q) (λ_ q=>q) λ_ _ q=>q
theorem eV.laid(x:eV P w H h)(k:∀b u,h.get? b=δ u->h'.get? b=δ u)(g:h.objs.size<=a)(n:aM P w (af H a o) h' a o):eV P w (af H a o) h':=λb u e=>by
 let d:=x.fresh g;by_cases f:b=a
 .subst f;rw[jc]at e;cases e;exact n
 .rw[ji f]at e;exact(x b u e).stay (λc v _ q=>k c v q) (λc q=>by rw[ji$ jl q d];exact q) λc X q=>by rw[ji$ jl q d];exact q
end
def Rd(H:Hp)(a:η)(u:HO):Prop:=H a=δ u∨∃o,H a=δ (.frz o u)
theorem Rd.ok{P:ψ}(r:Rd H a u)(x:eV P w H h):aM P w H h a u:=by
 rcases r with r | ⟨o,r⟩
 .exact x a u r
 .let⟨_,q⟩:=x a _ r;exact q
def EE:Option HO->Prop
 |some (.lst _)=>True
 |some (.dK _)=>True
 |some (.dT _)=>True
 |some (.set _ _)=>True
 |some (.ins _ _ _)=>True
 |some (.ext _)=>True
 |_=>False
section
variable {P:ψ}{w:bU}{H:Hp}{h h':cJ}{x e:η}{o':HO}
theorem eV.write(o:eV P w H h)(m:EE (H x))(i:e=x∨H e=δ (.own x))(k:∀b u,b≠e->h.get? b=δ u->h'.get? b=δ u)(f:∃u,h'.get? e=δ u)
  (g:aM P w (af H x o') h' x o'):eV P w (af H x o') h':=λb u q=>by
 let n:∀c y,H c=δ (.own y)->c≠x:=λc y r z=>by subst z;rw[r]at m;exact m
 let N:∀c X,H c=δ (.tup X)->c≠x:=λc X r z=>by subst z;rw[r]at m;exact m
 by_cases d:b=x
 .subst d;rw[jc]at q;cases q;exact g
 .rw[ji d]at q;by_cases a:b=e
  .let Q:H b=δ (.own x):=by
    rcases i with z |z
    .exact absurd (a.trans z) d
    .rw[a];exact z
   rw[q]at Q;cases Q;let⟨v,j⟩:=f;exact#[v,by rw[a];exact j]
  .refine(o b u q).stay (λc v hc r=>k c v ?_ r) (λc r=>by rw[ji$ n c b r];exact r) λc X r=>by rw[ji$ N c X r];exact r
   rcases hc with rfl |hc
   .exact a
   .rintro rfl;rcases i with z |z
    .exact n c b hc z
    .rw[hc]at z;cases z;exact d Z
end
structure Un(fs ex:List η)(H H':Hp)(h h':cJ):Prop where
 keep:∀b o,h.get? b=δ o->H b=θ->b∉fs->b∉ex->h'.get? b=δ o
 slot:∀b o,h.get? b=δ o->H b=θ->b∈fs->b∉ex->∃sl,h'.get? b=δ { o with slots:=sl }
 free:∀b o,h.get? b=δ o->H b=θ->b∉ex->H' b=θ
 there:∀b o,h.get? b=δ o->b∉ex->∃o',h'.get? b=δ o'
 tups:∀b xs,H b=δ (.tup xs)->H' b=δ (.tup xs)
 frzs:∀b o u,H b=δ (.frz o u)->H' b=δ (.frz o u)
 tbls:∀b ps,H b=δ (.tbl ps)->∃more,H' b=δ (.tbl$ ps++more)
section
variable {fs fs' ex ex':List η}{H H1 H2:Hp}{h h1 h2 h':cJ}{a x e:η}{o:HO}
theorem Un.any(u:Un fs ex H H1 h h1)(q:h.get? b=δ O)(n:H b=θ)(c:b∉ex):∃s,h1.get? b=δ { O with slots:=s }:=by
 by_cases d:b∈fs
 .exact u.slot b O q n d c
 .exact#[O.slots,u.keep b O q n d c]
theorem Un.kept(k:∀b u,h.get? b=δ u->h'.get? b=δ u):Un fs ex H H h h':=
 #[λb O q _ _ _=>k b O q,λb O q _ _ _=>#[O.slots,k b O q],λ_ _ _ n _=>n,λb O q _=>#[O,k b O q],λ_ _ q=>q,λ_ _ _ q=>q,λ_ p q=>#[(ε []),by rw[q];simp]]
theorem Un.refl:Un fs ex H H h h:=Un.kept λ_ _ q=>q
theorem Un.laid(k:∀b u,h.get? b=δ u->h'.get? b=δ u)(d:h.objs.size<=a)(c:H a=θ):Un fs ex H (af H a o) h h' where
 keep:=λb u q _ _ _=>k b u q
 slot:=λb u q _ _ _=>#[u.slots,k b u q]
 free:=λb u q n _=>by rw[ji$ LC$ LH (Lz q) d];exact n
 there:=λb u q _=>#[u,k b u q]
 tups:=λb X q=>by rw[ji$ jl q c];exact q
 frzs:=λb u X q=>by rw[ji$ jl q c];exact q
 tbls:=λb p q=>#[(ε []),by rw[ji$ jl q c,q];simp]
theorem Un.write(m:EE (H x))(j:e=x∨H e=δ (.own x))(k:∀b u,b≠e->h.get? b=δ u->h'.get? b=δ u)(d:∃u,h'.get? e=δ u):Un fs ex H (af H x o) h h':=by
 let g:∀b,H b=θ->b≠x:=λb n z=>by subst z;rw[n]at m;exact m
 let i:∀b,H b=θ->b≠e:=λb n z=>by
  subst z;rcases j with r |r
  .exact g b n r
  .rw[n]at r;cases r
 let f:∀b u,H b=δ u->¬EE (δ u)->b≠x:=λb u q N z=>by subst z;rw[q]at m;exact N m
 refine#[λb u q n _ _=>k b u (i b n) q,λb u q n _ _=>#[u.slots,k b u (i b n) q],λb u q n _=>by rw[ji$ g b n];exact n,λb u q _=>?_,
  λb X q=>by rw[ji$ f b _ q λz=>z];exact q,λb u X q=>by rw[ji$ f b _ q λz=>z];exact q,λb p q=>#[(ε []),by rw[ji$ f b _ q λz=>z,q];simp]]
 by_cases c:b=e
 .subst c;exact d
 .exact#[u,k b u c q]
end
noncomputable def Hl(h:cJ)(H:Hp):List η:=(fr h.objs.size).filter λa=>(H a).isSome
noncomputable def lS(h:cJ)(H:Hp):cJ:=PySem.W.hideAll h (Hl h H)
theorem ZQ(h:cJ)(H:Hp):(lS h H).objs.size=h.objs.size:=PySem.W.hideAll_size _ _
theorem tP{h:cJ}{H:Hp}(e:h.get? b=δ o)(n:H b=θ):(lS h H).get? b=δ o:=
 PySem.W.hideAll_get _ e λa=>by let q:(H b).isSome=ν:=(List.mem_filter.mp a).2;rw[n]at q;simp at q
theorem ye(e:(lS h H).get? b=δ o):h.get? b=δ o/\H b=θ:=by
 let E:h.get? b=δ o:=PySem.W.of_hideAll (Hl h H) e;refine#[E,?_];cases q:H b with
 |none=>rfl
 |some x=>have a:b∈Hl h H:=List.mem_filter.mpr #[rb.mpr$ Lz E,by simp [q]];let z:(lS h H).get? b=θ:=PySem.W.hideAll_none (Hl h H) a;rw[z]at e;cases e
end _L
open _L.V renaming str->ri,int->rm,ref->rs
namespace _L
open PySem PySem.Spec PyProof.Rows
structure Mod(K:β)(mg:ρ->Option ζ)(base:cJ):Prop where
 kin:K.In base
 glob:base.Ns Δ mg
 blt:∃mb,base.Ns builtinsNs mb/\∀x:ρ,x≠"__name__"->mb x=bootBuiltins x
 nolimit:base.NoLimit
structure Cx where
 prog:ψ
 w:bU
 K:β
 mg:ρ->Option ζ
 base:cJ
 A:bS
 N:List ρ
 s₀:ι
 H₀:Hp
 env:rc
 outer:List rc
 stack:List rc
 ex:List η
 fn:ρ->Bool
 calm:Bool
 pn:List (η×ge)
 xe:ζ->ι->Prop
noncomputable def lB(l:List rc):List η:=l.filterMap (·.frame)
noncomputable abbrev Cx.fs(X:Cx):List η:=lB X.outer
def He(s:hG)(x:ρ):Prop:=s.names.lookup x=δ .local∨s.names.lookup x=δ .cell∨s.names.lookup x=δ .free
def pW(s:hG)(x:ρ):Prop:=s.names.lookup x=δ .local∨s.names.lookup x=δ .cell
def Hq(e:rc)(h:cJ)(m:ρ->Option ζ)(x:ρ)(u:ζ):Prop:=
 (e.kindOf x=δ .local/\m x=δ u)∨((e.kindOf x=δ .cell∨e.kindOf x=δ .free)/\∃c,e.cells.lookup x=δ c/\h.IsCell c (δ u))
structure Cx.Ok(X:Cx):Prop where
 mod:Mod X.K X.mg X.base
 kind:X.env.scope.kind= .function
 glob:X.env.globals=Δ
 blt:X.env.builtins=builtinsNs
 above:X.s₀.heap.objs.size<=X.env.locals
 inj:∀x y c,X.env.cells.lookup x=δ c->X.env.cells.lookup y=δ c->x=y
 has:∀x,(X.env.kindOf x=δ .cell∨X.env.kindOf x=δ .free)->∃c,X.env.cells.lookup x=δ c
 cab:∀x c,X.fn x=ν->X.env.cells.lookup x=δ c->X.s₀.heap.objs.size<=c
 hd:X.calm=ν->X.A.handled=θ
 frames:X.A.frames=δ X.stack
 stk:X.stack=X.outer∨(X.stack=X.env::X.outer/\X.env.frame=δ X.env.locals)
 exf:∀b∈X.ex,b≠X.env.locals/\∀x c,X.env.cells.lookup x=δ c->c≠b
 bs:∀b o,X.base.get? b=δ o->X.s₀.heap.get? b=δ o/\X.H₀ b=θ
 bsz:X.base.objs.size<=X.s₀.heap.objs.size
 noex:∀b o,X.base.get? b=δ o->b∉X.ex
 exfs:∀b∈X.ex,b∉X.fs
 funs:X.s₀.heap.FunFrames X.base X.outer
 frf:∀b∈X.fs,X.H₀ b=θ
structure au(X:Cx)(pins:List (η×ge))(σ:List (Option V))(H:Hp)(s:ι):Prop where
 ok:X.Ok
 os:s.os=X.s₀.os
 bare:AllBare s.gens
 base:Un X.fs X.ex X.H₀ H X.s₀.heap s.heap
 loc:∃m,s.heap.Ns X.env.locals m/\∀(i:Nat) (x:ρ) (v:V),X.N[i]?=δ x->σ[i]?=δ (δ v)->He X.env.scope x->∃u,aF v u/\Hq X.env s.heap m x u
 cell:∀x c,X.env.cells.lookup x=δ c->∃v,s.heap.IsCell c v
 free:H X.env.locals=θ
 freeC:∀x c,X.env.cells.lookup x=δ c->H c=θ
 pin:∀p∈X.pn++pins,s.heap.get? p.1=δ p.2/\H p.1=θ/\p.1≠X.env.locals/\p.1∉X.fs/\∀v,p.2.data≠ .cell v
 hok:eV X.prog X.w H s.heap
 len:σ.length=X.N.length
section
variable {X:Cx}{pins:List (η×ge)}{σ:List (Option V)}{H H':Hp}{s:ι}{h':cJ}
theorem Cx.Ok.nofr(O:X.Ok)(e:X.base.get? b=δ o):b∉X.fs:=λh=>by let:=(O.funs.mem h).1;rw[e]at this;cases this
theorem au.bs(I:au X pins σ H s):∀b o,X.base.get? b=δ o->s.heap.get? b=δ o/\H b=θ:=λb o e=>
 #[I.base.keep b o (I.ok.bs b o e).1 (I.ok.bs b o e).2 (I.ok.nofr e)$ I.ok.noex b o e,I.base.free b o (I.ok.bs b o e).1 (I.ok.bs b o e).2$ I.ok.noex b o e]
theorem au.bk(I:au X pins σ H s):∀b o,X.base.get? b=δ o->s.heap.get? b=δ o:=λb o e=>(I.bs b o e).1
theorem au.mod(I:au X pins σ H s):Mod X.K X.mg X.base:=I.ok.mod
theorem au.kIn(I:au X pins σ H s):X.K.In s.heap:=I.ok.mod.kin.keeps I.bk
theorem au.lt(I:au X pins σ H s):X.env.locals < s.heap.objs.size:=let #[_,h,_]:=I.loc;h.lt
theorem au.sz(I:au X pins σ H s):X.s₀.heap.objs.size<=s.heap.objs.size:=LJ I.ok.above (NA I.lt)
theorem au.nofs(I:au X pins σ H s)(h:s.heap.objs.size<=a):a∉X.fs:=λb=>by let⟨_,o,c,_⟩:=I.ok.funs.mem b;exact absurd (LH (Lz c)$ LJ I.sz h)$ ML _
theorem au.cne(I:au X pins σ H s):∀x c,X.env.cells.lookup x=δ c->c≠X.env.locals:=λx c e z=>by let⟨v,o,b,d⟩:=I.cell x c e;obtain⟨m,⟨O,E,f,h,a,_⟩,_⟩:=I.loc;rw[z,h]at b;cases b;rw[a]at d;cases d
theorem au.funs(I:au X pins σ H s):s.heap.FunFrames X.base X.outer:=by
 let all:∀(l:List rc),(∀b∈lB l,b∈X.fs)->X.s₀.heap.FunFrames X.base l->s.heap.FunFrames X.base l:=by
  intro l;induction l with
  |nil=>intro _ _;trivial
  |cons E r i=>intro d f;obtain⟨g,⟨L,o,h,j,k,m⟩,n⟩:=f;let a:L∈X.fs:=d L (by unfold lB;rw[List.filterMap_cons,h];exact List.mem_cons_self);let⟨S,e⟩:=I.base.slot L o k (I.ok.frf L a) a λz=>I.ok.exfs L z a;exact#[g,#[L,_,h,j,e,m],i (λb c=>d b (by unfold lB;rw[List.filterMap_cons,h];exact List.mem_cons_of_mem _ c)) n]
 exact all X.outer (λ_ c=>c) I.ok.funs
theorem au.stack(I:au X pins σ H s):s.heap.FunFrames X.base X.stack:=by
 rcases I.ok.stk with e | ⟨e,h⟩
 .rw[e];exact I.funs
 .rw[e];let⟨m,a,_⟩:=I.loc;refine .cons (by rw[I.ok.kind];decide) h a ?_ I.funs;exact Heap.get?_none_of_le$ LJ I.ok.bsz I.ok.above
theorem au.stkSub(I:au X pins σ H s):∀b∈lB X.stack,b∈X.env.locals::X.fs:=λb h=>by
 rcases I.ok.stk with e | ⟨e,a⟩
 .rw[e]at h;exact LW _ h
 .rw[e]at h;unfold lB at h;rw[Pk,a]at h;exact h
theorem au.stkFree(I:au X pins σ H s):∀b∈lB X.stack,H b=θ:=λb hb=>by
 rcases Ξ.mp (I.stkSub b hb) with e |hb
 .rw[e];exact I.free
 .let⟨_,o,h,_⟩:=I.ok.funs.mem hb;exact I.base.free b o h (I.ok.frf b hb) λz=>I.ok.exfs b z hb
theorem au.step{g':Array GenState}{d':Drawn}{ch:List η}(I:au X pins σ H s)
  (a:∀b∈ch,(b∈X.ex∨X.s₀.heap.objs.size<=b)/\b≠X.env.locals/\(∀x c,X.env.cells.lookup x=δ c->c≠b)/\∀p∈X.pn++pins,p.1≠b)
  (K:∀b o,b≠X.env.locals->b∉X.fs->b∉ch->s.heap.get? b=δ o->H b=θ->h'.get? b=δ o)
  (S:∀b o,b≠X.env.locals->b∈X.fs->b∉ch->s.heap.get? b=δ o->H b=θ->∃J,h'.get? b=δ { o with slots:=J }) (f:∀b o,b∉ch->s.heap.get? b=δ o->H b=θ->H' b=θ)
  (t:∀b o,b∉ch->s.heap.get? b=δ o->∃O,h'.get? b=δ O)
  (T:∀b j,H b=δ (.tup j)->H' b=δ (.tup j)) (F:∀b o u,H b=δ (.frz o u)->H' b=δ (.frz o u)) (B:∀b P,H b=δ (.tbl P)->∃M,H' b=δ (.tbl$ P++M))
  (ns:∀m,s.heap.Ns X.env.locals m->h'.Ns X.env.locals m) (L:eV X.prog X.w H' h') (hg:AllBare g'):
  au X pins σ H' { s with heap:=h',gens:=g',drawn:=d',toks:=t' }:=by
 let D:∀b o,X.s₀.heap.get? b=δ o->b≠X.env.locals:=λb o e=>LC (LH (Lz e) I.ok.above);let g:∀b o,X.s₀.heap.get? b=δ o->b∉X.ex->b∉ch:=λb o e h y=>by
  rcases(a b y).1 with z |z
  .exact h z
  .exact absurd (LH (Lz e) z)$ ML _
 let C:∀x c,X.env.cells.lookup x=δ c->∀v,s.heap.IsCell c v->h'.IsCell c v:=λx c e v #[o,A,Q]=>by
  let N:c∉ch:=λz=>(a c z).2.2.1 x c e Z;by_cases U:c∈X.fs
  .let⟨J,q⟩:=S c o (I.cne x c e) U N A (I.freeC x c e);exact#[_,q,Q]
  .exact#[o,K c o (I.cne x c e) U N A$ I.freeC x c e,Q]
 refine#[I.ok,I.os,hg,#[λb o e n y h=>?_,λb o e n y h=>?_,λb o e n h=>?_,λb o e h=>?_,λb j e=>T b j (I.base.tups b j e),λb o j e=>F b o j (I.base.frzs b o j e),λb P e=>?_],?_,λx c e=>?_,?_,λx c e=>?_,λp W=>?_,L,I.len]
 .exact K b o (D b o e) y (g b o e h) (I.base.keep b o e n y h)$ I.base.free b o e n h
 .let⟨J,E⟩:=I.base.slot b o e n y h;let⟨R,G⟩:=S b _ (D b o e) y (g b o e h) E (I.base.free b o e n h);exact#[R,G]
 .let⟨O,E⟩:=I.base.there b o e h;exact f b O (g b o e h) E$ I.base.free b o e n h
 .let⟨O,E⟩:=I.base.there b o e h;exact t b O (g b o e h) E
 .let⟨m1,E⟩:=I.base.tbls b P e;let⟨m2,G⟩:=B b _ E;exact#[m1++m2,by rw[G,Array.append_assoc]]
 .let⟨m,hn,hl⟩:=I.loc;refine#[m,ns m hn,λi x v E G e3=>?_];let⟨u,r,l⟩:=hl i x v E G e3;refine#[u,r,?_];rcases l with l | ⟨k,c,e,z⟩
  .exact .inl l
  .exact .inr #[k,c,e,C x c e _ z]
 .let⟨v,z⟩:=I.cell x c e;exact#[v,C x c e v z]
 .obtain⟨m,⟨o,_,_,A,_⟩,_⟩:=I.loc;exact f _ o (λz=>(a _ z).2.1 Z) A I.free
 .let⟨v,o,A,Q⟩:=I.cell x c e;exact f c o (λz=>(a c z).2.2.1 x c e Z) A$ I.freeC x c e
 .let⟨e,n,Y,nf,d⟩:=I.pin p W;let N:p.1∉ch:=λz=>(a p.1 z).2.2.2 p W Z;exact#[K p.1 p.2 Y nf N e n,f p.1 p.2 N e n,Y,nf,d]
theorem au.un{t':Nat}(I:au X pins σ H s)(u:Un X.fs [] H H' s.heap h')(a:eV X.prog X.w H' h'):au X pins σ H' { s with heap:=h',toks:=t' }:=by
 obtain⟨m,⟨o,j,k,f,r⟩,_⟩:=id I.loc;let⟨S,g⟩:=u.any f I.free UL;exact I.step (g':=s.gens) (d':=s.drawn) (ch:=[]) (λ_ z=>nomatch z) (λb o _ c _ e n=>u.keep b o e n c UL) (λb o _ c _ e n=>u.slot b o e n c UL) (λb o _ e n=>u.free b o e n UL) (λb o _ e=>u.there b o e UL) u.tups u.frzs u.tbls (λM i=>by
  let⟨O,E,d,h,R⟩:=i;rw[f]at h;cases h;exact#[_,E,d,g,R]) a I.bare
theorem au.call{g':Array GenState}{t':Nat}{d':Drawn}{ch:List η}(I:au X pins σ H s)(u:Un (lB X.stack) ch H H' s.heap h')(f:eV X.prog X.w H' h')(k:AllBare g')
  (a:∀b∈ch,(b∈X.ex∨X.s₀.heap.objs.size<=b)/\b≠X.env.locals/\(∀x c,X.env.cells.lookup x=δ c->c≠b)/\∀p∈X.pn++pins,p.1≠b):
  au X pins σ H' { s with heap:=h',gens:=g',drawn:=d',toks:=t' }:=by
 obtain⟨m,⟨o,t,v,j,r⟩,_⟩:=id I.loc;let⟨S,g⟩:=u.any j I.free λz=>(a _ z).2.1 Z;exact I.step (ch:=ch) a (λb o g l h e n=>u.keep b o e n (λz=>(Ξ.mp$ I.stkSub b z).elim g l) h) (λb o _ _ h e n=>u.any e n h) (λb o h e n=>u.free b o e n h) (λb o h e=>u.there b o e h) u.tups u.frzs u.tbls (λM q=>by
  let⟨O,E,i,d,R⟩:=q;rw[j]at d;cases d;exact#[_,E,i,g,R]) f k
theorem au.turned{t':Nat}{it:η}(I:au X pins σ H s)(k:∀b o,b≠it->s.heap.get? b=δ o->h'.get? b=δ o)(d:H it=θ)(a:it≠X.env.locals)
  (f:it∈X.ex∨X.s₀.heap.objs.size<=it) (g:∀x c,X.env.cells.lookup x=δ c->c≠it) (i:∀p∈X.pn++pins,p.1≠it):au X pins σ H { s with heap:=h',toks:=t' }:=by
 let N:∀b u,H b=δ u->b≠it:=λb u e z=>by rw[z,d]at e;cases e
 refine I.step (g':=s.gens) (d':=s.drawn) (ch:=[it]) (λb j=>?_) (λb o _ _ h e _=>k b o (λz=>h (by simp [z])) e) (λb o _ _ h e _=>#[o.slots,k b o (λz=>h (by simp [z])) e]) (λ_ _ _ _ n=>n)
  (λb o h e=>#[o,k b o (λz=>h (by simp [z])) e]) (λ_ _ e=>e) (λ_ _ _ e=>e) (λb P e=>#[(ε []),by rw[e];simp]) (λm l=>?_) (λb u e=>?_) I.bare
 .let e:b=it:=by simpa using j
  subst e;exact#[f,a,g,i]
 .let⟨o,E,t,w,r⟩:=l;exact#[o,E,t,k _ o (Me a) w,r]
 .refine(I.hok b u e).stay (λc v h q=>k c v ?_ q) (λ_ q=>q) λ_ _ q=>q;rcases h with z |z
  .rw[z];exact N b u e
  .exact N c _ z
theorem au.tok(I:au X pins σ H s)(t:Nat):au X pins σ H { s with toks:=t }:=I.un (h':=s.heap) (t':=t) Un.refl I.hok
theorem au.kept{t':Nat}(I:au X pins σ H s)(k:∀b u,s.heap.get? b=δ u->h'.get? b=δ u):au X pins σ H { s with heap:=h',toks:=t' }:=I.un (Un.kept k) (I.hok.kept k)
theorem au.laid{a:η}{o:HO}{t':Nat}(I:au X pins σ H s)(k:∀b u,s.heap.get? b=δ u->h'.get? b=δ u)(h:s.heap.objs.size<=a)(n:aM X.prog X.w (af H a o) h' a o):
  au X pins σ (af H a o) { s with heap:=h',toks:=t' }:=I.un (Un.laid k h$ I.hok.fresh h) (I.hok.laid k h n)
theorem au.write{x e:η}{o:HO}{t':Nat}(I:au X pins σ H s)(m:EE (H x))(a:e=x∨H e=δ (.own x))(k:∀b u,b≠e->s.heap.get? b=δ u->h'.get? b=δ u)(h:∃u,h'.get? e=δ u)
  (n:aM X.prog X.w (af H x o) h' x o):au X pins σ (af H x o) { s with heap:=h',toks:=t' }:=I.un (Un.write m a k h) (I.hok.write m a k h n)
theorem au.pins_of{pins':List (η×ge)}(I:au X pins σ H s)(h:∀p∈pins',s.heap.get? p.1=δ p.2/\H p.1=θ/\p.1≠X.env.locals/\p.1∉X.fs/\∀v,p.2.data≠ .cell v):au X pins' σ H s:=
 #[I.ok,I.os,I.bare,I.base,I.loc,I.cell,I.free,I.freeC,λp a=>(γ.mp a).elim (λz=>I.pin p (MV _ z)) (h p),I.hok,I.len]
theorem Ks{N:List ρ}(h:N.Nodup){i j:Nat}{x:ρ}(a:N[i]?=δ x)(b:N[j]?=δ x):i=j:=by let⟨c,e⟩:=ξ.mp a;let⟨d,E⟩:=ξ.mp b;exact(List.getElem_inj h).mp (e.trans E.symm)
theorem Qt{v:V}{Q:Unit->ι->Prop}(I:au X pins σ H s)(hN:X.N.Nodup)(L:X.N[i]?=δ x)(l:pW X.env.scope x)(r:aF v u)
  (h:∀s',au X pins (σ.set i$ δ v) H s'->(∃a,fv a s.heap s'.heap/\(a=X.env.locals∨X.env.cells.lookup x=δ a))->Q () s') (hf:X.fn x=ν∨X.env.scope.names.lookup x=δ .local:=by first |exact .inl Z |exact .inr Z |assumption):π M A (storeName X.env x u) Q E s:=by
 let⟨m,hn,hl⟩:=id I.loc;let O:(X.env.scope.kind== .class||(X.env.scope.kind== .module&&X.env.locals != X.env.globals))=μ:=by rw[I.ok.kind];rfl
 let D:i < σ.length:=by rw[I.len];exact(ξ.mp L).1
 let F:=I.cne;let t:∀{a:η} {h':cJ},(∃o,s.heap.get? a=δ o/\H a=θ)->fv a s.heap h'->eV X.prog X.w H h':=λ{a h'} ha f b ob e=>by
  let⟨_,_,B⟩:=ha;refine(I.hok b ob e).stay (λc W hc q=>(f.2 c ?_).trans q) (λ_ q=>q) λ_ _ q=>q;rintro rfl;rcases hc with rfl |hc
  .rw[B]at e;cases e
  .rw[B]at hc;cases hc
 rcases l with hk |hk
 .refine wpAny_storeName_local hk hn (λh' h0 f=>?_) O;let⟨oL,_,_,h1,_⟩:=id hn;refine h _ #[I.ok,I.os,I.bare,#[λb o e n G l=>?_,λb o e n G l=>?_,I.base.free,λb o e l=>?_,I.base.tups,I.base.frzs,I.base.tbls],#[_,h0,λj y v' g C e3=>?_],λy c e=>?_,I.free,I.freeC,λp hp=>?_,t #[oL,h1,I.free] f,by simpa using I.len] #[_,f,.inl Z]
  .exact(f.2 b$ LC$ LH (Lz e) I.ok.above).trans (I.base.keep b o e n G l)
  .let⟨sl,g⟩:=I.base.slot b o e n G l;exact#[sl,(f.2 b$ LC$ LH (Lz e) I.ok.above).trans g]
  .let⟨o',g⟩:=I.base.there b o e l;exact#[o',(f.2 b$ LC$ LH (Lz e) I.ok.above).trans g]
  .by_cases J:j=i
   .subst J;rw[L]at g;cases g;rw[Nf D]at C;cases C;exact#[u,r,.inl #[hk,UL]]
   .rw[Na$ Me J]at C;let⟨u',r',q⟩:=hl j y v' g C e3;refine#[u',r',?_];rcases q with ⟨k,e⟩ | ⟨k,c,e,z⟩
    .refine .inl #[k,?_];let:y≠x:=λe=>J (Ks hN g$ e▸L);simp [this,e]
    .exact .inr #[k,c,e,z.sameBut f$ F y c e]
  .let⟨W,z⟩:=I.cell y c e;exact#[W,z.sameBut f$ F y c e]
  .let⟨e,n,U,nf,d⟩:=I.pin p hp;exact#[(f.2 p.1 U).trans e,n,U,nf,d]
 .let K:X.fn x=ν:=by
   rcases hf with z |z
   .exact z
   .rw[z]at hk;cases hk
  let⟨c,hc⟩:=I.ok.has x (.inl hk);let⟨W,z⟩:=I.cell x c hc;refine wpAny_storeName_cell I.ok.kind hk hc z (λh' P f=>?_);let⟨oc,R,S⟩:=id z;refine h { s with heap:=h' } #[I.ok,I.os,I.bare,#[λb o e n G l=>?_,λb o e n G l=>?_,I.base.free,λb o e l=>?_,I.base.tups,I.base.frzs,I.base.tbls],#[m,hn.sameBut f$ Me$ F x c hc,λj y v' g C e3=>?_],λy Y e=>?_,I.free,I.freeC,λp hp=>?_,t #[oc,R,I.freeC x c hc] f,by simpa using I.len] #[c,f,.inr hc]
  .exact(f.2 b$ LC$ LH (Lz e)$ I.ok.cab x c K hc).trans (I.base.keep b o e n G l)
  .let⟨sl,g⟩:=I.base.slot b o e n G l;exact#[sl,(f.2 b$ LC$ LH (Lz e)$ I.ok.cab x c K hc).trans g]
  .let⟨o',g⟩:=I.base.there b o e l;exact#[o',(f.2 b$ LC$ LH (Lz e)$ I.ok.cab x c K hc).trans g]
  .by_cases J:j=i
   .subst J;rw[L]at g;cases g;rw[Nf D]at C;cases C;exact#[u,r,.inr #[.inl hk,c,hc,P]]
   .rw[Na$ Me J]at C;let⟨u',r',q⟩:=hl j y v' g C e3;refine#[u',r',?_];rcases q with q | ⟨k,Y,e,z'⟩
    .exact .inl q
    .refine .inr #[k,Y,e,z'.sameBut f ?_];rintro rfl;exact J$ Ks hN g$ I.ok.inj _ _ _ e hc▸L
  .by_cases T:Y=c
   .subst T;exact#[_,P]
   .let⟨w2,z2⟩:=I.cell y Y e;exact#[w2,z2.sameBut f T]
  .let⟨e,n,U,nf,d⟩:=I.pin p hp;refine#[(f.2 p.1 ?_).trans e,n,U,nf,d];intro q;rw[q,R]at e;let q':oc=p.2:=Mh e;exact d W (by rw[<- q'];exact S)
theorem kn{v:V}{Q:Unit->ι->Prop}(I:au X pins σ H s)(a:X.N.Nodup)(b:X.N[i]?=δ x)(c:pW X.env.scope x)(r:aF v u)
  (h:∀S,au X pins (σ.set i$ δ v) H S->Q () S) (d:X.fn x=ν∨X.env.scope.names.lookup x=δ .local:=by first |exact .inl Z |exact .inr Z |assumption):π M A (storeName X.env x u) Q E s:=
 Qt I a b c r (λS e _=>h S e) d
theorem au.call'{S:ι}{ch:List η}(I:au X pins σ H s)(d:S.os=s.os)(u:Un (lB X.stack) ch H H' s.heap S.heap)(h:eV X.prog X.w H' S.heap)(f:AllBare S.gens)
  (a:∀b∈ch,(b∈X.ex∨X.s₀.heap.objs.size<=b)/\b≠X.env.locals/\(∀x c,X.env.cells.lookup x=δ c->c≠b)/\∀p∈X.pn++pins,p.1≠b):au X pins σ H' S:=by
 let⟨h',g',d',t',o⟩:=S;let e:o=s.os:=d;subst e;exact I.call (g':=g') (t':=t') (d':=d') u h f a
end
abbrev XK:=ζ->Option η->Hp->Prop
abbrev St:=List (Option V)
abbrev VK:=V->Hp->Prop
abbrev TE:=St->Hp->VK->Prop
abbrev TT:=St->Hp->(Bool->Hp->Prop)->Prop
abbrev TA:=St->Hp->(List V->Hp->Prop)->Prop
structure a7 where
 nx:St->Hp->Prop
 rt:VK
 bk:St->Hp->Prop:=λ_ _=>False
 ct:St->Hp->Prop:=λ_ _=>False
abbrev TS:=a7->St->Hp->Prop
inductive EP(X:Cx)(a:List (η×ge))(d:St)(Q:VK)(u:ζ)(c:ι):Prop
 |mk(v b:_)(_:au X a d b c)(_:aF v u)(_:Q v b)
inductive TP(X:Cx)(a:List (η×ge))(e:St)(Q:Bool->Hp->Prop)(b:Bool)(d:ι):Prop
 |mk(c:_)(_:au X a e c d)(_:Q b c)
inductive AP(X:Cx)(a:List (η×ge))(f:St)(Q:List V->Hp->Prop)(d:List ζ)(c:ι):Prop
 |mk(e b:_)(_:au X a f b c)(_:ax e d)(_:Q e b)
def SP(X:Cx)(p:List (η×ge))(D:a7)(f:Flow)(s:ι):Prop:=
 match f with
 | .next=>∃a H,au X p a H s/\D.nx a H
 | .brk=>∃a H,au X p a H s/\D.bk a H
 | .cont=>∃a H,au X p a H s/\D.ct a H
 | .ret u=>∃v a H,au X p a H s/\aF v u/\D.rt v H
def PE(X:Cx)(e:dr)(t:TE):Prop:=
 ∀(p:List (η×ge)) (s:ι) (a:St) (H:Hp) (Q:VK),au X p a H s->t a H Q->π (χ X.prog X.w) X.A (eval e X.env) (EP X p a Q) X.xe s
def PT(X:Cx)(e:dr)(t:TT):Prop:=
 ∀(p:List (η×ge)) (s:ι) (a:St) (H:Hp) (Q:Bool->Hp->Prop),au X p a H s->t a H Q->π (χ X.prog X.w) X.A (isTrue e X.env$ eval e X.env) (TP X p a Q) X.xe s
def PW(X:Cx)(e:dr)(t:TT):Prop:=
 ∀(W:Sem ζ) (p:List (η×ge)) (s:ι) (a:St) (H:Hp) (Q:Bool->Hp->Prop),au X p a H s->t a H Q->π (χ X.prog X.w) X.A (isTrue e X.env W) (TP X p a Q) X.xe s
theorem PW.pt{X:Cx}{e:dr}{t:TT}(h:PW X e t):PT X e t:=h _
def PA(X:Cx)(e:List dr)(t:TA):Prop:=
 ∀(P:Pos) (p:List (η×ge)) (s:ι) (a:St) (H:Hp) (Q:List V->Hp->Prop),au X p a H s->t a H Q->π (χ X.prog X.w) X.A (spliced$ fx P$ Θ e X.env) (AP X p a Q) X.xe s
def PS(X:Cx)(st:cv)(t:TS):Prop:=
 ∀(p:List (η×ge)) (s:ι) (a:St) (H:Hp) (D:a7),au X p a H s->t D a H->π (χ X.prog X.w) X.A (exec st X.env) (SP X p D) X.xe s
def mN(X:Cx)(st:List cv)(t:TS):Prop:=
 ∀(p:List (η×ge)) (s:ι) (a:St) (H:Hp) (D:a7),au X p a H s->t D a H->π (χ X.prog X.w) X.A (execs st X.env) (SP X p D) X.xe s
theorem aU{b:Type}{t:Sem b}{Q q:b->ι->Prop}{M:Model}{A:bS}{E:ζ->ι->Prop}{s:ι}(h:π M A t Q E s)(H:∀a s,Q a s->q a s):π M A t q E s:=Mp h H λ_ _ x=>x
section
variable {X:Cx}
inductive a9(i:Nat)(a:St)(H:Hp)(Q:VK):Prop
 |mk(v:_)(_:a[i]?=δ (δ v))(_:Q v H)
def tC(v:V):TE:=λ_ H Q=>Q v H
theorem Du(j:X.N[i]?=δ x)(k:He X.env.scope x)(b:(x==("__debug__":ρ))=μ:=by decide)(d:(x==("__classdict__":ρ))=μ:=by decide):PE X (.Name x n) (a9 i):=by
 intro p s o H Q I h;let⟨v,e,h⟩:=h;let⟨m,q,t⟩:=I.loc;let⟨u,r,l⟩:=t i x v j e k;let f:EP X p o Q u s:=#[v,H,I,r,h];rcases l with ⟨hk,w⟩ | ⟨hk,c,g,a⟩
 .exact Tv (SW I.ok.kind hk q w f) b
 .rcases hk with hk |hk
  .exact Tv (Tg I.ok.kind hk g a f) b
  .exact Tv (wpAny_loadName_free I.ok.kind hk g a f d) b
theorem je{i j p}:PE X (.Constant (.int i) j p) (tC$ .int i):=λ_ _ _ H _ I h=>wpAny_Constant_int #[.int i,H,I.tok _,#[_,Z],h]
theorem Bf{b j p}:PE X (.Constant (.bool b) j p) (tC$ .bl b):=λ_ _ _ H _ I h=>Constant_bool #[.bl b,H,I,Z,h]
theorem zZ{j p}:PE X (.Constant .none j p) (tC .non):=λ_ _ _ H _ I h=>Constant_none #[.non,H,I,Z,h]
theorem jk{x j p}:PE X (.Constant (.str x) j p) (tC$ .str x):=λ_ _ _ H _ I h=>Calls.Constant_str #[.str x,H,I.tok _,#[_,Z],h]
def Gl(X:Cx)(x:ρ):Prop:=X.env.kindOf x=δ .globalImplicit
theorem zJ{Q:ζ->ι->Prop}(I:au X p e H s)(a:Gl X x)(b:X.mg x=δ u)(h:Q u s)
  (c:(x==("__debug__":ρ))=μ:=by decide):π (χ X.prog X.w) X.A (eval (.Name x d) X.env) Q E s:=
 Rc I.ok.kind a (Calls.loadGlobal_global (by rw[I.ok.glob];exact I.mod.glob.keeps I.bk) b h) c
theorem zu{Q:ζ->ι->Prop}(I:au X p j H s)(a:Gl X x)(b:X.mg x=θ)(c:bootBuiltins x=δ u)(h:Q u s)
  (d:x≠"__name__":=by decide) (e:(x==("__debug__":ρ))=μ:=by decide):π (χ X.prog X.w) X.A (eval (.Name x f) X.env) Q E s:=by
 let⟨m,g,i⟩:=I.mod.blt;exact Rc I.ok.kind a (Calls.loadGlobal_builtin (by rw[I.ok.glob];exact I.mod.glob.keeps I.bk) b (by rw[I.ok.blt];exact g.keeps I.bk) ((i x d).trans c) h) e
theorem kh{v:V}(a:Gl X x)(b:X.mg x=δ u)(r:aF v u)(c:(x==("__debug__":ρ))=μ:=by decide):PE X (.Name x p) (tC v):=
 λ_ _ _ H _ I h=>zJ I a b #[v,H,I,r,h] c
theorem JV{v:V}(a:Gl X x)(b:X.mg x=θ)(c:bootBuiltins x=δ u)(r:aF v u)(d:x≠"__name__":=by decide)(e:(x==("__debug__":ρ))=μ:=by decide):PE X (.Name x p) (tC v):=
 λ_ _ _ H _ I h=>zu I a b c #[v,H,I,r,h] d e
variable {a b:dr}{ta tb:TE}{pos:Pos}
def PC(X:Cx)(o:CmpOp)(a b:dr)(t:TE):Prop:=
 ∀(p:List (η×ge)) (s:ι) (d:St) (H:Hp) (Q:VK),au X p d H s->t d H Q->
  π (χ X.prog X.w) X.A (eval a X.env) (λv S=>π (χ X.prog X.w) X.A (eval b X.env) (λu c=>π (χ X.prog X.w) X.A (compareOp o v u) (EP X p d Q) X.xe c) X.xe S) X.xe s
def Iw(ta:TE):TE:=λc H Q=>ta c H λx h=>Q (.bl$ decide$ x= .non) h
theorem aF.none_iff(r:aF x v):(v==Ψ)=decide (x= .non):=by
 cases x with
 |non=>cases r;rfl
 |bl _=>cases r;rfl
 |int _=>let⟨t,rfl⟩:=r;rfl
 |str _=>let⟨t,rfl⟩:=r;rfl
 |byt _=>let⟨t,rfl⟩:=r;rfl
 |flt _=>let⟨t,rfl⟩:=r;rfl
 |ref _=>cases r;rfl
 |ty _=>cases r;rfl
theorem uE{j p}(c:PE X a ta):PC X .Is a (.Constant .none j p) (Iw ta):=by intro P s d H Q I h;refine aU (c P s d H _ I h) λv S z=>?_;let⟨x,e,i,r,q⟩:=z;exact Constant_none$ is_none_gen #[.bl _,e,i,by rw[r.none_iff];rfl,q]
inductive IX(Q:Bool->Hp->Prop)(x:V)(a:Hp):Prop
 |mk(c:_)(_:x= .bl c)(_:Q c a)
def tB(t:TE):TT:=λc H Q=>t c H (IX Q)
theorem Yb(h:PC X o a b t)(e:behindInMarks o b=μ:=by first |exact n _ UJ UJ |rfl):PT X (.Compare a [o] [b] pos) (tB t):=by intro p s f H Q I g;refine SK (aU (h p s f H _ I g) λv S e=>aU e λu m i=>aU i λc w z=>?_) e;let⟨x,j,k,r,l⟩:=z;let⟨d,rfl,q⟩:=l;cases r;exact OS #[j,k,q]
theorem Kh(h:PE X e t)(c:∀w,isTrue e X.env w=(do let v <- w;standAt e.pos;iv [v] (truthy v)):=by intro _;rfl):PT X e (tB t):=by intro p s f H Q I g;refine isTrue_plain (aU (h p s f H _ I g) λv S z=>?_)$ c _;let⟨x,i,j,r,k⟩:=z;let⟨d,rfl,q⟩:=k;cases r;exact OS #[i,j,q]
variable {tA tB':TT}{rest:List dr}
def Ip(t u:TT):TT:=λd H Q=>t d H λc h=>if c=ν then u d h Q else Q μ h
def Lg(t u:TT):TT:=λd H Q=>t d H λc h=>if c=ν then Q ν h else u d h Q
def Iy(t:TT):TT:=λd H Q=>t d H λc h=>Q (!c) h
theorem qA(d:PT X a tA):PW X (.BoolOp .And [a] pos) tA:=by
 intro w p s f H Q I h;refine isTrue_and$ aU (d p s f H Q I h) λc S e=>?_;cases c with
 |true=>exact isTrue_and_nil e
 |false=>exact e
theorem Jt(d:PT X a tA):PW X (.BoolOp .Or [a] pos) tA:=by
 intro w p s f H Q I h;refine isTrue_or$ aU (d p s f H Q I h) λc S e=>?_;cases c with
 |false=>exact isTrue_or_nil e
 |true=>exact e
theorem Ju(f:PT X a tA)(g:PW X (.BoolOp .And (b::rest) pos) tB'):PW X (.BoolOp .And (a::b::rest) pos) (Ip tA tB'):=by
 intro w p s d H Q I h;refine isTrue_and$ aU (f p s d H _ I h) λc S z=>?_;let⟨e,i,q⟩:=z;cases c with
 |true=>exact g w p S d e Q i q
 |false=>exact#[e,i,q]
theorem Ka(f:PT X a tA)(g:PW X (.BoolOp .Or (b::rest) pos) tB'):PW X (.BoolOp .Or (a::b::rest) pos) (Lg tA tB'):=by
 intro w p s d H Q I h;refine isTrue_or$ aU (f p s d H _ I h) λc S z=>?_;let⟨e,i,q⟩:=z;cases c with
 |true=>exact#[e,i,q]
 |false=>exact g w p S d e Q i q
theorem uM(e:PT X a tA):PT X (.UnaryOp .Not a pos) (Iy tA):=by intro p s f H Q I h;exact isTrue_not$ aU (e p s f H (λc d=>Q (!c) d) I h) λc S #[d,i,q]=>#[d,i,q]
def Le(t:TT)(ta tb:TE):TE:=λd H Q=>t d H λc h=>if c=ν then ta d h Q else tb d h Q
theorem kr(g:PT X c tA)(j:PE X a ta)(k:PE X b tb):PE X (.IfExp c a b pos) (Le tA ta tb):=by
 intro p s e H Q I h;refine wpAny_IfExp$ aU (g p s e H _ I h) λd S z=>?_;let⟨f,i,q⟩:=z;cases d with
 |true=>exact j p S e f Q i q
 |false=>exact k p S e f Q i q
end
def aJ(K:β)(H:Hp)(a:η)(x:List V):Prop:=
 Rd H a (.lst x)∨
  ∃(o:ge) (i:Array ζ) (n:Nat),K.lookup a=δ o/\o.cls= .type "list"/\o.dict=θ/\o.data= .seq i n/\i.size<=υ/\ax x i.toList
def aC(K:β)(H:Hp)(a:η)(x:List V):Prop:=
 Rd H a (.tup x)∨
  ∃(o:ge) (i:Array ζ) (n:Nat),K.lookup a=δ o/\o.cls= .type "tuple"/\o.data= .seq i n/\i.size<=υ/\ax x i.toList
noncomputable def HF:ζ->Option V
 | .none=>δ .non
 | .bool b=>δ (.bl b)
 | .int i _=>δ (.int i)
 | .str x _=>δ (.str x)
 | .bytes b _=>δ (.byt b)
 | .float b _=>δ (.flt b)
 | .ref a=>↑a
 | .type n=>δ (.ty n)
 |_=>θ
theorem aF.abs(r:aF x u):HF u=δ x:=by
 cases x with
 |non=>cases r;rfl
 |bl _=>cases r;rfl
 |int _=>let⟨t,rfl⟩:=r;rfl
 |str _=>let⟨t,rfl⟩:=r;rfl
 |byt _=>let⟨t,rfl⟩:=r;rfl
 |flt _=>let⟨t,rfl⟩:=r;rfl
 |ref _=>cases r;rfl
 |ty _=>cases r;rfl
theorem aF.inj{x:V}(r:aF x u)(q:aF y u):x=y:=Mh (r.abs.symm.trans q.abs)
theorem ax.inj:∀{x y:List V} {u:List ζ},ax x u->ax y u->x=y
 |_,_,_,.nil,.nil=>rfl
 |_,_,_,.cons r t,.cons R T=>by rw[r.inj R,ax.inj t T]
section
variable {X:Cx}{pins:List (η×ge)}{σ:St}{H:Hp}{s:ι}{a:η}{xs ys:List V}
theorem aJ.of{K:β}(h:H a=δ (.lst xs)):aJ K H a xs:=.inl (.inl h)
theorem aC.of{K:β}(h:H a=δ (.tup xs)):aC K H a xs:=.inl (.inl h)
theorem au.list(I:au X pins σ H s)(h:aJ X.K H a xs):∃i:List ζ,ax xs i/\PlainL s.heap a i.toArray/\xs.length<=υ:=by
 rcases h with h | ⟨o,i,n,b,c,d,f,g,r⟩
 .let⟨z,i,n,r,e⟩:=h.ok I.hok;exact#[i,r,#[_,n,e,Z,Z,Z],z]
 .refine#[i.toList,r,#[o,n,I.kIn a o b,c,d,by simpa using f],?_];let e:=r.length;simp only[LU]at e;omega
theorem au.tuple(I:au X pins σ H s)(h:aC X.K H a xs):∃i:List ζ,ax xs i/\IsTup s.heap a i.toArray/\xs.length<=υ:=by
 rcases h with h | ⟨o,i,n,b,c,d,f,r⟩
 .let⟨z,i,r,p⟩:=h.ok I.hok;exact#[i,r,p,z]
 .refine#[i.toList,r,#[o,I.kIn a o b,c,n,by simpa using d],?_];let e:=r.length;simp only[LU]at e;omega
theorem au.list_inj(I:au X pins σ H s)(h:aJ X.K H a xs)(c:aJ X.K H a ys):xs=ys:=by
 obtain⟨b,r,⟨o,n,e,_,_,d⟩,_⟩:=I.list h;obtain⟨i,R,⟨O,N,E,_,_,D⟩,_⟩:=I.list c;rw[e]at E;cases E;rw[d]at D;injection D with f _;let:b=i:=by simpa using MO mu f
 subst this;exact r.inj R
theorem au.tuple_inj(I:au X pins σ H s)(h:aC X.K H a xs)(c:aC X.K H a ys):xs=ys:=by
 obtain⟨b,r,⟨o,e,_,n,d⟩,_⟩:=I.tuple h;obtain⟨i,R,⟨O,E,_,N,D⟩,_⟩:=I.tuple c;rw[e]at E;cases E;rw[d]at D;injection D with f _;let:b=i:=by simpa using MO mu f
 subst this;exact r.inj R
end
noncomputable abbrev Cx.wish(X:Cx)(E:ζ->ι->Prop):Cx:={ X with xe:=E }
noncomputable abbrev Cx.nox(X:Cx):Cx:=X.wish λ_ _=>False
theorem Cx.Ok.wish{X:Cx}(o:X.Ok)(E:ζ->ι->Prop):(X.wish E).Ok:=
 #[o.mod,o.kind,o.glob,o.blt,o.above,o.inj,o.has,o.cab,o.hd,o.frames,o.stk,o.exf,o.bs,o.bsz,o.noex,o.exfs,o.funs,o.frf]
theorem Cx.Ok.unwish{X:Cx}(o:(X.wish E).Ok):X.Ok:=
 #[o.mod,o.kind,o.glob,o.blt,o.above,o.inj,o.has,o.cab,o.hd,o.frames,o.stk,o.exf,o.bs,o.bsz,o.noex,o.exfs,o.funs,o.frf]
section
variable {X:Cx}{pins:List (η×ge)}{σ:St}{H:Hp}{s:ι}{E:ζ->ι->Prop}
theorem au.wish(I:au X pins σ H s)(E:ζ->ι->Prop):au (X.wish E) pins σ H s:=#[I.ok.wish E,I.os,I.bare,I.base,I.loc,I.cell,I.free,I.freeC,I.pin,I.hok,I.len]
theorem au.unwish(I:au (X.wish E) pins σ H s):au X pins σ H s:=#[I.ok.unwish,I.os,I.bare,I.base,I.loc,I.cell,I.free,I.freeC,I.pin,I.hok,I.len]
theorem SP.unwish(h:SP (X.wish E) pins D f c):SP X pins D f c:=by
 cases f with
 |next=>let⟨a,b,I,q⟩:=h;exact#[a,b,I.unwish,q]
 |brk=>let⟨a,b,I,q⟩:=h;exact#[a,b,I.unwish,q]
 |cont=>let⟨a,b,I,q⟩:=h;exact#[a,b,I.unwish,q]
 |ret u=>let⟨v,a,b,I,r,q⟩:=h;exact#[v,a,b,I.unwish,r,q]
theorem mN.nox{st:List cv}(h:mN X.nox st t):mN X st t:=λpins s σ H D I a=>
 Mp (h pins s σ H D (I.wish _) a) (λ_ _ q=>q.unwish) λ_ _ z=>False.elim z
end
section
variable {X:Cx}{st:cv}{rest:List cv}{t u:TS}{e:dr}{te:TE}{pos:Pos}
def wq:TS:=λD a H=>D.nx a H
def dy(t u:TS):TS:=λD a H=>t { D with nx:=u D } a H
theorem jp:mN X [] wq:=λ_ _ a H _ I h=>N7 #[a,H,I,h]
theorem jd(b:PS X st t)(c:mN X rest u):mN X (st::rest) (dy t u):=by
 intro p s d H D I h;refine Rl$ aU (b p s d H { D with nx:=u D } I h) λf S q=>?_;cases f with
 |next=>let⟨a,g,i,q⟩:=q;exact c p S a g D i q
 |ret v=>exact q
 |brk=>exact q
 |cont=>exact q
theorem jg(a:PS X st t):mN X [st] t:=by
 intro p s b H D I h;refine Rl$ aU (a p s b H D I h) λf S q=>?_;cases f with
 |next=>exact N7 q
 |ret v=>exact q
 |brk=>exact q
 |cont=>exact q
theorem au.quiet(I:au X p a H s):interactive X.env=μ:=by simp [interactive,I.ok.kind]
def pO(te:TE):TS:=λD a H=>te a H λ_ h=>D.nx a h
theorem jQ(b:PE X e te)(c:swapsWith e θ pos.line X.env=pure μ:=by rfl):PS X (.Expr e pos) (pO te):=by intro p s a H D I h;exact wpAny_Expr_any (aU (b p s a H _ I h) λv S #[x,d,i,r,q]=>#[a,d,i,q]) I.quiet c
def fi(te:TE):TS:=λD a H=>te a H D.rt
theorem jo(b:PE X e te):PS X (.Return (δ e) pos) (fi te):=by intro p s a H D I h;exact wpAny_Return_some$ aU (b p s a H _ I h) λv S #[x,c,i,r,q]=>#[x,a,c,i,r,q]
def i5(c:TT)(t u:TS):TS:=λD a H=>c a H λb h=>if b=ν then t D a h else u D a h
theorem jx{c:dr}{a b:List cv}{T:TT}(j:PT X c T)(k:mN X a t)(l:mN X b u):PS X (.If c a b pos) (i5 T t u):=by
 intro p s f H D I h;refine wpAny_If$ aU (j p s f H _ I h) λd S z=>?_;let⟨g,i,q⟩:=z;cases d with
 |true=>exact k p S f g D i q
 |false=>exact l p S f g D i q
end
abbrev TG:=V->St->Hp->(St->Hp->Prop)->Prop
abbrev xf:=List V->St->Hp->(St->Hp->Prop)->Prop
def PG(X:Cx)(T:dr)(t:TG):Prop:=
 ∀(p:List (η×ge)) (s:ι) (b:St) (H:Hp) (v:V) (u:ζ) (Q:St->Hp->Prop),au X p b H s->aF v u->t v b H Q->
  π (χ X.prog X.w) X.A (assign T X.env u) (λ_ S=>∃a h,au X p a h S/\Q a h) X.xe s
def En(X:Cx)(T:List dr)(t:xf):Prop:=
 ∀(p:List (η×ge)) (s:ι) (b:St) (H:Hp) (v:List V) (u:List ζ) (Q:St->Hp->Prop),au X p b H s->ax v u->t v b H Q->
  π (χ X.prog X.w) X.A (assignInOrder ((assignEach T X.env).map (·.2)) u) (λ_ S=>∃a h,au X p a h S/\Q a h) X.xe s
abbrev BF:=V->V->V->Hp->(Hp->Prop)->Prop
def EH(X:Cx)(t:BF):Prop:=
 ∀(p:List (η×ge)) (s:ι) (a:St) (H:Hp) (o i v:V) (O I u:ζ) (Q:Hp->Prop),au X p a H s->aF o O->aF i I->aF v u->t o i v H Q->
  π (χ X.prog X.w) X.A (setItem O I u) (λ_ S=>∃h,au X p a h S/\Q h) X.xe s
abbrev Hu:=V->V->Hp->VK->Prop
def IK(X:Cx)(o:Operator)(t:Hu):Prop:=
 ∀(p:List (η×ge)) (s:ι) (a:St) (H:Hp) (x y:V) (v u:ζ) (Q:VK),au X p a H s->aF x v->aF y u->t x y H Q->
  π (χ X.prog X.w) X.A (inplaceOp o v u) (EP X p a Q) X.xe s
section
variable {X:Cx}{pos:Pos}
def bE(i:Nat):TG:=λv a H Q=>Q (a.set i$ δ v) H
theorem jw{i:Nat}{x:ρ}(a:X.N.Nodup)(b:X.N[i]?=δ x)(c:pW X.env.scope x)(d:X.fn x=ν∨X.env.scope.names.lookup x=δ .local:=by first |exact .inl Z |exact .inr Z |assumption):PG X (.Name x pos) (bE i):=by intro p s f H v u Q I r h;exact TB$ kn I a b c r (λS e=>#[_,H,e,h]) d
def tH:xf:=λv a H Q=>v=[]/\Q a H
inductive dA(t:TG)(u:xf)(a:List V)(b:St)(H:Hp)(Q:St->Hp->Prop):Prop
 |mk(v r:_)(_:a=v::r)(_:t v b H λσ' H'=>u r σ' H' Q)
theorem kE:En X [] tH:=by intro p s a H v u Q I r h;let⟨e,h⟩:=h;subst e;cases r;exact assignInOrder_nil #[a,H,I,h]
theorem jB(b:PG X e t)(c:En X E u)
  (d:(assignEach (e::E) X.env).map (·.2)=assign e X.env::(assignEach E X.env).map (·.2):=by rfl):En X (e::E) (dA t u):=by
 intro p s f H V U Q I r h;let⟨v,k,g,h⟩:=h;subst g;cases r with
 |cons r R=>rw[d];refine assignInOrder_cons$ aU (b p s f H _ _ _ I r h) λ_ S z=>?_;let⟨a,i,j,q⟩:=z;exact c p S a i _ _ Q j R q
inductive rh(K:β)(n:Nat)(t:xf)(v:V)(c:St)(H:Hp)(Q:St->Hp->Prop):Prop
 |mk(a b:_)(_:v= .ref a)(_:aC K H a b)(_:b.length=n)(_:t b c H Q)
theorem zM{n:Nat}(g:X.calm=ν)(h:En X E t)
  (i:(assignEach E X.env).length=n:=by rfl) (c:(assignEach E X.env).findIdx? (·.1)=θ:=by rfl):PG X (.Tuple E k pos) (rh X.K n t):=by
 intro p s f H v u Q I r d;let⟨a,x,j,l,m,d⟩:=d;subst j;cases r;let⟨q,R,w,B⟩:=I.tuple l;refine assign_Tuple_tuple (I.ok.hd g) w (by simp [i,<- m,R.length]) c λy z=>?_;let A:au X p f H { s with heap:=y }:=I.kept (t':=s.toks) λb o e=>z b o (LC$ Lz e) e;exact h p _ f H x _ Q A (by simpa using R) d
def Ci(T b:TE)(t:BF):TG:=λv a H Q=>T a H λo h=>b a h λi c=>t o i v c λd=>Q a d
theorem qO{o i:dr}{T c:TE}{t:BF}(d:PE X o T)(e:PE X i c)(f:EH X t)
  (g:∀v,assign (.Subscript o i pos) X.env v=(do
   let O <- iv [v] (eval o X.env)
   let a <- iv [v,O] (eval i X.env)
   standAt pos
   iv [v,O,a] (setItem O a v)
   release [v,O,a] []):=by intro _;rfl):PG X (.Subscript o i pos) (Ci T c t):=by
 intro p s b H v u Q I r h;rw[g];refine Lr$ LI$ aU (d p s b H _ I h) λO S z=>?_;let⟨x,j,k,R,q⟩:=z;refine Lr$ LI$ aU (e p S b j _ k q) λa l z=>?_;let⟨y,m,n,w,A⟩:=z;refine Lr$ Nw$ Lr$ LI$ aU (f p l b m x y v O a u _ n R w r A) λ_ E z=>?_;let⟨B,C,D⟩:=z;exact wpAny_release #[b,B,C,D]
def eu(t:TE)(g:TG):TS:=λD a H=>t a H λx h=>g x a h D.nx
theorem zf{t e:dr}{T:TE}{g:TG}(b:PE X e T)(c:PG X t g)(d:swapsWithSole [t] e pos.line X.env=pure μ:=by rfl)(f:swappedStores [t] e X.env=pure θ:=by rfl)
  (i:(assignEach [t] X.env).map (·.2)=[assign t X.env]:=by rfl):PS X (.Assign [t] e pos) (eu T g):=by
 intro p s a H D I h;refine wpAny_Assign_stores (aU (b p s a H _ I h) λv S z=>?_) d f;let⟨x,j,k,r,Q⟩:=z;rw[i];exact aU (c p S a j x v _ k r Q) λ_ l q=>q
theorem zc{i:Nat}{x:ρ}{e:dr}{t:TE}{p:Pos}(a:X.N.Nodup)(b:X.N[i]?=δ x)(c:pW X.env.scope x)(d:PE X e t)(f:swapsWith e (δ$ .Name x p) pos.line X.env=pure μ:=by rfl)(g:X.fn x=ν∨X.env.scope.names.lookup x=δ .local:=by first |exact .inl Z |exact .inr Z |assumption):
  PS X (.Assign [.Name x p] e pos) (eu t$ bE i):=by
 intro P s j H D I h;refine TC (aU (d P s j H _ I h) λv S z=>?_) f;let⟨y,k,l,r,q⟩:=z;exact kn l a b c r (λn m=>#[_,k,m,q]) g
inductive GF(i:Nat)(a:TE)(b:Hu)(D:a7)(c:St)(H:Hp):Prop
 |mk(x:_)(_:c[i]?=δ (δ x))(_:a c H λy H1=>b x y H1 λz H2=>D.nx (c.set i (δ z)) H2)
theorem Dx{i:Nat}(q:X.N.Nodup)(g:X.N[i]?=δ x)(f:pW X.env.scope x)(t:PE X e T)(B:IK X o C)(E:X.fn x=ν∨X.env.scope.names.lookup x=δ .local:=by first |exact .inl Z |exact .inr Z |assumption):
  PS X (.AugAssign (.Name x j) o e pos) (GF i T C):=by
 intro p s n H D I h;let⟨v,F,h⟩:=h;let⟨m,J,K⟩:=I.loc;let V:He X.env.scope x:=by rcases f with k |k;exact .inl k;exact .inr$ .inl k
 let⟨u,r,l⟩:=K i x v g F V;refine wpAny_AugAssign_Name ?_;let G:π (χ X.prog X.w) X.A (eval e X.env) (λw S=>π (χ X.prog X.w) X.A (inplaceOp o u w) (λr d=>π (χ X.prog X.w) X.A (storeName X.env x r) (λ_=>SP X p D .next) X.xe d) X.xe S) X.xe s:=by refine aU (t p s n H _ I h) λw L a=>?_;let⟨y,M,O,R,Q⟩:=a;refine aU (B p L n M v y u w _ O r R Q) λz s2 a=>?_;let⟨zv,P,U,W,Y⟩:=a;exact kn U q g f W (λs3 I3=>#[_,P,I3,Y]) E
 rcases l with ⟨hk,hm⟩ | ⟨hk,c,hc,b⟩
 .exact SW I.ok.kind hk J hm G
 .rcases hk with hk |hk
  .exact Tg I.ok.kind hk hc b G
  .rcases f with k |k
   .let:X.env.scope.names.lookup x=δ .free:=hk;rw[k]at this;cases this
   .let:X.env.scope.names.lookup x=δ .free:=hk;rw[k]at this;cases this
inductive IS(f:Int->Int->Int)(x y:V)(H:Hp)(Q:VK):Prop
 |mk(i j:_)(_:x= .int i)(_:y= .int j)(_:Q (.int (f i j)) H)
theorem Cu:IK X .Add (IS λi j=>i+j):=by intro p s a H x y v u Q I r R h;let⟨i,j,e,E,q⟩:=h;subst e;subst E;let⟨t,rfl⟩:=r;let⟨T,rfl⟩:=R;exact iadd_int #[.int _,H,I.tok _,#[_,Z],q]
end
section
variable {X:Cx}{pos:Pos}
def ww(c:TT)(t:TS):TS:=λD a H=>∃W:Nat->St->Hp->Prop,(∃m,W m a H)/\∀m a H,W m a H->
 c a H λb h=>if b=ν then ∃N:St->Hp->Prop,(∀d e,N d e->∃M,M < m/\W M d e)/\t { D with nx:=N,ct:=N,bk:=D.nx } a h else D.nx a h
theorem Kt(o:PassesOwn (χ X.prog X.w) X.A X.env X.xe)(E:PT X c T)(F:mN X B G):PS X (.While c B [] pos) (ww T G):=by
 intro p s J H D I h;obtain⟨W,⟨M,K⟩,t⟩:=h;refine wpAny_While$ codeAny_whileLoop (λn S=>∃e r,au X p e r S/\W n e r) ?_ M #[J,H,I,K];rintro n L ⟨d,u,O,P⟩;refine NK o$ aU (E p L d u _ O$ t n d u P) λb R z=>?_;let⟨x,y,q⟩:=z;cases b with
 |true=>
  let⟨N,C,q⟩:=q;rw[LP Z];refine NK o$ aU (F p R d x _ y q) λf U Q=>?_;cases f with
  |next=>let⟨a,g,i,j⟩:=Q;let⟨m,k,l⟩:=C a g j;exact#[m,k,a,g,i,l]
  |cont=>let⟨a,g,i,j⟩:=Q;let⟨m,k,l⟩:=C a g j;exact#[m,k,a,g,i,l]
  |brk=>exact Q
  |ret v=>exact Q
 |false=>rw[LV LD];exact N7 #[d,x,y,q]
end
structure It where
 go:Nat->Hp->Prop
 yld:Nat->Hp->V->Hp->Prop
 stop:Nat->Hp->Prop
def fQ(X:Cx)(P:List (η×ge))(H:Hp)(b:η):Prop:=
 H b=θ/\b≠X.env.locals/\b∉X.fs/\(b∈X.ex∨X.s₀.heap.objs.size<=b)/\(∀x c,X.env.cells.lookup x=δ c->c≠b)/\∀p∈X.pn++P,p.1≠b
theorem au.fpOk{X:Cx}{d:Hp}(I:au X a i H s)(h:s.heap.objs.size<=b)(f:d b=θ):fQ X a d b:=by
 refine#[f,Mv$ LH I.lt h,I.nofs h,.inr$ LJ I.sz h,λx c e z=>?_,λp g z=>?_]
 .let⟨v,q⟩:=I.cell x c e;exact absurd (LH q.lt (by rw[z];exact h))$ ML _
 .exact absurd (LH (Lz (I.pin p g).1) (by rw[z];exact h))$ ML _
structure oh(P:ψ)(w:bU)(K:β)(tg:dr)(J:It)(fp:List η)(it:η)(tn:Nat->cJ->Prop):Prop where
 mem:it∈fp
 obj:∀i h,tn i h->∀b∈fp,∃o,h.get? b=δ o/\∀v,o.data≠ .cell v
 keep:∀i h h',tn i h->(∀b∈fp,∀o,h.get? b=δ o->h'.get? b=δ o)->tn i h'
 item:∀(X:Cx),X.prog=P->X.w=w->X.K=K->X.calm=ν->∀(i:Nat) (pins:List (η×ge)) (s:ι) (σ:St) (H:Hp) (E:ζ->ι->Prop),au X pins σ H s->(∀b∈fp,fQ X pins H b)->tn i s.heap->J.go i H->
  π (χ P w) X.A (pyNext$ .ref it) (λr s1=>∃u,r=δ u/\
   π (χ P w) X.A (letOwnedTupleGo tg (.ref it) u) (λ_ s2=>∃x H',au X pins σ H' s2/\aF x u/\J.yld i H x H'/\tn (i+1) s2.heap/\∀b∈fp,H' b=θ) E s1) E s
 done:∀(X:Cx),X.prog=P->X.w=w->X.K=K->X.calm=ν->∀(i:Nat) (pins:List (η×ge)) (s:ι) (σ:St) (H:Hp) (E:ζ->ι->Prop),au X pins σ H s->(∀b∈fp,fQ X pins H b)->tn i s.heap->J.stop i H->
  π (χ P w) X.A (pyNext$ .ref it) (λr s1=>r=θ/\au X pins σ H s1) E s
 self:∀(A:bS) (i:Nat) (s:ι) (Q:ζ->ι->Prop) (E:ζ->ι->Prop),tn i s.heap->Q (.ref it) s->π (χ P w) A (pyIter$ .ref it) Q E s
abbrev TI:=St->Hp->(It->Hp->Prop)->Prop
def IJ(X:Cx)(p:List (η×ge))(a:St)(T:dr)(R:It->Hp->Prop)(i:ζ)(s:ι):Prop:=
 ∃(I:η) (f:List η) (t:Nat->cJ->Prop) (J:It) (H:Hp),i= .ref I/\au X p a H s/\oh X.prog X.w X.K T J f I t/\t 0 s.heap/\(∀b∈f,fQ X p H b)/\R J H
def PI(X:Cx)(t iter:dr)(W:TI):Prop:=
 ∀(p:List (η×ge)) (s:ι) (a:St) (H:Hp) (R:It->Hp->Prop),au X p a H s->W a H R->
  π (χ X.prog X.w) X.A (eval iter X.env) (λv S=>π (χ X.prog X.w) X.A (pyIter v) (IJ X p a t R) X.xe S) X.xe s
theorem Y2{s : ι}{n : String}{Q : Unit -> ι -> Prop}(a : s.heap.get? i = δ o)(b : o.cls = .type n)(c : o.data = .fields v)
    (d : ["enumerate", "zip", "dict_itemiterator", "dict_reverseitemiterator", "odict_iterator", "itertools.zip_longest", "itertools.pairwise"].contains n = μ) (H : Q () s) : π M A (letOwnedTupleGo t (.ref i) u) Q E s := by
  unfold letOwnedTupleGo;cases t <;> first
    | exact Lu H
    | (cases u <;> first
        | exact Lu H
        | (refine Lr (Tu a ?_)
           rw [b, c];show π M A (if (["enumerate", "zip", "dict_itemiterator", "dict_reverseitemiterator", "odict_iterator", "itertools.zip_longest", "itertools.pairwise"].contains n && v[0]? == δ (rawInt _)) = ν then _ else _) Q E s;rw [LV (by intro h; rw [d, Tt] at h; cases h)];exact Lu H))
noncomputable def wW(K:β)(a:η):It:=
 #[λi H=>∃X x,aJ K H a X/\X[i]?=δ x,λi H x h=>h=H/\∀X,aJ K H a X->X[i]?=δ x,λi H=>∃X,aJ K H a X/\X.length<=i]
noncomputable def wX(K:β)(a:η):It:=
 #[λi H=>∃X x,aC K H a X/\X[i]?=δ x,λi H x h=>h=H/\∀X,aC K H a X->X[i]?=δ x,λi H=>∃X,aC K H a X/\X.length<=i]
noncomputable def wM(lo:Int)(n:Nat):It:=#[λi _=>i < n,λi H x h=>h=H/\x= .int (lo+i),λi _=>n<=i]
theorem ZR{P:ψ}{K:β}(a g:η):oh P w K tg (wW K a) [g] g (λi h=>h.IsListIter g a i) where
 mem:=by simp
 obj:=λi h st b j=>by
  let e:b=g:=by simpa using j
  subst e;let⟨o,e,c,d⟩:=st;exact#[o,e,λv z=>by rw[d]at z;cases z]
 keep:=λi h l st k=>st.at λo e=>k g UL o e
 item:=by intro X q r t L i f s M H E I m st y;subst q r t;let⟨N,x,n,A⟩:=y;let⟨B,R,p,O⟩:=I.list n;let⟨u,Q,T⟩:=R.get A;let⟨F,C,U,D,G,J⟩:=m g UL;refine Su st p.isList (x:=u) (by simpa using Q) λl S V=>?_;let W:au X f M H { s with heap:=l }:=I.turned (t':=s.toks) (λb o j e=>(V.2 b j).trans e) F C D G J;let⟨o,e,c,d⟩:=id S;exact#[u,Z,Y2 (s:={ s with heap:=l }) e c d UJ #[x,H,W,T,#[Z,λys Y=>by rw[I.list_inj Y n];exact A],S,λb j=>(m b j).1]]
 done:=by intro X q r t L i f s M H E I m st y;subst q r t;let⟨N,n,A⟩:=y;let⟨B,R,p,O⟩:=I.list n;let⟨F,C,U,D,G,J⟩:=m g UL;let hl:=R.length;exact SJ (I.ok.hd L) st p.isList (by simp;omega) λl eb=>#[Z,I.turned (t':=s.toks) (λb o j e=>eb b o j e) F C D G J]
 self:=λ_ _ _ _ _ st h=>wpAny_pyIter_listiter st h
theorem Yn{P:ψ}{K:β}(a g:η):oh P w K tg (wX K a) [g] g (λi h=>h.IsTupleIter g a i) where
 mem:=by simp
 obj:=λi h st b j=>by
  let e:b=g:=by simpa using j
  subst e;let⟨o,e,c,d⟩:=st;exact#[o,e,λv z=>by rw[d]at z;cases z]
 keep:=λi h m st k=>st.at λo e=>k g UL o e
 item:=by intro X r t y L i f s M H E I n st A;subst r t y;let⟨N,x,q,B⟩:=A;let⟨l,R,p,O⟩:=I.tuple q;let⟨u,Q,T⟩:=R.get B;let⟨F,C,U,D,G,J⟩:=n g UL;refine wpAny_pyNext_tuple_item st (show s.heap.IsTuple a l.toArray from p) (x:=u) (by simpa using Q) λm S V=>?_;let W:au X f M H { s with heap:=m }:=I.turned (t':=s.toks) (λb o j e=>(V.2 b j).trans e) F C D G J;let⟨o,e,c,d⟩:=id S;exact#[u,Z,Y2 (s:={ s with heap:=m }) e c d UJ #[x,H,W,T,#[Z,λys Y=>by rw[I.tuple_inj Y q];exact B],S,λb j=>(n b j).1]]
 done:=by intro X r t y L i f s M H E I n st A;subst r t y;let⟨N,q,B⟩:=A;let⟨l,R,p,O⟩:=I.tuple q;let⟨F,C,U,D,G,J⟩:=n g UL;let hl:=R.length;exact wpAny_pyNext_tuple_end (I.ok.hd L) st (show s.heap.IsTuple a l.toArray from p) (by simp;omega) λm eb=>#[Z,I.turned (t':=s.toks) (λb o j e=>eb b o j e) F C D G J]
 self:=λ_ _ _ _ _ st h=>wpAny_pyIter_tupleiter st h
theorem Yo{P:ψ}{K:β}(a:η)(lo:Int)(n:Nat):oh P w K M (wM lo n) [a] a (λi h=>IsRangeIter h a (lo+(i:Nat)*1) ((n:Int) - (i:Nat)) 1) where
 mem:=by simp
 obj:=λi h st b c=>by
  let e:b=a:=by simpa using c
  subst e;exact#[_,st,λv z=>by
   let B:Data.fields _=Data.cell v:=z;cases B]
 keep:=λi h d st k=>k a UL _ st
 item:=by intro X g j l m i p s A H E I f st q;subst g j l;let⟨F,r,C,u,x,y⟩:=f a UL;let W:=Walks.range (prog:=X.prog) (w:=X.w) (I.ok.hd m) a lo 1 n;refine W.item i s _ _ q st λv d T D S G=>?_;let⟨t,rfl⟩:=D;let J:au X p A H { s with heap:=d,toks:=T }:=I.turned (λb o c e=>G b o (by simpa using c) e) F r u x y;refine#[_,Z,Y2 (s:={ s with heap:=d,toks:=T }) (n:="range_iterator") S Z Z UJ #[.int$ lo+i,H,J,#[t,?_],#[Z,Z],S,λb c=>(f b c).1]];rw[Int.mul_one]
 done:=by intro X g j l m i p s A H E I f st q;subst g j l;let⟨F,r,C,u,x,y⟩:=f a UL;exact wpAny_pyNext_range_end (I.ok.hd m) st (by let:n<=i:=q;omega) λd L=>#[Z,I.turned (t':=s.toks) (λb o c e=>L b o c e) F r u x y]
 self:=λ_ _ _ _ _ st h=>wpAny_pyIter_rangeiter st h
section
variable {X:Cx}{tg:dr}
inductive tQ(K:β)(R:It->Hp->Prop)(x:V)(b:Hp):Prop
 |mk(a:_)(_:x= .ref a)(_:∃xs,aJ K b a xs)(_:R (wW K a) b)
def AY(K:β)(t:TE):TI:=λa H R=>t a H (tQ K R)
inductive A0(K:β)(R:It->Hp->Prop)(x:V)(b:Hp):Prop
 |mk(a:_)(_:x= .ref a)(_:∃xs,aC K b a xs)(_:R (wX K a) b)
def HV(K:β)(t:TE):TI:=λa H R=>t a H (A0 K R)
theorem qC(c:PE X l t):PI X tg l (AY X.K t):=by
 intro P s d H R I h;refine aU (c P s d H _ I h) λv S z=>?_;let⟨x,f,i,r,Q⟩:=z;obtain⟨a,e,⟨m,g⟩,q⟩:=Q;subst e;cases r;let⟨j,n,p,u⟩:=i.list g;refine OT p.isList ?_;refine#[S.heap.objs.size,[S.heap.objs.size],_,_,f,Z,i.kept (t':=S.toks) λb o e=>Lv _ e,ZR a _,#[_,LB _ Z,Z,Z],λb k=>?_,q];let e:b=S.heap.objs.size:=by simpa using k
 subst e;exact i.fpOk (Lx _)$ i.hok.fresh$ Lx _
theorem zN(d:PE X l t):PI X tg l (HV X.K t):=by
 intro P s f H R I h;refine aU (d P s f H _ I h) λv S z=>?_;let⟨x,g,i,r,Q⟩:=z;obtain⟨a,e,⟨m,j⟩,q⟩:=Q;subst e;cases r;let⟨c,n,p,u⟩:=i.tuple j;refine N8 (show S.heap.IsTuple a c.toArray from p) ?_;refine#[S.heap.objs.size,[S.heap.objs.size],_,_,g,Z,i.kept (t':=S.toks) λb o e=>Lv _ e,Yn a _,#[_,LB _ Z,Z,Z],λb k=>?_,q];let e:b=S.heap.objs.size:=by simpa using k
 subst e;exact i.fpOk (Lx _)$ i.hok.fresh$ Lx _
theorem Xn{R:It->Hp->Prop}{lo:Int}(I:au X p a H s)(c: -(2 ^ 62)<=lo)(d:lo < 2 ^ 62)(f: -(2 ^ 62)<=h)(g:h < 2 ^ 62)
  (q:R (wM lo (h - lo).toNat) H):π (χ X.prog X.w) X.A (pyIter$ .ref s.heap.objs.size) (IJ X p a tg R) E { s with heap:=s.heap.push { cls:=.type "range",data:=.fields (ε [.int lo t,.int h u,.int 1 v]) },toks:=T }:=by
 refine wpAny_pyIter_range (IsRange.new ..) (small_one c d f g) ?_;let i:au X p a H { s with heap:=s.heap.push { cls:=.type "range",data:=.fields (ε [.int lo t,.int h u,.int 1 v]) },toks:=T }:=I.kept λb o e=>Lv _ e;refine#[(s.heap.push { cls:=.type "range",data:=.fields (ε [.int lo t,.int h u,.int 1 v]) }).objs.size,[(s.heap.push { cls:=.type "range",data:=.fields (ε [.int lo t,.int h u,.int 1 v]) }).objs.size],_,_,H,Z,
  i.kept (t':=T) λb o e=>Lv _ e,Yo _ lo (h - lo).toNat,?_,λb j=>?_,q]
 .let k:lo+((0:Nat):Int)*1=lo:=by simp
  let l:(((h - lo).toNat:Nat):Int) - ((0:Nat):Int)=Builtin.Range.rangeSize lo h 1:=by rw[rangeSize_one];split<;>omega
  show IsRangeIter _ _ (lo+((0:Nat):Int)*1) ((((h - lo).toNat:Nat):Int) - ((0:Nat):Int)) 1;rw[k,l];exact LB _ Z
 .let e:b=(s.heap.push { cls:=.type "range",data:=.fields (ε [.int lo t,.int h u,.int 1 v]) }).objs.size:=by simpa using j
  subst e;exact i.fpOk (Lx _)$ i.hok.fresh$ Lx _
inductive tR(R:It->Hp->Prop)(b:List V)(a:Hp):Prop
 |mk(j:Int)(_:b=[.int j])(_:-(2 ^ 62)<=j)(_:j < 2 ^ 62)(_:R (wM 0 j.toNat) a)
def Fi(t:TA):TI:=λa H R=>t a H (tR R)
inductive tS(R:It->Hp->Prop)(b:List V)(a:Hp):Prop
 |mk(i j:Int)(_:b=[.int i,.int j])(_:-(2 ^ 62)<=i/\i < 2 ^ 62/\ -(2 ^ 62)<=j/\j < 2 ^ 62)(_:R (wM i (j - i).toNat) a)
def Fj(t:TA):TI:=λa H R=>t a H (tS R)
theorem kY{a:dr}{T:TA}{p P:Pos}(c:Gl X "range")(d:X.mg "range"=θ)(f:PA X [a] T)(g:Θ [a] X.env=[(μ,eval a X.env)]:=by rfl):PI X tg (.Call (.Name "range" p) [a] [] P) (Fi T):=by
 intro b s i H R I h;refine Call_$ zu I c d boot_range$ Mn (aU (f P b s i H _ I h) λu S z=>?_) g Z;let⟨v,o,k,l,Q⟩:=z;let⟨j,e,Q,m,q⟩:=Q;subst e;cases l with
 |cons r n=>cases n;let⟨t,rfl⟩:=r;exact call_range_1$ Xn k UK UK Q m (by simpa using q)
theorem Qu(g:Gl X "range")(k:X.mg "range"=θ)(l:PA X [a,b] T)(m:Θ [a,b] X.env=[(μ,eval a X.env),(μ,eval b X.env)]:=by rfl)(c:Θ [b] X.env=[(μ,eval b X.env)]:=by rfl):
  PI X tg (.Call (.Name "range" p) [a,b] [] d) (Fj T):=by
 intro P s n H R I h;refine Call_$ zu I g k boot_range$ Mn (aU (l d P s n H _ I h) λU S #[V,z,o,u,Q]=>?_) (by rw[m,c]) (by rw[c];rfl);obtain⟨i,j,e,⟨Q,v,w,x⟩,q⟩:=Q;subst e;cases u with
 |cons r f=>
  cases f with
  |cons y f=>cases f;let⟨t,rfl⟩:=r;let⟨A,rfl⟩:=y;exact call_range_2$ Xn o Q v w x q
def D7(w:TI)(g:TG)(t:TS):TS:=λD a H=>w a H λJ d=>∃W:Nat->Nat->St->Hp->Prop,(∃m,W 0 m a d)/\∀i m a H,W i m a H->
 (J.stop i H/\D.nx a H)∨(J.go i H/\∃N:St->Hp->Prop,(∀b h,N b h->∃M,M < m/\W (i+1) M b h)/\∀x h,J.yld i H x h->g x a h λc e=>t { D with nx:=N,ct:=N,bk:=D.nx } c e)
noncomputable def lU(f:List η)(h:cJ):List (η×ge):=f.filterMap λb=>(h.get? b).map λo=>(b,o)
theorem zh{h:cJ}(H:b∈f)(e:h.get? b=δ o):(b,o)∈lU f h:=List.mem_filterMap.mpr #[b,H,by rw[e];rfl]
theorem ZS(H:p∈lU f h):p.1∈f/\h.get? p.1=δ p.2:=by
 let⟨b,a,e⟩:=List.mem_filterMap.mp H;cases q:h.get? b with
 |none=>rw[q]at e;cases e
 |some o=>rw[q]at e;let E:(b,o)=p:=Mh e;subst E;exact#[a,q]
theorem au.pinned(I:au X a c H s)(g:∀b∈f,fQ X a H b)(i:∀b∈f,∃o,s.heap.get? b=δ o/\∀v,o.data≠ .cell v):au X (a++lU f s.heap) c H s:=
 I.pins_of λp j=>(γ.mp j).elim (λz=>I.pin p (LQ _ z)) λz=>by let⟨h,e⟩:=ZS z;let⟨F,k,l,_⟩:=g p.1 h;let⟨o,E,d⟩:=i p.1 h;rw[e]at E;cases E;exact#[e,F,k,l,d]
theorem au.unpinned(I:au X (a++c) b H s):au X a b H s:=I.pins_of λp h=>I.pin p (LQ _$ MV _ h)
theorem ki{iter:dr}{B:List cv}{wi:TI}{g:TG}{tb:TS}{P:Pos}(C:PassesOwn (χ X.prog X.w) X.A X.env X.xe)(hc:X.calm=ν)(hi:PI X tg iter wi)(hg:PG X tg g)(c:mN X B tb)
  (hs:∀x,foldedSetIterable iter X.env x=pure x:=by intro _;rfl):PS X (.For tg iter B [] P) (D7 wi g tb):=by
 intro p s σ H D I h;refine wpAny_For (aU (hi p s σ H _ I h) λv s1 h1=>aU h1 λi0 s2 h2=>?_) hs;obtain⟨it,F,tn,J,H2,e,I2,T,O,f2,W,⟨m0,w0⟩,E⟩:=h2;subst e;let S:∀{t:Hp},(∀b∈F,t b=θ)->∀b∈F,fQ X p t b:=λhn b c=>#[hn b c,(f2 b c).2];refine codeAny_forLoop_any (λn s'=>∃i j t,au X p j t s'/\tn i s'.heap/\(∀b∈F,t b=θ)/\W i n j t) ?_ m0 #[0,σ,H2,I2,O,λb c=>(f2 b c).1,w0];rintro n s3 ⟨i,k,M,I3,G,K,w3⟩;rcases E i n k M w3 with ⟨stop,qn⟩ | ⟨go,N,hN,step⟩
 .refine NK C$ aU (T.done X Z Z Z hc i p s3 k M X.xe I3 (S K) G stop) λr s4 z=>?_;let⟨R,I4⟩:=z;subst R;exact N7 #[k,M,I4,qn]
 .refine NK C$ aU (T.item X Z Z Z hc i p s3 k M X.xe I3 (S K) G go) λr s4 z=>?_;let⟨u,R,h4⟩:=z;subst R;refine NK C$ aU h4 λ_ s5 z=>?_;let⟨x,H5,I5,r5,y5,y,U⟩:=z;let V:=I5.pinned (S U) (T.obj _ _ y);refine NK C$ aU (hg _ s5 k H5 x u _ V r5$ step x H5 y5) λ_ s6 z=>?_;let⟨Y,H6,I6,q6⟩:=z;refine NK C$ aU (c _ s6 Y H6 _ I6 q6) λf s7 Q=>?_;let again:∀{a:St} {l:Hp},au X (p++lU F s5.heap) a l s7->N a l->∃m,m < n/\∃i j t,au X p j t s7/\tn i s7.heap/\(∀b∈F,t b=θ)/\W i m j t:=λ{a l} q L=>by let⟨m',hm,w7⟩:=hN a l L;refine#[m',hm,i+1,a,l,q.unpinned,T.keep _ _ _ y λb c o e=>(q.pin (b,o)$ LQ _$ LQ _$ zh c e).1,λb c=>?_,w7];let⟨o,e,d⟩:=T.obj _ _ y b c;exact(q.pin (b,o)$ LQ _$ LQ _$ zh c e).2.1
  cases f with
  |next=>let⟨a,l,q,L⟩:=Q;exact again q L
  |cont=>let⟨a,l,q,L⟩:=Q;exact again q L
  |brk=>let⟨a,l,q,Q⟩:=Q;exact#[a,l,q.unpinned,Q]
  |ret v=>let⟨x7,a,l,q,r7,Q⟩:=Q;exact#[x7,a,l,q.unpinned,r7,Q]
end
theorem tq{K:β}{a:η}{X:List V}{g:TG}{t:TS}{D:a7}{b:St}{H:Hp}(Pv:Nat->St->Hp->Prop)(k:Pv 0 b H)(l:∀i b H,i<=X.length->Pv i b H->aJ K H a X)
  (n:∀i x b H,X[i]?=δ x->Pv i b H->g x b H λc j=>t { D with nx:=Pv (i+1),ct:=Pv (i+1),bk:=D.nx } c j) (o:∀b H,Pv X.length b H->D.nx b H):
  ∃W:Nat->Nat->St->Hp->Prop,(∃m,W 0 m b H)/\∀i m b H,W i m b H->
   ((wW K a).stop i H/\D.nx b H)∨((wW K a).go i H/\∃N:St->Hp->Prop,(∀d h,N d h->∃M,M < m/\W (i+1) M d h)/\∀x h,(wW K a).yld i H x h->g x b h λc j=>t { D with nx:=N,ct:=N,bk:=D.nx } c j):=by
 refine#[λi m b H=>m=X.length - i/\i<=X.length/\Pv i b H,#[X.length,UL,LF _,k],?_];rintro i m b H ⟨rfl,r,p⟩;let q:=l i b H r p;by_cases f:i < X.length
 .refine .inr #[#[X,X[i],q,by simp [f]],Pv$ i+1,λd h P=>#[X.length - (i+1),UK,Z,f,P],λx h y=>?_];let⟨e,y⟩:=y;subst e;exact n i x b _ (y X q) p
 .let e:i=X.length:=by omega
  subst e;exact .inl #[#[X,q,Lx _],o b H p]
theorem xJ{K:β}{a:η}{X:List V}{g:TG}{t:TS}{D:a7}{b:St}{H:Hp}(Pv:Nat->St->Hp->Prop)(k:Pv 0 b H)(l:∀i b H,i<=X.length->Pv i b H->aC K H a X)
  (n:∀i x b H,X[i]?=δ x->Pv i b H->g x b H λc j=>t { D with nx:=Pv (i+1),ct:=Pv (i+1),bk:=D.nx } c j) (o:∀b H,Pv X.length b H->D.nx b H):
  ∃W:Nat->Nat->St->Hp->Prop,(∃m,W 0 m b H)/\∀i m b H,W i m b H->
   ((wX K a).stop i H/\D.nx b H)∨((wX K a).go i H/\∃N:St->Hp->Prop,(∀d h,N d h->∃M,M < m/\W (i+1) M d h)/\∀x h,(wX K a).yld i H x h->g x b h λc j=>t { D with nx:=N,ct:=N,bk:=D.nx } c j):=by
 refine#[λi m b H=>m=X.length - i/\i<=X.length/\Pv i b H,#[X.length,UL,LF _,k],?_];rintro i m b H ⟨rfl,r,p⟩;let q:=l i b H r p;by_cases f:i < X.length
 .refine .inr #[#[X,X[i],q,by simp [f]],Pv$ i+1,λd h P=>#[X.length - (i+1),UK,Z,f,P],λx h y=>?_];let⟨e,y⟩:=y;subst e;exact n i x b _ (y X q) p
 .let e:i=X.length:=by omega
  subst e;exact .inl #[#[X,q,Lx _],o b H p]
theorem Qv{lo:Int}{n:Nat}{g:TG}{t:TS}{D:a7}{a:St}{H:Hp}(Pv:Nat->St->Hp->Prop)(j:Pv 0 a H)
  (k:∀i a H,i < n->Pv i a H->g (.int$ lo+i) a H λb f=>t { D with nx:=Pv (i+1),ct:=Pv (i+1),bk:=D.nx } b f) (l:∀a H,Pv n a H->D.nx a H):
  ∃W:Nat->Nat->St->Hp->Prop,(∃m,W 0 m a H)/\∀i m a H,W i m a H->
   ((wM lo n).stop i H/\D.nx a H)∨((wM lo n).go i H/\∃N:St->Hp->Prop,(∀c h,N c h->∃M,M < m/\W (i+1) M c h)/\∀x h,(wM lo n).yld i H x h->g x a h λb f=>t { D with nx:=N,ct:=N,bk:=D.nx } b f):=by
 refine#[λi m a H=>m=n - i/\i<=n/\Pv i a H,#[n,UL,LF _,j],?_];rintro i m a H ⟨rfl,o,p⟩;by_cases d:i < n
 .refine .inr #[d,Pv$ i+1,λc h P=>#[n - (i+1),UK,Z,d,P],λx h y=>?_];let⟨e,y⟩:=y;subst e y;exact k i a _ d p
 .let e:i=n:=by omega
  subst e;exact .inl #[Lx _,l a H p]
abbrev R2:=V->V->Hp->VK->Prop
def eW(X:Cx)(f:ζ->ζ->Sem ζ)(r:R2):Prop:=
 ∀(p:List (η×ge)) (s:ι) (a:St) (H:Hp) (x y:V) (v u:ζ) (Q:VK),au X p a H s->aF x v->aF y u->r x y H Q->
  π (χ X.prog X.w) X.A (f v u) (EP X p a Q) X.xe s
def Hz(X:Cx)(f:ζ->Sem ζ)(r:V->Hp->VK->Prop):Prop:=
 ∀(p:List (η×ge)) (s:ι) (a:St) (H:Hp) (x:V) (v:ζ) (Q:VK),au X p a H s->aF x v->r x H Q->
  π (χ X.prog X.w) X.A (f v) (EP X p a Q) X.xe s
def cQ(X:Cx)(f:ζ)(r:List V->Hp->VK->Prop):Prop:=
 ∀(p:List (η×ge)) (s:ι) (a:St) (H:Hp) (x:List V) (u:List ζ) (Q:VK),au X p a H s->ax x u->r x H Q->
  π (χ X.prog X.w) X.A (call f u) (EP X p a Q) X.xe s
def Hw(X:Cx)(r:V->Hp->(Bool->Hp->Prop)->Prop):Prop:=
 ∀(p:List (η×ge)) (s:ι) (a:St) (H:Hp) (x:V) (v:ζ) (Q:Bool->Hp->Prop),au X p a H s->aF x v->r x H Q->
  π (χ X.prog X.w) X.A (truthy v) (TP X p a Q) X.xe s
def dW(r:R2)(t T:TE):TE:=λa H Q=>t a H λx h=>T a h λy b=>r x y b Q
def Lh(r:V->Hp->VK->Prop)(t:TE):TE:=λa H Q=>t a H λx h=>r x h Q
inductive rI(C:Int->Int->Prop)(g:Int->Int->V)(x y:V)(H:Hp)(Q:VK):Prop
 |mk(i j:_)(_:x= .int i)(_:y= .int j)(_:C i j)(_:Q (g i j) H)
inductive wQ(g:Int->Int->V)(x y:V)(H:Hp)(Q:VK):Prop
 |mk(i j:_)(_:x= .int i)(_:y= .int j)(_:Q (g i j) H)
inductive rU(g:Int->V)(x:V)(H:Hp)(Q:VK):Prop
 |mk(i:_)(_:x= .int i)(_:Q (g i) H)
section
variable {X:Cx}{a b c:dr}{ta tb tc:TE}{pos:Pos}
theorem BO(k:PE X a ta)(l:PE X b tb){R:V->V->Hp->Prop}(I:au X p e H s)
  (h:ta e H λx j=>tb e j λy d=>R x y d)  {f:ζ->ζ->Sem ζ}
  (m:∀v u i x y d,au X p e d i->aF x v->aF y u->R x y d->π (χ X.prog X.w) X.A (f v u) Q X.xe i):
  π (χ X.prog X.w) X.A (eval a X.env) (λv S=>π (χ X.prog X.w) X.A (eval b X.env) (λu g=>π (χ X.prog X.w) X.A (f v u) Q X.xe g) X.xe S) X.xe s:=by
 refine aU (k p s e H _ I h) λv n z=>?_;let⟨x,j,o,r,q⟩:=z;refine aU (l p n e j _ o q) λu i z=>?_;let⟨y,d,t,B,C⟩:=z;exact m v u i x y d t r B C
theorem jv{o:Operator}{r:R2}(d:eW X (binaryOp o) r)(e:PE X a ta)(f:PE X b tb):PE X (.BinOp a o b pos) (dW r ta tb):=by intro p s g H Q I h;exact wpAny_BinOp$ BO e f I h λv u S x y i j R k q=>d p S g i x y v u Q j R k q
theorem uF(e:Hz X (unaryOp o) r)(f:PE X a ta):PE X (.UnaryOp o a pos) (Lh r ta):=by intro p s d H Q I h;exact UnaryOp_$ aU (f p s d H _ I h) λv S #[x,g,i,R,q]=>e p S d g x v Q i R q
theorem Hi{f:ζ->ζ->Sem ζ}{C:Int->Int->Prop}{g:Int->Int->Int}
  (rule:∀(i j:Int) (t u:Tok) (s:ι) (Q:ζ->ι->Prop) (E:ζ->ι->Prop),C i j->Q (.int (g i j) s.toks) { s with toks:=s.toks+1 }->π (χ X.prog X.w) X.A (f (.int i t)$ .int j u) Q E s):
  eW X f (rI C λi j=>.int (g i j)):=by
 intro p s e H x y v u Q I r R h;let⟨i,j,rfl,rfl,d,q⟩:=h;let⟨t,rfl⟩:=r;let⟨T,rfl⟩:=R;exact rule i j t T s _ _ d #[.int$ g i j,H,I.tok _,#[_,Z],q]
theorem FK{f:ζ->ζ->Sem ζ}{g:Int->Int->Int}
  (rule:∀(i j:Int) (t u:Tok) (s:ι) (Q:ζ->ι->Prop) (E:ζ->ι->Prop),Q (.int (g i j) s.toks) { s with toks:=s.toks+1 }->π (χ X.prog X.w) X.A (f (.int i t)$ .int j u) Q E s):
  eW X f (wQ λi j=>.int (g i j)):=by
 intro p s d H x y v u Q I r R h;let⟨i,j,rfl,rfl,q⟩:=h;let⟨t,rfl⟩:=r;let⟨T,rfl⟩:=R;exact rule i j t T s _ _ #[.int$ g i j,H,I.tok _,#[_,Z],q]
theorem Di{f:ζ->ζ->Sem ζ}{g:Int->Int->Bool}
  (rule:∀(i j:Int) (t u:Tok) (s:ι) (Q:ζ->ι->Prop) (E:ζ->ι->Prop),Q (.bool$ g i j) s->π (χ X.prog X.w) X.A (f (.int i t)$ .int j u) Q E s):
  eW X f (wQ λi j=>.bl (g i j)):=by
 intro p s d H x y v u Q I r R h;let⟨i,j,rfl,rfl,q⟩:=h;let⟨t,rfl⟩:=r;let⟨T,rfl⟩:=R;exact rule i j t T s _ _ #[.bl$ g i j,H,I,Z,q]
def Hm(i j:Int):Prop:=0<=j/\j<=1000000/\i.natAbs < 2 ^ 64
def wT(i j:Int):Prop:=(-(2 ^ 64) < i/\i < 2 ^ 64)∨(-(2 ^ 64) < j/\j < 2 ^ 64)
theorem wT.ok(h:wT i j):IntMulOk i j:=by
 rcases h with ⟨H,d⟩ | ⟨H,d⟩
 .exact .of_left$ intBits_le_64 H d
 .exact .of_right$ intBits_le_64 H d
theorem jU:eW X (binaryOp .Add) (wQ λi j=>.int (i+j)):=FK λ_ _ _ _ _ _ _ q=>add_int q
theorem kj:eW X (binaryOp .Sub) (wQ λi j=>.int (i - j)):=FK λ_ _ _ _ _ _ _ q=>sub_int q
theorem zw:eW X (binaryOp .Mult) (rI wT λi j=>.int (i*j)):=Hi λ_ _ _ _ _ _ _ h q=>mul_int q h.ok
theorem zg:eW X (binaryOp .Mod) (rI (λ_ j=>0 < j) λi j=>.int (i % j)):=Hi λi j _ _ _ _ _ h q=>by let H:(0:Int) < j:=h;exact mod_int' UK (by rw[Int.fmod_eq_emod_of_nonneg i UK];exact q)
theorem Jv:eW X (binaryOp .Pow) (rI Hm λi j=>.int (i ^ j.toNat)):=Hi λ_ _ _ _ _ _ _ h q=>pow_int_small h.1 h.2.1 h.2.2 q
theorem Lj{f:ζ->Sem ζ}{g:Int->Int}
  (rule:∀(i:Int) (t:Tok) (s:ι) (Q:ζ->ι->Prop) (E:ζ->ι->Prop),Q (.int (g i) s.toks) { s with toks:=s.toks+1 }->π (χ X.prog X.w) X.A (f$ .int i t) Q E s):
  Hz X f (rU λi=>.int (g i)):=by
 intro p s d H x v Q I r h;let⟨i,rfl,q⟩:=h;let⟨t,rfl⟩:=r;exact rule i t s _ _ #[.int$ g i,H,I.tok _,#[_,Z],q]
theorem Yc:Hz X (unaryOp .USub) (rU λi=>.int (-i)):=Lj λ_ _ _ _ _ q=>neg_int q
end
noncomputable def Gn:V->V->Bool
 | .non,.non=>ν | .non,.int _=>ν | .int _,.non=>ν | .non,.bl _=>ν | .bl _,.non=>ν | .non,.str _=>ν | .str _,.non=>ν
 | .int _,.int _=>ν | .bl _,.bl _=>ν | .str _,.str _=>ν | .byt _,.byt _=>ν
 | .int _,.str _=>ν | .str _,.int _=>ν | .bl _,.str _=>ν | .str _,.bl _=>ν
 |_,_=>μ
def FT:R2:=λx y H Q=>Gn x y=ν/\Q (.bl$ decide$ x=y) H
def Ib:R2:=λx y H Q=>Gn x y=ν/\Q (.bl (!decide (x=y))) H
theorem Y9:decide (rm i=rm j)=(i==j):=by rw[O4];simp
theorem sP:decide (V.bl i=V.bl j)=(i==j):=by rw[O4];simp
theorem Za:decide (ri i=ri j)=(i==j):=by rw[O4];simp
theorem Zb:decide (V.byt i=V.byt j)=(i.toList==j.toList):=by rw[O4];cases i;cases j;simp
section
variable {X:Cx}{a b c:dr}{ta tb tc:TE}{pos:Pos}
theorem jP{Q:VK}(I:au X p d H s)(q:Q (.bl k) H)(e:k=f):EP X p d Q (.bool f) s:=by subst e;exact#[.bl k,H,I,Z,q]
theorem qo:eW X (compareOp .Eq) FT:=by
 intro p s e H x y v u Q I R r h;let⟨d,q⟩:=h;cases x with
 |non=>
  cases R;cases y with
  |non=>cases r;exact Ul (jP I q UL)
  |bl j=>cases r;exact Uo (jP I q UL)
  |int j=>let⟨T,rfl⟩:=r;exact Um (jP I q UL)
  |str j=>let⟨T,rfl⟩:=r;exact Uk (jP I q UL)
  |_=>exact absurd (show μ=ν from d) LD
 |bl i=>
  cases R;cases y with
  |non=>cases r;exact Uq (jP I q UL)
  |bl j=>cases r;exact eq_bool (jP I q sP)
  |str j=>let⟨T,rfl⟩:=r;exact T8 (jP I q UL)
  |_=>exact absurd (show μ=ν from d) LD
 |int i=>
  let⟨t,rfl⟩:=R;cases y with
  |non=>cases r;exact Up (jP I q UL)
  |int j=>let⟨T,rfl⟩:=r;exact eq_int (jP I q Y9)
  |str j=>let⟨T,rfl⟩:=r;exact T7 (jP I q UL)
  |_=>exact absurd (show μ=ν from d) LD
 |str i=>
  let⟨t,rfl⟩:=R;cases y with
  |non=>cases r;exact Uj (jP I q UL)
  |bl j=>cases r;exact T6 (jP I q UL)
  |int j=>let⟨T,rfl⟩:=r;exact T5 (jP I q UL)
  |str j=>let⟨T,rfl⟩:=r;exact eq_str (jP I q Za)
  |_=>exact absurd (show μ=ν from d) LD
 |byt i=>
  let⟨t,rfl⟩:=R;cases y with
  |byt j=>let⟨T,rfl⟩:=r;exact PySem.W.eq_bytes (jP I q Zb)
  |_=>exact absurd (show μ=ν from d) LD
 |_=>cases y<;>exact absurd (show μ=ν from d) LD
theorem Kb:eW X (compareOp .NotEq) Ib:=by
 intro p s e H x y v u Q I R r h;let⟨d,q⟩:=h;cases x with
 |non=>
  cases R;cases y with
  |non=>cases r;exact Ue (jP I q UL)
  |bl j=>cases r;exact Ug (jP I q UL)
  |int j=>let⟨T,rfl⟩:=r;exact Uf (jP I q UL)
  |str j=>let⟨T,rfl⟩:=r;exact Ud (jP I q UL)
  |_=>exact absurd (show μ=ν from d) LD
 |bl i=>
  cases R;cases y with
  |non=>cases r;exact Ui (jP I q UL)
  |bl j=>cases r;exact ne_bool (jP I q (MO not sP))
  |str j=>let⟨T,rfl⟩:=r;exact T3 (jP I q UL)
  |_=>exact absurd (show μ=ν from d) LD
 |int i=>
  let⟨t,rfl⟩:=R;cases y with
  |non=>cases r;exact Uh (jP I q UL)
  |int j=>let⟨T,rfl⟩:=r;exact ne_int (jP I q (MO not Y9))
  |str j=>let⟨T,rfl⟩:=r;exact TZ (jP I q UL)
  |_=>exact absurd (show μ=ν from d) LD
 |str i=>
  let⟨t,rfl⟩:=R;cases y with
  |non=>cases r;exact Uc (jP I q UL)
  |bl j=>cases r;exact TY (jP I q UL)
  |int j=>let⟨T,rfl⟩:=r;exact TX (jP I q UL)
  |str j=>let⟨T,rfl⟩:=r;exact ne_str (jP I q (MO not Za))
  |_=>exact absurd (show μ=ν from d) LD
 |byt i=>
  let⟨t,rfl⟩:=R;cases y with
  |byt j=>let⟨T,rfl⟩:=r;exact PySem.W.ne_bytes (jP I q (MO not Zb))
  |_=>exact absurd (show μ=ν from d) LD
 |_=>cases y<;>exact absurd (show μ=ν from d) LD
theorem Qm:eW X (compareOp .Lt) (wQ λi j=>.bl (decide$ i < j)):=Di λ_ _ _ _ _ _ _ q=>lt_int q
theorem qX:eW X (compareOp .Gt) (wQ λi j=>.bl (decide$ j < i)):=Di λ_ _ _ _ _ _ _ q=>gt_int q
theorem uD:eW X (compareOp .GtE) (wQ λi j=>.bl (decide$ j<=i)):=Di λ_ _ _ _ _ _ _ q=>ge_int q
theorem Yd:eW X (compareOp .Is) (λx y H Q=>y= .non/\Q (.bl$ decide$ x= .non) H):=by
 intro p s d H x y v u Q I r R h;let⟨rfl,q⟩:=h;cases R;refine is_none_gen$ jP I q ?_;cases x<;>first
  | (cases r;rfl)
  | (let⟨t,rfl⟩:=r;rfl)
theorem yz:eW X (compareOp .IsNot) (λx y H Q=>y= .non/\Q (.bl (!decide (x= .non))) H):=by
 intro p s d H x y v u Q I r R h;let⟨rfl,q⟩:=h;cases R;refine isnot_none_gen$ jP I q ?_;cases x<;>first
  | (cases r;rfl)
  | (let⟨t,rfl⟩:=r;rfl)
theorem aG(b:dr)(h:o≠ .In:=by decide)(H:o≠ .NotIn:=by decide):behindInMarks o b=μ:=by
 let e:(o==CmpOp.In)=μ:=by cases o<;>first |rfl |exact absurd Z h
 let E:(o==CmpOp.NotIn)=μ:=by cases o<;>first |rfl |exact absurd Z H
 cases b<;>simp [behindInMarks,e,E]
theorem qE(d:eW X (compareOp o) r)(e:PE X a ta)(f:PE X b tb)(g:behindInMarks o b=μ):PE X (.Compare a [o] [b] pos) (dW r ta tb):=by intro p s i H Q I h;exact wpAny_Compare1 (BO e f I h λv u S x y j k R l q=>d p S i j x y v u Q k R l q) g
inductive wu(Q:Bool->Hp->Prop)(x:V)(a:Hp):Prop
 |mk(k:_)(_:x= .bl k)(_:Q k a)
def i6(t:TE):TT:=λd H Q=>t d H (wu Q)
theorem jA{o:CmpOp}{r:R2}(f:eW X (compareOp o) r)(g:PE X a ta)(i:PE X b tb)(j:behindInMarks o b=μ):PT X (.Compare a [o] [b] pos) (i6$ dW r ta tb):=by
 intro p s d H Q I h;refine SK (aU (g p s d H _ I h) λv S #[x,l,m,R,q]=>aU (i p S d l _ m q) λu n #[y,t,w,A,B]=>
  aU (f p n d t x y v u _ w R A B) λc G #[z,C,D,E,k,e,F]=>?_) j
 subst e;cases E;exact OS #[C,D,F]
def EL(K:β)(x:V)(H:Hp)(k:Bool):Prop:=
 match x with
 | .non=>k=μ
 | .bl b=>k=b
 | .int i=>k=(i != 0)
 | .str y=>y.length<=υ/\k=((y.length:Int) != 0)
 | .byt y=>y.size<=υ/\k=((y.size:Int) != 0)
 | .ref p=>(∃d,aJ K H p d/\k=!d.isEmpty)∨(∃d,aC K H p d/\k=!d.isEmpty)∨∃e,H p=δ (.dK e)/\k=!e.isEmpty
 |_=>False
theorem Yp{d:Type}{k:List (d×V)}{v:List (d×ζ)}(r:KV k v):(!v.isEmpty)=!k.isEmpty:=by cases r<;>rfl
theorem KF(r:ax x i):(!i.toArray.isEmpty)=!x.isEmpty:=by cases r<;>simp
theorem eF:(υ:Nat) < 2 ^ 63:=by rw[NE];decide
theorem Ea:Hw X (λx H Q=>∃k,EL X.K x H k/\Q k H):=by
 intro o s B H x v Q I R h;let⟨k,e,q⟩:=h;let C:=eF;let D:υ=16777216:=NE;cases x with
 |non=>cases R;let E:k=μ:=e;subst E;exact truthy_none #[H,I,q]
 |bl b=>cases R;let E:k=b:=e;subst E;exact OS #[H,I,q]
 |int i=>let⟨t,rfl⟩:=R;let E:k=(i != 0):=e;subst E;exact PySem.P.truthy_int #[H,I,q]
 |str y=>let⟨t,rfl⟩:=R;obtain⟨z,E⟩:y.length<=υ/\k=((y.length:Int) != 0):=e;subst E;exact PySem.P.truthy_str UK #[H,I.tok _,q]
 |byt y=>let⟨t,rfl⟩:=R;obtain⟨z,E⟩:y.size<=υ/\k=((y.size:Int) != 0):=e;subst E;exact PySem.W.truthy_bytes UK #[H,I.tok _,q]
 |ref p=>
  cases R;let E:(∃g,aJ X.K H p g/\k=!g.isEmpty)∨(∃g,aC X.K H p g/\k=!g.isEmpty)∨∃d,H p=δ (.dK d)/\k=!d.isEmpty:=e;rcases E with ⟨g,j,E⟩ | ⟨g,j,E⟩ | ⟨d,j,E⟩
  .subst E;let⟨l,r,n,u⟩:=I.list j;let f:=r.length;exact wpAny_truthy_list n.isList (by simp only[LA];omega) #[H,I.tok _,by rw[KF r];exact q]
  .subst E;let⟨l,r,n,u⟩:=I.tuple j;let f:=r.length;exact truthy_tuple n (by simp only[LA];omega) #[H,I.tok _,by rw[KF r];exact q]
  .subst E;obtain⟨u,A,V,r,m⟩:d.length<=υ/\(p==sysModules)=μ/\∃V,KV d V/\s.heap.DictOf (a5 X.prog X.w) p V:=I.hok p _ j;let f:d.length=V.length:=Paired.length r;exact wpAny_truthy_dict A m UK #[H,I.tok _,by rw[Yp r];exact q]
 |_=>exact(show False from e).elim
theorem uN(f:PE X a ta)(g:∀w,isTrue a X.env w=(do let v <- w;standAt a.pos;iv [v] (truthy v))):
  PT X a (λd H Q=>ta d H λx e=>∃k,EL X.K x e k/\Q k e):=by
 intro p s d H Q I h;exact isTrue_plain (aU (f p s d H _ I h) λv S #[x,i,j,r,q]=>Ea p S d i x v Q j r q)$ g _
theorem zG:eW X (binaryOp .Add) (λx y H Q=>∃i j,x= .str i/\y= .str j/\i.length+j.length<=υ/\Q (.str$ i++j) H):=by intro p s e H x y v u Q I r R h;let⟨i,j,rfl,rfl,d,q⟩:=h;let⟨t,rfl⟩:=r;let⟨T,rfl⟩:=R;exact add_str (λT f=>#[.str$ i++j,H,I.tok _,#[_,Z],q]) d
theorem dY(r:ax [x] U):∃u,U=[u]/\aF x u:=by
 cases r with
 |cons R d=>cases d;exact#[_,Z,R]
theorem pQ(r:ax [x,y] U):∃u w,U=[u,w]/\aF x u/\aF y w:=by
 cases r with
 |cons R d=>
  cases d with
  |cons e f=>cases f;exact#[_,_,Z,R,e]
theorem ZT(e:X.calm=ν):cQ X (.builtin "max") (λx H Q=>∃i j,x=[.int i,.int j]/\Q (.int (if j > i then j else i)) H):=by
 intro p s f H x U Q I r h;let⟨i,j,rfl,q⟩:=h;obtain⟨u,w,rfl,⟨t,rfl⟩,⟨T,rfl⟩⟩:=pQ r;refine max_two_ints (I.ok.hd e) λg l k=>#[_,H,I.kept k,?_,q];by_cases d:j > i
 .rw[LP d,LP d];exact#[_,Z]
 .rw[LV d,LV d];exact#[_,Z]
theorem qG:cQ X (.type "int") (λx H Q=>(∃i,x=[.int i]/\Q (.int i) H)∨∃k,x=[.bl k]/\Q (.int (if k then 1 else 0)) H):=by
 intro p s d H x U Q I r h;rcases h with ⟨i,rfl,q⟩ | ⟨k,rfl,q⟩
 .let⟨u,rfl,t,rfl⟩:=dY r;exact call_int_int #[.int i,H,I,#[_,Z],q]
 .let⟨u,rfl,R⟩:=dY r;cases R;exact call_int_bool #[.int (if k then 1 else 0),H,I.tok _,#[_,Z],q]
end
structure og(h:cJ)(x dx C:η)(mA:ρ->Option ζ):Prop where
 obj:h.get? x=δ (instObj C dx)
 ns:h.Ns1 dx mA
 ne:dx≠x
theorem Qw{h:cJ}(n:h.Ns1 d m):∃O,h.get? d=δ O/\∀name,lookIn name O=δ (m name):=by
 let⟨o,E,j,b,c,f,_,g⟩:=n;refine#[o,b,λname=>?_];let e:=g name;unfold nsFind findBy at e;rw[<- Array.find?_toList]at e;unfold lookIn;rw[c];dsimp only;split
 .rename_i y q
  rw[q]at e;exact MO δ e
 .rename_i q
  rw[q]at e;let a:E.toList.any (·.refKey)=μ:=by rw[SE];intro y i;let⟨z,t,H⟩:=f y (Array.mem_toList_iff.mp i);simp [DictEntry.refKey,H]
  let A:¬E.toList.any (·.refKey)=ν:=by rw[a];exact LD
  rw[LV A];exact MO δ e
theorem og.look(I:og h x d C m):∃o,PySem.W.InstAt h x (instObj C d) C (δ o)/\∀name,lookIn name o=δ (m name):=
 let #[o,H,a]:=Qw I.ns
 #[o,#[I.obj,Z,Z,H],a]
section
variable {prog:ψ}{w:bU}{A:bS}{E:ζ->ι->Prop}{s:ι}{K:β}{x dx C f:η}{mA:ρ->Option ζ}{name:ρ}{v:ζ}
theorem xO{Q:ζ->ι->Prop}(X:K.In s.heap)(I:og s.heap x dx C mA)(a:plainGet K C name=ν)(b:hasDictIn K C=ν)
  (c:findIn K (.ref C) name=δ θ) (d:mA name=δ v) (H:PySem.W.handedIn v=ν) (h:Q v { s with toks:=s.toks+1 }):
  π (χ prog w) A (getAttr (.ref x) name e) Q E s:=by
 let⟨o,J,g⟩:=I.look;exact PySem.W.get_value X J (Pd a).1 (PySem.W.findObj_own b c Z (by rw[g,d])) H h
theorem tL{Q:ζ×List ζ->ι->Prop}(X:K.In s.heap)(I:og s.heap x dx C mA)(H:plainGet K C name=ν)
  (a:findIn K (.ref C) name=δ (↑f)) (b:isFn K (.ref f)=ν) (c:mA name=θ) (h:Q (.ref f,[.ref x]) s):
  π (χ prog w) A (getMethod (.ref x) name p) Q E s:=by
 let⟨o,J,d⟩:=I.look;exact PySem.W.method_fn X J (Pd H).1 (Pd H).2 a (beq_iff_eq.mp b) (by show(lookIn name o).map (·.isSome)=δ μ;rw[d,c];rfl) h
theorem Ad{Q:Unit->ι->Prop}(X:K.In s.heap)(I:og s.heap x dx C mA)
  (k:findIn K (.ref C) "__setattr__"=δ (δ$ .builtin "object.__setattr__")) (l:PySem.W.plainOver K C=ν) (m:pk K C name=δ θ) (n:hasDictIn K C=ν)
  (o:PySem.Within mA N) (p:N.length<=υ)
  (h:∀d,og d x dx C (λy=>if y=name then δ v else mA y)->fv dx s.heap d->Q () { s with heap:=d,toks:=s.toks+2 }):
  π (χ prog w) A (setAttr (.ref x) name v) Q E s:=by
 let⟨O,J,B⟩:=I.look;refine PySem.W.set_plain X J k$ PySem.W.osa_open (s:={ s with toks:=s.toks+1 }) (r:=θ) X J l m λb=>?_;let⟨D,q,e⟩:=PySem.W.any_some n;let t:s.heap.get? x=δ #[.ref C,δ dx,.plain,(ε [])]:=I.obj;refine Lr$ Lu$ Lr$ Lr$ Pn t$ Lr$ TW (s:={ s with toks:=s.toks+1 }) (PySem.W.looks_clsIn X q) ?_;rw[e];refine Lu (a:=δ dx)$ Lr$ Lu$ Lr ?_;refine wpAny_nsSet1 (s:={ s with toks:=s.toks+1 }) I.ns λd H c=>?_;let⟨F,u,z,g,i,j⟩:=H.count (Ub name v o);refine Lr$ wpAny_lookBehind g (by rw[i];exact pastItsLine_dict$ LJ j (by rw[Md];omega)) ?_;exact Lu$ h _ #[(c.2 _$ Me I.ne).trans I.obj,H,I.ne] c
theorem tY{R:Result->ι->Prop}(X:K.In s.heap)(H:PySem.W.makesIn K C=ν)
  (b:findIn K (.ref C) "__init__"=δ (↑f)) (c:typeIn K (.ref f)=δ (.type "function"))
  (h:hY (χ prog w) (A.under$ .builtin "type.__call__" #[.ref C::a,k]) (.call (.ref f) #[.ref (s.heap.objs.size+1)::a,k]) (PySem.W.InitBack (s.heap.objs.size+1) R)
   { s with heap:=(s.heap.push emptyDict).push (instObj C s.heap.objs.size) }):
  hY (χ prog w) A (.call (.ref C) #[a,k]) R s:=by
 let⟨e,g,d,t,os⟩:=s;exact PySem.W.make_core (PySem.W.makes_of X H) (PySem.W.looks_findIn X b) (λS=>PySem.W.bind_fn X S c) (.inl Z) h
end
noncomputable def eG(f:ρ)(v:V):List (ρ×V)->List (ρ×V)
 | []=>[(f,v)]
 | (g,x)::r=>if g=f then (g,v)::r else (g,x)::eG f v r
theorem JI(f g:ρ)(v:V):∀F:List (ρ×V),(eG f v F).lookup g=if g=f then δ v else F.lookup g
 | []=>by
  show gN g [(f,v)]=_;by_cases h:g=f
  .let H:(g==f)=ν:=beq_iff_eq.mpr h;simp only[gN,H,LP h]
  .let H:(g==f)=μ:=beq_eq_false_iff_ne.mpr h;simp only[gN,H,LV h]
 | (k,x)::r=>by
  let i:=JI f g v r;rw[show eG f v ((k,x)::r)=(if k=f then (k,v)::r else (k,x)::eG f v r) from Z];by_cases a:k=f
  .rw[LP a];by_cases h:g=k
   .let H:(g==k)=ν:=beq_iff_eq.mpr h;simp only[gN,H,LP$ h.trans a]
   .let H:(g==k)=μ:=beq_eq_false_iff_ne.mpr h;simp only[gN,H,LV (λe:g=f=>h (e.trans a.symm))]
  .rw[LV a];by_cases h:g=k
   .let H:(g==k)=ν:=beq_iff_eq.mpr h;simp only[gN,H,LV (λe:g=f=>a (h.symm.trans e))]
   .let H:(g==k)=μ:=beq_eq_false_iff_ne.mpr h;simp only[gN,H];exact i
theorem JB(f:ρ)(v:V):∀F:List (ρ×V),f∈(eG f v F).map (·.1)/\∀g,g∈F.map (·.1)->g∈(eG f v F).map (·.1)
 | []=>#[by simp [eG],λg h=>by simp at h]
 | (k,x)::r=>by
  let⟨i,I⟩:=JB f v r;rw[show eG f v ((k,x)::r)=(if k=f then (k,v)::r else (k,x)::eG f v r) from Z];by_cases H:k=f
  .rw[LP H];subst H;exact#[UL,λg h=>by simpa using h]
  .rw[LV H];refine#[?_,λg h=>?_]
   .rw[MU];exact LW _ i
   .rw[MU]at h ⊢;rcases Ξ.mp h with e |e
    .exact Ξ.mpr$ .inl e
    .exact LW _$ I g e
theorem JJ(f:ρ)(v:V):∀F:List (ρ×V),(eG f v F).length<=F.length+1
 | []=>by simp [eG]
 | (k,x)::r=>by
  let i:=JJ f v r;rw[show eG f v ((k,x)::r)=(if k=f then (k,v)::r else (k,x)::eG f v r) from Z];by_cases h:k=f
  .rw[LP h,Md,Md];omega
  .rw[LV h,Md,Md];omega
theorem dQ.some_of{v:V}{o:Option ζ}(r:dQ (δ v) o):∃u,o=δ u/\aF v u:=by
 cases o with
 |none=>exact(show False from r).elim
 |some u=>exact#[u,Z,r]
theorem dQ.none_of(r:dQ θ o):o=θ:=by
 cases o with
 |none=>rfl
 |some u=>exact(show False from r).elim
theorem ZU(r:aF v u):PySem.W.handedIn u=ν:=by
 cases v with
 |non=>cases (show u=Ψ from r);rfl
 |bl b=>cases (show u=mS b from r);rfl
 |int i=>let⟨t,e⟩:=(show ∃t,u=hL i t from r);cases e;rfl
 |str x=>let⟨t,e⟩:=(show ∃t,u=kw x t from r);cases e;rfl
 |byt b=>let⟨t,e⟩:=(show ∃t,u=Value.bytes b t from r);cases e;rfl
 |flt b=>let⟨t,e⟩:=(show ∃t,u=Value.float b t from r);cases e;rfl
 |ref a=>cases (show u=ω a from r);rfl
 |ty n=>cases (show u=eT n from r);rfl
section
variable {P:ψ}{w:bU}{H H':Hp}{h h':cJ}{a C dx:η}{fs fs':List (ρ×V)}
theorem JW(b:eV P w H h)(e:H a=δ (.ins C dx fs)):∃m,og h a dx C m/\(∀f,dQ (fs.lookup f)$ m f)/\PySem.Within m (fs.map (·.1))/\fs.length<=1000/\H dx=δ (.own a):=by let⟨d,z,N,o,m,n,r,q⟩:=(show aM P w H h a (.ins C dx fs) from b a _ e);exact#[m,#[o,n,N],r,q,z,d]
end
structure pS(K:β)(C:η):Prop where
 pg:plainGet K C Str.empty=ν
 hd:hasDictIn K C=ν
 po:PySem.W.plainOver K C=ν
 sa:findIn K (.ref C) "__setattr__"=δ (δ$ .builtin "object.__setattr__")
theorem pS.get{K:β}(c:pS K C)(f:ρ):plainGet K C f=ν:=c.pg
def aW(K:β)(C:η)(f:ρ):Prop:=findIn K (.ref C) f=δ θ
theorem aW.taker{K:β}(n:aW K C f):pk K C f=δ θ:=by unfold pk;rw[show findIn K (.ref C) f=δ θ from n];rfl
structure a8(K:β)(C:η)(m:ρ)(f:η):Prop where
 at_:findIn K (.ref C) m=δ (↑f)
 fn:isFn K (.ref f)=ν
 kp:fz K (.ref f)=ν
section
variable {X:Cx}{pins:List (η×ge)}{σ:St}{H:Hp}{s:ι}{a C dx:η}{fs:List (ρ×V)}{f:ρ}{v:V}{A:bS}{E:ζ->ι->Prop}
theorem KG{Q:ζ->ι->Prop}(I:au X pins σ H s)(e:H a=δ (.ins C dx fs))(c:pS X.K C)(n:aW X.K C f)(l:fs.lookup f=δ v)
  (h:∀u S,au X pins σ H S->aF v u->Q u S):π (χ X.prog X.w) A (getAttr (.ref a) f b) Q E s:=by
 let⟨m,O,r,_,_,_⟩:=JW I.hok e;let⟨u,d,R⟩:=dQ.some_of (v:=v) (o:=m f) (by rw[<- l];exact r f);exact xO I.kIn O (c.get f) c.hd n d (ZU R)$ h u _ (I.tok _) R
theorem KH{Q:ζ×List ζ->ι->Prop}(I:au X pins σ H s)(e:H a=δ (.ins C dx fs))(c:pS X.K C)(k:a8 X.K C m g)(l:fs.lookup m=θ)
  (h:Q (.ref g,[.ref a]) s):π (χ X.prog X.w) A (getMethod (.ref a) m p) Q E s:=by
 let⟨M,O,r,_,_,_⟩:=JW I.hok e;let b:M m=θ:=dQ.none_of (by rw[<- l];exact r m);exact tL I.kIn O (c.get m) k.at_ k.fn b h
theorem KI{Q:Unit->ι->Prop}(I:au X pins σ H s)(e:H a=δ (.ins C dx fs))(c:pS X.K C)(n:aW X.K C f)(F:fs.length < 1000)(R:aF y u)
  (h:∀S,au X pins σ (af H a$ .ins C dx$ eG f y fs) S->Q () S):π (χ X.prog X.w) A (setAttr (.ref a) f u) Q E s:=by
 let⟨m,O,r,W,_,i⟩:=JW I.hok e;let j:(fs.map (·.1)).length<=υ:=by rw[Lw,NE];omega
 refine Ad I.kIn O c.sa c.po n.taker c.hd W j λk d l=>h _ ?_;let p:∃o,k.get? dx=δ o:=let #[o,_,_,t,_]:=d.ns;#[o,t]
 refine I.write (x:=a) (e:=dx) (by rw[e];exact True.intro) (.inr i) (λb q B z=>(l.2 b B).trans z) p ?_;refine#[by rw[ji O.ne];exact i,?_,O.ne,d.obj,_,d.ns,λg=>?_,λg D=>?_]
 .let:=JJ f y fs;omega
 .show dQ ((eG f y fs).lookup g) (if g=f then δ u else m g);rw[JI];by_cases q:g=f
  .rw[LP q,LP q];exact R
  .rw[LV q,LV q];exact r g
 .by_cases q:g=f
  .rw[q];exact(JB f y fs).1
  .refine(JB f y fs).2 g (W g λz=>D ?_);show(if g=f then δ u else m g)=θ;rw[LV q];exact z
theorem au.made(I:au X pins σ H s):au X pins σ (af (af H s.heap.objs.size$ .own$ s.heap.objs.size+1) (s.heap.objs.size+1)$ .ins C s.heap.objs.size [])
  { s with heap:=(s.heap.push emptyDict).push (instObj C s.heap.objs.size) }:=by
 let c:(s.heap.push emptyDict).get? s.heap.objs.size=δ emptyDict:=LB s.heap Z;let d:((s.heap.push emptyDict).push$ instObj C s.heap.objs.size).get? (s.heap.objs.size+1)=δ (instObj C s.heap.objs.size):=by let:=LB (s.heap.push emptyDict) (o:=instObj C s.heap.objs.size) Z;rwa [Mr]at this
 let g:(s.heap.push emptyDict).Ns s.heap.objs.size (λ_=>θ):=#[emptyDict,(ε []),_,c,Z,(λe h=>absurd h UL),λ_=>Z];let i:=I.laid (a:=s.heap.objs.size) (o:=.own (s.heap.objs.size+1)) (h':=s.heap.push emptyDict) (t':=s.toks) (λb u q=>Lv _ q) (Lx _) #[_,c];refine i.laid (a:=s.heap.objs.size+1) (o:=.ins C s.heap.objs.size []) (t':=s.toks) (λb u q=>Lv _ q) (PL$ Mr _ _) ?_;let n:s.heap.objs.size≠s.heap.objs.size+1:=LC (MQ _);refine#[by rw[ji n,jc],LF _,n,d,λ_=>θ,(Heap.Ns1.of_empty g).at λo q=>Lv _ q,λ_=>True.intro,λy j=>absurd Z j]
theorem xo{f:ρ}{s:ι}(c:attributeBase e f b (eval e b)=eval e b)
  (h:π (χ p w) A (eval e b) (λo S=>π (χ p w) A (getAttr o f ν) Q E S) E s):π (χ p w) A (eval (.Attribute e f d) b) Q E s:=
 Attribute_any_ h (by rw[arm_eval_Attribute,c])
end
inductive Bt(K:β)(f:ρ)(Q:VK)(x:V)(b:Hp):Prop
 |mk(a C c d v:_)(_:x= .ref a)(_:b a=δ (.ins C c d))(_:pS K C)(_:aW K C f)(_:d.lookup f=δ v)(_:Q v b)
def Iv(K:β)(t:TE)(f:ρ):TE:=λa H Q=>t a H (Bt K f Q)
inductive Bj(K:β)(f:ρ)(D:a7)(e:St)(y x:V)(b:Hp):Prop
 |mk(a C c d:_)(_:x= .ref a)(_:b a=δ (.ins C c d))(_:pS K C)(_:aW K C f)(_:d.length < 1000)(_:D.nx e (af b a (.ins C c (eG f y d))))
def Ig(K:β)(t T:TE)(f:ρ):TS:=λD a H=>T a H λy h=>t a h (Bj K f D a y)
def EC(X:Cx)(o:Operator)(r:V->V->Hp->VK->Prop):Prop:=
 ∀(p:List (η×ge)) (s:ι) (a:St) (H:Hp) (x y:V) (u v:ζ) (Q:VK),au X p a H s->aF x u->aF y v->r x y H Q->π (χ X.prog X.w) X.A (inplaceOp o u v) (EP X p a Q) X.xe s
inductive mV(K:β)(g:TE)(e:V->V->Hp->VK->Prop)(f:ρ)(D:a7)(h:St)(x:V)(b:Hp):Prop
 |mk(a C c d v:_)(_:x= .ref a)(_:b a=δ (.ins C c d))(_:pS K C)(_:aW K C f)(_:d.lookup f=δ v)(_:g h b λy H2=>e v y H2 λz H3=>∃dx' fs',H3 a=δ (.ins C dx' fs')/\fs'.length < 1000/\D.nx h (af H3 a (.ins C dx' (eG f z fs'))))
def yU(K:β)(t T:TE)(r:V->V->Hp->VK->Prop)(f:ρ):TS:=λD a H=>t a H (mV K T r f D a)
section
variable {X:Cx}{o e value:dr}{f:ρ}{pos pos' tpos:Pos}{ta tv:TE}
theorem kU(b:PE X e ta)(d:attributeBase e f X.env (eval e X.env)=eval e X.env):PE X (.Attribute e f pos) (Iv X.K ta f):=by intro p s g H Q I h;refine xo d$ aU (b p s g H _ I h) λu S z=>?_;let⟨x,i,j,r,a,C,D,F,v,E,k,c,n,l,q⟩:=z;subst E;obtain rfl:u=ω a:=r;exact KG j k c n l λU t m R=>#[v,i,m,R,q]
theorem qp(d:PE X o ta)(g:PE X value tv)(i:swapsWith value (δ$ .Attribute o f pos') pos.line X.env=pure μ):PS X (.Assign [.Attribute o f pos'] value pos) (Ig X.K ta tv f):=by intro p s b H D I h;refine plainObj_wpAny_Assign_Attribute (aU (g p s b H _ I h) λu S #[y,j,k,r,q]=>aU (d p S b j _ k q) λO w z=>?_) i;let⟨x,A,m,R,a,C,B,F,E,t,c,n,l,Q⟩:=z;subst E;obtain rfl:O=ω a:=R;exact KI m t c n l r λG v=>#[b,_,v,Q]
theorem ZV{O:Operator}{r:V->V->Hp->VK->Prop}(i:PE X o ta)(j:PE X value tv)(g:EC X O r):PS X (.AugAssign (.Attribute o f tpos) O value pos) (yU X.K ta tv r f):=by intro p s d H D I h;refine wpAny_AugAssign_AttributeAny$ aU (i p s d H _ I h) λk s1 b=>?_;let⟨x,m,t,R,a,C,dx,fs,v,w,A,c,n,l,q⟩:=b;subst w;obtain rfl:k=ω a:=R;refine KG t A c n l λu S B F=>aU (j p S d m _ B q) λW G #[y,J,L,M,Q]=>aU (g p G d J v y u W _ L F M Q) λw4 s4 b=>?_;let⟨z,H3,N,P,T,U,E,Y,q4⟩:=b;exact KI N E c n Y P λs5 I5=>#[d,_,I5,q4]
inductive FS(x y:V)(H:Hp)(Q:VK):Prop
 |mk(i j:_)(_:x= .int i)(_:y= .int j)(_:Q (.int (i+j)) H)
theorem Cr:EC X .Add FS:=by rintro p s a H x y u v Q I r R ⟨i,j,rfl,rfl,q⟩;let⟨t,rfl⟩:=(show ∃t,u=hL i t from r);let⟨T,rfl⟩:=(show ∃T,v=hL j T from R);exact Us #[.int$ i+j,H,I.tok _,#[_,Z],q]
end
section
variable {X:Cx}{pins:List (η×ge)}{σ:St}{H:Hp}{s:ι}{A:bS}{E:ζ->ι->Prop}{Q:ζ->ι->Prop}{c:ζ}{b:Bool}
inductive gI(K:β)(H:Hp):V->ζ->Prop where
 |non:gI K H .non (.type "NoneType")
 |bl (x:Bool):gI K H (.bl x) (.type "bool")
 |int (i:Int):gI K H (.int i) (.type "int")
 |str (x:ρ):gI K H (.str x) (.type "str")
 |flt (x:UInt64):gI K H (.flt x) (.type "float")
 |lst {a:η} {xs:List V} (e:H a=δ (.lst xs)):gI K H (.ref a) (.type "list")
 |frz {a:η} {o:ge} {xs:List V} (e:H a=δ (.frz o (.lst xs))):gI K H (.ref a) (.type "list")
 |tup {a:η} {xs:List V} (e:H a=δ (.tup xs)):gI K H (.ref a) (.type "tuple")
 |dK {a:η} {kvs:List (bM×V)} (e:H a=δ (.dK kvs)):gI K H (.ref a) (.type "dict")
 |dT {a:η} {kvs:List (List bM×V)} (e:H a=δ (.dT kvs)):gI K H (.ref a) (.type "dict")
 |ins {a C dx:η} {fs:List (ρ×V)} (e:H a=δ (.ins C dx fs)) (cl:pS K C) (ha:findIn K (.ref C) "__class__"=δ (δ (.builtin "object.__class__")))
   (hn:specialIn K (.builtin "object.__class__") "__get__"=δ (δ$ .builtin "getset_descriptor.__get__")) (htk:PySem.W.takesIn K (.builtin "object.__class__")=δ ν)
   (hm:mroIn K C (.type "object")=δ ν):gI K H (.ref a) (.ref C)
theorem ZW(I:au X pins σ H s)(r:aF x u)(T:gI X.K H x t)(e:kitOne X.K t c=δ b)(h:∀v,Q (.bool b) { s with toks:=v }):
  π (χ X.prog X.w) A (call (.builtin "isinstance") [u,c]) Q E s:=by
 cases T with
 |non=>cases (show u=Ψ from r);exact Om PySem.W.kitx_none I.kIn True.intro e (λz=>nomatch z) h
 |bl y=>cases (show u=mS y from r);exact Om PySem.W.kitx_bool I.kIn True.intro e (λz=>nomatch z) h
 |int i=>let⟨t,q⟩:=(show ∃t,u=hL i t from r);cases q;exact Om PySem.W.kitx_int I.kIn True.intro e (λz=>nomatch z) h
 |str y=>let⟨t,q⟩:=(show ∃t,u=kw y t from r);cases q;exact Om PySem.W.kitx_str I.kIn True.intro e (λz=>nomatch z) h
 |flt y=>let⟨t,q⟩:=(show ∃t,u=Value.float y t from r);cases q;exact Om PySem.W.kitx_float I.kIn True.intro e (λz=>nomatch z) h
 | @lst a g d=>cases (show u=ω a from r);let⟨_,_,n,_,f⟩:=(show aM X.prog X.w H s.heap a (.lst g) from I.hok a _ d);exact Om RX I.kIn #[_,f,Z] e (λz=>nomatch z) h
 | @frz a B g d=>cases (show u=ω a from r);let⟨_,_,_,n,_,f⟩:=(show aM X.prog X.w H s.heap a (.frz B$ .lst g) from I.hok a _ d);exact Om RX I.kIn #[_,f,Z] e (λz=>nomatch z) h
 | @tup a g d=>cases (show u=ω a from r);let⟨_,_,_,p⟩:=(show aM X.prog X.w H s.heap a (.tup g) from I.hok a _ d);let⟨o,f,j,_⟩:=p;exact Om PySem.W.kitx_tuple I.kIn #[o,f,j] e (λz=>nomatch z) h
 | @dK a k d=>cases (show u=ω a from r);let⟨_,_,V,_,p⟩:=(show aM X.prog X.w H s.heap a (.dK k) from I.hok a _ d);let⟨o,D,F,f,j,_⟩:=p;exact Om RY I.kIn #[o,f,j.1] e (λz=>nomatch z) h
 | @dT a k d=>cases (show u=ω a from r);let⟨_,_,g,_,o,D,F,f,j,_⟩:=(show aM X.prog X.w H s.heap a (.dT k) from I.hok a _ d);exact Om RY I.kIn #[o,f,j.1] e (λz=>nomatch z) h
 | @ins a C N P d m G L l M=>cases (show u=ω a from r);let⟨R,O,_⟩:=JW I.hok d;let⟨S,J,_⟩:=O.look;exact Om (PySem.W.kitx_own (m.get _) m.hd G L l M) I.kIn J e (λz=>nomatch z) h
end
structure bo(k:Nat)(A:bS):Prop where
 hd:A.handled=θ
 dp:A.depth+3*k+5 < recursionLimit
 un:A.units+16*k+200 < cLine
theorem bo.mono(r:bo k A)(h:j<=k):bo j A:=#[r.hd,by let:=r.dp;omega,by let:=r.un;omega]
theorem bo.deeper(r:bo (k+1) A)(e:rc):bo k (A.deeper e):=
 #[r.hd,by let:=r.dp;show A.depth+1+3*k+5 < _;omega,by let:=r.un;show A.units+3+16*k+200 < _;omega]
theorem Yq{A:bS}:(A.under$ .builtin "type.__call__" #[.ref C::u,k]).depth=A.depth+1:=by
 first |rfl |simp [Around.under,Code.weight,Code.isCreation,Code.isGuard,Code.isCaller,Code.frames,Code.isFrame,guardIds]
theorem Yr{A:bS}:(A.under$ .builtin "type.__call__" #[.ref C::u,k]).units=A.units+1:=by
 first |rfl |simp [Around.under,Code.cUnits,Code.frames,Code.isFrame]
theorem bo.make(r:bo (k+1) A)(C:η)(u:List ζ)(K:List (ρ×ζ)):bo k (A.under$ .builtin "type.__call__" #[.ref C::u,K]):=
 #[r.hd,by let:=r.dp;rw[Yq];omega,by let:=r.un;rw[Yr];omega]
theorem bo.depth(r:bo k A):A.depth < recursionLimit:=by let:=r.dp;omega
theorem bo.units(r:bo k A):A.units+64 < cLine:=by let:=r.un;omega
def aL:TA:=λ_ H Q=>Q [] H
def am(t:TE)(T:TA):TA:=λa H Q=>t a H λx h=>T a h λX b=>Q (x::X) b
section
variable {X:Cx}{e:dr}{es:List dr}{te:TE}{t:TA}{pos:Pos}
theorem jb:PA X [] aL:=λ_ _ _ _ H Q I h=>NG #[[],H,I,.nil,h]
theorem ja(b:PE X e te)(c:PA X es t)(d:Θ (e::es) X.env=(μ,eval e X.env)::Θ es X.env:=by rfl):PA X (e::es) (am te t):=by intro pos p s a H Q I h;rw[d];show π _ _ (spliced ((μ,eval e X.env)::fx pos (Θ es X.env))) _ _ s;refine Nk$ aU (b p s a H _ I h) λu S z=>?_;let⟨x,f,i,r,q⟩:=z;exact aU (c pos p S a f _ i q) λU m #[g,j,k,R,l]=>#[x::g,j,k,.cons r R,l]
def bn(t:TA):TE:=λa H Q=>t a H λx h=>x.length<=υ/\∀p,h p=θ->Q (.ref p) (af h p$ .tup x)
def nL(t:TA):TE:=λa H Q=>t a H λx h=>x.length<=υ/\∀p,h p=θ->Q (.ref p) (af h p$ .lst x)
theorem jh{x}(h:PA X es t):PE X (.Tuple es x pos) (bn t):=by intro p s c H Q I d;refine wpAny_Tuple_spliced$ aU (h pos p s c H _ I d) λU S #[f,a,i,r,z,q]=>#[by rw[<- r.length];exact z,?_];let g:a S.heap.objs.size=θ:=i.hok.fresh (Lx _);refine#[.ref S.heap.objs.size,af a S.heap.objs.size$ .tup f,i.laid (t':=S.toks) (λb u e=>Lv _ e) (Lx _) ?_,Z,q _ g];exact#[z,U,r,#[_,LB _ Z,Z,_,Z]]
theorem jI(h:PA X es t):PE X (.List es pos) (nL t):=by intro p s c H Q I d;refine wpAny_List_spliced$ aU (h pos p s c H _ I d) λU S #[x,a,i,r,z,q]=>#[by rw[<- r.length];exact z,?_];let f:a S.heap.objs.size=θ:=i.hok.fresh (Lx _);refine#[.ref S.heap.objs.size,af a S.heap.objs.size$ .lst x,i.laid (t':=S.toks) (λb u e=>Lv _ e) (Lx _) ?_,Z,q _ f];exact#[z,U,0,r,LB _ Z]
end
abbrev Sp:=List V->Hp->VK->XK->Prop
abbrev pR:=List rc->Hp->ι->XK->ζ->ι->Prop
structure lP(P:ψ)(w:bU)(K:β)(mg:ρ->Option ζ)(base:cJ)(A:bS)(outer:List rc)(s:ι)(H:Hp):Prop where
 frames:A.frames=δ outer
 mod:Mod K mg base
 bs:∀b o,base.get? b=δ o->s.heap.get? b=δ o/\H b=θ
 bsz:base.objs.size<=s.heap.objs.size
 funs:s.heap.FunFrames base outer
 frf:∀b∈lB outer,H b=θ
 hok:eV P w H s.heap
 bare:AllBare s.gens
def CE(o:List rc)(P:ψ)(w:bU)(H:Hp)(s:ι)(Q:VK)(u:ζ)(S:ι):Prop:=
 ∃v h,S.os=s.os/\AllBare S.gens/\Un (lB o) [] H h s.heap S.heap/\eV P w h S.heap/\aF v u/\Q v h
def CR(C:pR)(o:List rc)(P:ψ)(w:bU)(H:Hp)(s:ι)(Q:VK)(E:XK)(r:Result)(S:ι):Prop:=
 match r with
 | .ok (.ret u)=>CE o P w H s Q u S
 | .ok _=>False
 | .error e=>C o H s E e S
structure ah(P:ψ)(w:bU)(K:β)(mg:ρ->Option ζ)(base:cJ)(CX:pR)(k:Nat)(f:η)(fd:fy)(ps:List ρ)(sp:Sp):Prop where
 len:∀vs H Q E,sp vs H Q E->vs.length=ps.length
 run:∀(A:bS) (outer:List rc) (s:ι) (H:Hp) (args:Args) (us:List ζ) (vs:List V) (Q:VK) (E:XK),bo k A->lP P w K mg base A outer s H->BindsTo s fd args (ps.zip us)->ax vs us->sp vs H Q E->
  hY (χ P w) A (.call (.ref f) args) (CR CX outer P w H s Q E) s
theorem lP.make{P:ψ}{K:β}(e:lP P w K m b A o s H)(C:η)(u:List ζ)(k:List (ρ×ζ)):
  lP P w K m b (A.under$ .builtin "type.__call__" #[.ref C::u,k]) o s H:=#[by first |exact e.frames | (simpa [Around.under,Code.envs,Code.isFrame,pushEnvs] using e.frames),e.mod,e.bs,e.bsz,e.funs,e.frf,e.hok,e.bare]
section
variable {X:Cx}{pins:List (η×ge)}{σ:St}{H:Hp}{s s':ι}
theorem au.env0(I:au X pins σ H s):lP X.prog X.w X.K X.mg X.base X.A X.stack s H:=
 #[I.ok.frames,I.ok.mod,I.bs,LJ I.ok.bsz I.sz,I.stack,I.stkFree,I.hok,I.bare]
theorem au.after(I:au X pins σ H s)(h:CE X.stack X.prog X.w H s Q u s'):EP X pins σ Q u s':=by let⟨v,c,os,B,U,a,r,q⟩:=h;let⟨e,g,d,t,o⟩:=s';obtain rfl:o=s.os:=os;exact#[v,c,I.call (h':=e) (g':=g) (d':=d) (t':=t) (ch:=[]) U a B (λb z=>absurd z UL),r,q]
end
def dM(s:Sp)(d:List V)(E:XK)(t:TA):TE:=λa H Q=>t a H λv h=>s (v++d) h Q E
inductive wn(C:η)(m:ρ)(f:Sp)(b:List V)(E:XK)(t:TA)(g:St)(Q:VK)(x:V)(c:Hp):Prop
 |mk(a d e:_)(_:x= .ref a)(_:c a=δ (.ins C d e))(_:e.lookup m=θ)(_:t g c λvs H2=>f (x::(vs++b)) H2 Q E)
def wm(C:η)(m:ρ)(s:Sp)(d:List V)(E:XK)(T:TE)(t:TA):TE:=λa H Q=>T a H (wn C m s d E t a Q)
def GJ(C:η)(s:Sp)(D:List V)(E:XK)(t:TA):TE:=λa H Q=>t a H λb h=>∀x d,h x=θ->h d=θ->d≠x->
 s (.ref x::(b++D)) (af (af h d$ .own x) x$ .ins C d []) (λv c=>v= .non/\Q (.ref x) c) E
def aw(K:β)(f:fy)(p:List ρ)(d:List ζ):Prop:=
 ∀(s:ι) (u:List ζ),K.In s.heap->(u++d).length=p.length->BindsTo s f #[u,[]] (p.zip$ u++d)
theorem aw.all{K:β}{p:List ρ}(h:∀u:List ζ,u.length=p.length->bindArgs f #[u,[]]=pure (p.zip u)):aw K f p []:=λs u _ H=>by rw[P6]at H ⊢;exact .of_eq$ h u H
def dC(C:pR)(X:Cx)(E:XK):Prop:=∀(p:List (η×ge)) (a:St) (H:Hp) (s:ι) (e:ζ) (S:ι),au X p a H s->C X.stack H s E e S->X.xe e S
section
variable {X:Cx}{CX:pR}{k:Nat}{f C:η}{fd:fy}{ps:List ρ}{sp:Sp}{dvs:List V}{ds:List ζ}{E:XK}{x m:ρ}{p pos apos:Pos}{e o:dr}{es:List dr}{ta:TE}{t:TA}
theorem QS{us:List ζ}{vs:List V}(F:ah X.prog X.w X.K X.mg X.base CX k f fd ps sp)(d:bo k X.A)(g:aw X.K fd ps ds)(i:ax dvs ds)(j:dC CX X E)
  (I:au X a c H s) (r:ax vs us) (h:sp (vs++dvs) H Q E):π (χ X.prog X.w) X.A (call (.ref f) us) (EP X a c Q) X.xe s:=by
 let R:ax (vs++dvs) (us++ds):=r.append i;let l:(us++ds).length=ps.length:=by rw[<- R.length];exact F.len _ _ _ _ h
 refine OA$ NJ (F.run X.A X.stack s H #[us,[]] (us++ds) (vs++dvs) Q E d I.env0 (g s us I.kIn l) R h) λr S b=>?_;cases r with
 |error e=>exact j a c H s e S I b
 |ok n=>
  cases n with
  |ret u=>exact I.after b
  |next=>exact False.elim b
  |brk=>exact False.elim b
  |cont=>exact False.elim b
theorem kG(F:ah X.prog X.w X.K X.mg X.base CX k f fd ps sp)(c:bo k X.A)(d:Gl X x)(g:X.mg x=↑f)(j:fz X.K (.ref f)=ν)(l:aw X.K fd ps ds)(n:ax dvs ds)(u:dC CX X E)
  (v:PA X (e::es) t) (a:(x==("__debug__":ρ))=μ:=by decide) (y:Θ (e::es) X.env=(μ,eval e X.env)::Θ es X.env:=by rfl) (b:(fx pos$ Θ es X.env).any (·.1)=μ:=by rfl):
  PE X (.Call (.Name x p) (e::es) [] pos) (dM sp dvs E t):=by
 intro P s z H Q I h;refine Mt$ zJ I d g ?_ a;refine Pg (h₀:=X.base) I.ok.mod.kin j (aU (v pos P s z H _ I h) λU S #[B,D,i,r,q]=>#[i.kIn,?_]) y b;exact QS F c l n u i r q
theorem j7(v:PE X o ta)(c:pS X.K C)(g:a8 X.K C m f)(F:ah X.prog X.w X.K X.mg X.base CX k f fd ps sp)(y:bo k X.A)(B:aw X.K fd ps ds)(D:ax dvs ds)(G:dC CX X E)(J:PA X (e::es) t)
  (b:Θ (e::es) X.env=(μ,eval e X.env)::Θ es X.env:=by rfl) (d:(fx pos$ Θ es X.env).any (·.1)=μ:=by rfl)
  (L:eval (.Call (.Attribute o m apos) (e::es) [] pos) X.env=(do
   let O <- eval o X.env
   standAt apos.atName
   let (f,first) <- iv [O] (getMethod O m pl)
   callWith pos f first (fx pos$ Θ (e::es) X.env) (backToKw pos$ keywordEach [] X.env)):=by rfl):
  PE X (.Call (.Attribute o m apos) (e::es) [] pos) (wm C m sp dvs E ta t):=by
 intro P s i H Q I h;refine OJ (pl:=pl) (aU (v P s i H _ I h) λu S z=>?_) L;let⟨x,M,j,R,a,W,Y,N,T,l,q⟩:=z;subst N;obtain rfl:u=ω a:=R;refine KH j T c g l ?_;refine Pg (first:=[.ref a]) (h₀:=X.base) I.ok.mod.kin g.kp (aU (J pos P S i M _ j q) λus s2 #[vs,H2,n,r,U]=>#[n.kIn,?_]) b d;exact QS (us:=.ref a::us) (vs:=.ref a::vs) F y B D G n (.cons Z r) U
theorem Xo(d:PE X o ta)(c:pS X.K C)(b:a8 X.K C m f)(F:ah X.prog X.w X.K X.mg X.base CX k f fd ps sp)(g:bo k X.A)(j:aw X.K fd ps ds)(n:ax dvs ds)(r:dC CX X E)
  (v:eval (.Call (.Attribute o m apos) [] [] pos) X.env=(do
   let O <- eval o X.env
   standAt apos.atName
   let (f,first) <- iv [O] (getMethod O m pl)
   callWith pos f first (fx pos$ Θ [] X.env) (backToKw pos$ keywordEach [] X.env)):=by rfl):
  PE X (.Call (.Attribute o m apos) [] [] pos) (wm C m sp dvs E ta aL):=by
 intro P s y H Q I h;refine OJ (pl:=pl) (aU (d P s y H _ I h) λu S z=>?_) v;let⟨x,G,i,R,a,J,L,B,D,l,q⟩:=z;subst B;obtain rfl:u=ω a:=R;refine KH i D c b l ?_;exact RI (first:=[.ref a]) i.kIn b.kp$ QS (us:=[.ref a]) (vs:=[.ref a]) F g j n r i (.cons Z .nil) q
structure Mk(K:β)(C f:η):Prop where
 makes:PySem.W.makesIn K C=ν
 init:findIn K (.ref C) "__init__"=δ (↑f)
 fn:isFn K (.ref f)=ν
 kp:fz K (.ref C)=ν
theorem uT(M:Mk X.K C f)(F:ah X.prog X.w X.K X.mg X.base CX k f fd ps sp)(l:bo (k+1) X.A)(n:aw X.K fd ps ds)(q:ax dvs ds)
  (y:dC CX X E) (I:au X b c H s) (r:ax g U)
  (h:∀x d,H x=θ->H d=θ->d≠x->sp (.ref x::(g++dvs)) (af (af H d$ .own x) x$ .ins C d []) (λv z=>v= .non/\Q (.ref x) z) E):
  π (χ X.prog X.w) X.A (call (.ref C) U) (EP X b c Q) X.xe s:=by
 let j:=h (s.heap.objs.size+1) s.heap.objs.size (I.hok.fresh$ MZ _) (I.hok.fresh$ Lx _) (LC$ MQ _);let i:=au.made (C:=C) I;let R:ax (rs (s.heap.objs.size+1)::(g++dvs)) (ω (s.heap.objs.size+1)::(U++ds)):=.cons Z (r.append q);let B:(ω (s.heap.objs.size+1)::U++ds).length=ps.length:=by let e:=R.length;rw[F.len _ _ _ _ j]at e;exact e.symm
 refine OA (tY (f:=f) I.kIn M.makes M.init (beq_iff_eq.mp M.fn) (NJ (F.run _ X.stack _ _ #[ω (s.heap.objs.size+1)::U,[]] (ω (s.heap.objs.size+1)::(U++ds)) _ _ E (l.make C U [])
  (i.env0.make C U []) (n _ (ω (s.heap.objs.size+1)::U) i.kIn B) R j) λr S a=>?_))
 cases r with
 |error e=>exact y b c _ _ e S i a
 |ok D=>
  cases D with
  |ret u=>let⟨v,G,J,L,N,O⟩:=i.after a;subst N;exact#[L,#[rs$ s.heap.objs.size+1,G,J,Z,O]]
  |next=>exact False.elim a
  |brk=>exact False.elim a
  |cont=>exact False.elim a
theorem Q0(M:Mk X.K C f)(F:ah X.prog X.w X.K X.mg X.base CX k f fd ps sp)(c:bo (k+1) X.A)(d:Gl X x)(g:X.mg x=↑C)(j:aw X.K fd ps ds)(l:ax dvs ds)(n:dC CX X E)
  (u:PA X (e::es) t) (a:(x==("__debug__":ρ))=μ:=by decide) (v:Θ (e::es) X.env=(μ,eval e X.env)::Θ es X.env:=by rfl) (b:(fx pos$ Θ es X.env).any (·.1)=μ:=by rfl):
  PE X (.Call (.Name x p) (e::es) [] pos) (GJ C sp dvs E t):=by
 intro P s y H Q I h;refine Mt$ zJ I d g ?_ a;refine Pg (h₀:=X.base) I.ok.mod.kin M.kp (aU (u pos P s y H _ I h) λU S #[z,B,i,r,q]=>#[i.kIn,?_]) v b;exact uT M F c j l n i r q
end
structure ak(N P:List ρ)(sc:hG):Prop where
 kind:sc.kind= .function
 co:sc.isCoroutine=μ
 gen:sc.isGenerator=μ
 nd:N.Nodup
 pre:N.take P.length=P
 par:∀x∈P,sc.names.lookup x=δ .local∨sc.names.lookup x=δ .cell
 nofree:∀y∈sc.names,y.2≠ .free
theorem Qx{kindOf:ρ->Option NameKind}:∀{b:List (ρ×ζ)} {m:ρ->Option ζ},(∀v,(x,v)∉b)->bindL kindOf b m x=m x
 | [],_,_=>rfl
 | (n,v)::r,m,h=>by
  unfold bindL;rw[Qx λw H=>h w (LW _ H)];split
  .let:x≠n:=by rintro rfl;exact h v LN
   simp [this]
  .rfl
theorem Qy{kindOf:ρ->Option NameKind}:∀{b:List (ρ×ζ)} {m:ρ->Option ζ},(∀v,(x,v)∉b)->bindC kindOf b m x=m x
 | [],_,_=>rfl
 | (n,v)::r,m,h=>by
  unfold bindC;rw[Qy λw H=>h w (LW _ H)];split
  .rfl
  .let:x≠n:=by rintro rfl;exact h v LN
   simp [this]
theorem Qz{kindOf:ρ->Option NameKind}:∀{P:List ρ} {V:List ζ} {i:Nat} {m:ρ->Option ζ},P.Nodup->P[i]?=δ x->V[i]?=δ v->kindOf x=δ .local->
  bindL kindOf (P.zip V) m x=δ v
 | [],_,_,_,_,h,_,_=>by simp at h
 |_::_,[],_,_,_,_,h,_=>by simp at h
 |p::P,w::V,0,m,n,H,a,b=>by simp at H a;subst H;subst a;show bindL kindOf ((p,w)::P.zip V) m p=_;unfold bindL;rw[Qx λv c=>(mF.mp n).1 (Og c).1,LP b];simp
 |p::P,w::V,i+1,m,n,H,a,b=>by show bindL kindOf ((p,w)::P.zip V) m x=_;unfold bindL;exact Qz (i:=i) (mF.mp n).2 (by simpa using H) (by simpa using a) b
theorem QA{kindOf:ρ->Option NameKind}:∀{P:List ρ} {V:List ζ} {i:Nat} {m:ρ->Option ζ},P.Nodup->P[i]?=δ x->V[i]?=δ v->kindOf x≠δ .local->
  bindC kindOf (P.zip V) m x=δ v
 | [],_,_,_,_,h,_,_=>by simp at h
 |_::_,[],_,_,_,_,h,_=>by simp at h
 |p::P,w::V,0,m,n,H,a,b=>by simp at H a;subst H;subst a;show bindC kindOf ((p,w)::P.zip V) m p=_;unfold bindC;rw[Qy λv c=>(mF.mp n).1 (Og c).1,LV b];simp
 |p::P,w::V,i+1,m,n,H,a,b=>by show bindC kindOf ((p,w)::P.zip V) m x=_;unfold bindC;exact QA (i:=i) (mF.mp n).2 (by simpa using H) (by simpa using a) b
noncomputable def dJ(N:List ρ)(v:List V):St:=v.map δ++ic (N.length - v.length) θ
noncomputable def d9(C:pR)(P:ψ)(w:bU)(K:β)(mg:ρ->Option ζ)(base:cJ)(N:List ρ)(q:ρ)(S:hG)(f:η)(c:ζ)(A:bS)(outer:List rc)(s:ι)(H:Hp)(E:XK):Cx where
 prog:=P
 w:=w
 K:=K
 mg:=mg
 base:=base
 A:=A.deeper (envOfC q S s.heap.objs.size f c)
 N:=N
 s₀:=s
 H₀:=H
 env:=envOfC q S s.heap.objs.size f c
 outer:=outer
 stack:=envOfC q S s.heap.objs.size f c::outer
 ex:=[]
 calm:=ν
 fn:=λ_=>ν
 pn:=[]
 xe:=λe b=>π (χ P w) (A.deeper$ envOfC q S s.heap.objs.size f c) (leaving (envOfC q S s.heap.objs.size f c) e) (λ_ a=>C outer H s E e a) (λd a=>C outer H s E d a) b
theorem Xp{s:hG}{n:Nat}(h:s.names.lookup x=δ .cell):∃c,(cellsFrom n s.names []).lookup x=δ c:=by let q:=OE s.names n [] (.inl h);exact ly.mp q
theorem QB{P:ψ}{K:β}{A:bS}{E:XK}{l:List V}
  (S:ak N t d) (O:A.handled=θ) (j:lP P w K M B A o s H) (hl:l.length=t.length) (r:ax l U)
  (x:InCallC s s.heap.objs.size (bindL (envOfC Q d s.heap.objs.size f I).kindOf (t.zip U) λ_=>θ) (cellsFrom (s.heap.objs.size+1) d.names []) (bindC (envOfC Q d s.heap.objs.size f I).kindOf (t.zip U) λ_=>θ) T):
  au (d9 Y P w K M B N Q d f I A o s H E) [] (dJ N l) H T:=by
 let R:t.length<=N.length:=by let:=MO List.length S.pre;rw[Mb]at this;omega
 let⟨F,tk,rfl,J⟩:=x.done;let m:∀b:η,b∉(d9 Y P w K M B N Q d f I A o s H E).ex:=λb z=>absurd (show b∈([]:List η) from z) UL;refine#[#[j.mod,S.kind,Z,Z,Lx _,λy z c F g=>?_,λy hy=>?_,λy c _ h=>?_,λ_=>O,RN j.frames,.inr #[Z,Z],λb z=>absurd z (m b),j.bs,j.bsz,λb _ _=>m b,λb z=>absurd z (m b),j.funs,j.frf],
  rfl,j.bare,Un.kept J,#[_,x.toInCall.ns,λi y v F g h3=>?_],λy c h=>#[_,x.cell y c h],j.hok.fresh$ Lx _,λy c h=>?_,λp C=>absurd (show p∈([]:List (η×ge)) from C) UL,j.hok.kept J,?_]
 .exact name_of_addr x.apart (M0 F)$ M0 g
 .let hy:d.names.lookup y=δ .cell∨d.names.lookup y=δ .free:=hy;rcases hy with hy |hy
  .exact Xp hy
  .exact absurd Z$ S.nofree _$ M0 hy
 .exact NA$ x.above y c$ M0 h
 .let G:i < l.length:=by
   unfold dJ at g;by_cases G:i < l.length
   .exact G
   .rw[Nl (by simpa using G)]at g;rw[RF]at g;split at g<;>cases g
  let W:l[i]?=δ v:=by
   unfold dJ at g;rw[Nq (by simpa using G),LK]at g;cases e:l[i]? with
   |none=>rw[e]at g;cases g
   |some a=>rw[e]at g;cases g;rfl
  let⟨u,L,X⟩:=r.get W;let C:t[i]?=δ y:=by rw[<- S.pre,List.getElem?_take_of_lt UK];exact F
  let D:t.Nodup:=by rw[<- S.pre];exact S.nd.sublist$ Nr _ _
  refine#[u,X,?_];rcases S.par y (LS C) with k |k
  .exact .inl #[k,Qz D C L k]
  .let⟨c,e⟩:=Xp (n:=s.heap.objs.size+1) k;refine .inr #[.inl k,c,e,?_];let q:=x.cell y c e;rw[QA D C L (by show d.names.lookup y≠_;rw[k];decide)]at q;exact q
 .exact j.hok.fresh$ NA$ x.above y c$ M0 h
 .unfold dJ;show _=N.length;rw[Ly,Lw,O9];omega
theorem AS{P:ψ}{K:β}{kV:ζ}
    {G:Sp} (lk:K.lookup f=δ #[oc,od,.func$ qs name c p h a dV kV L pm an C ct,o1]) (M:codeIn K C c=ν) (S:ak N T a)
  (len:∀d H Q E,G d H Q E->d.length=T.length)
  (j:∀(A:bS) (O:List rc) (s:ι) (H:Hp) (d:List V) (Q:VK) (E:XK),bo k (A.deeper$ envOfC c a s.heap.objs.size f C)->G d H Q E->
   ∃t,mN (d9 U P w K Y B N c a f C A O s H E) h t/\t { nx:=λ_ i=>Q .non i,rt:=Q } (dJ N d) H):
  ah P w K Y B U (k+1) f (qs name c p h a dV kV L pm an C ct) T G:=by
 refine#[len,λA O s H a0 us d Q E R z hb r D=>?_];let hl:=len _ _ _ _ D;let KX:K.In s.heap:=z.mod.kin.keeps λb o e=>(z.bs b o e).1;let W:s.heap.NoLimit:=z.mod.nolimit.keeps λb o e=>(z.bs b o e).1;let l:∀y∈T.zip us,a.names.lookup y.1=δ .local∨(a.names.lookup y.1=δ .cell/\((cellsFrom (s.heap.objs.size+1) a.names []).lookup y.1).isSome=ν):=λ#[n,v] hy=>by
  rcases S.par n (Og hy).1 with q |q
  .exact .inl q
  .exact .inr #[q,OE _ _ _$ .inl q]
 refine SM R.depth (KX _ _ lk) Z S.co S.gen Z (RU KX M)$ hb _ _ _ _ ?_;refine RP S.kind l λe1 he s1 x=>?_;subst he;refine#[W.keeps x.toInCall.keep,codeAny_func ?_];let⟨t,ht,hq⟩:=j A O s H d Q E (R.deeper _) D;let I:au (d9 U P w K Y B N c a f C A O s H E) [] (dJ N d) H s1:=QB S R.hd z hl r x;refine Mp (ht [] s1 (dJ N d) H _ I hq) (λfl X m=>?_) λe X m=>m;let F:∀{g:St} {i:Hp} {v:V} {u:ζ},au (d9 U P w K Y B N c a f C A O s H E) [] g i X->aF v u->Q v i->CE O P w H s Q u X:=
  λ{g i v u} J rv q=>#[v,i,J.os,J.bare,J.base,J.hok,rv,q]
 cases fl with
 |ret u=>let⟨v,g,i,J,rv,q⟩:=m;exact F J rv q
 |next=>let⟨g,i,J,q⟩:=m;exact F (v:=V.non) (u:=Ψ) J Z q
 |brk=>let⟨_,_,_,q⟩:=m;exact False.elim q
 |cont=>let⟨_,_,_,q⟩:=m;exact False.elim q
section
variable {X:Cx}{x:ρ}{p pos:Pos}{e:dr}{es:List dr}{t:TA}{id T:String}{r:List V->Hp->VK->Prop}
def Hj(r:List V->Hp->VK->Prop)(t:TA):TE:=λa H Q=>t a H λv h=>r v h Q
theorem jF(d:cQ X (.builtin id) r)(f:Gl X x)(g:X.mg x=θ)(i:bootBuiltins x=δ (.builtin id))(j:PA X (e::es) t)(k:x≠"__name__":=by decide)(a:(x==("__debug__":ρ))=μ:=by decide)
  (l:Θ (e::es) X.env=(μ,eval e X.env)::Θ es X.env:=by rfl) (b:(fx pos$ Θ es X.env).any (·.1)=μ:=by rfl):PE X (.Call (.Name x p) (e::es) [] pos) (Hj r t):=by
 intro P s c H Q I h;refine Mt$ zu I f g i ?_ k a;exact Uu (aU (j pos P s c H _ I h) λu S #[v,m,n,R,q]=>d P S c m v u Q n R q) l b
theorem jE(d:cQ X (.type T) r)(f:Gl X x)(g:X.mg x=θ)(i:bootBuiltins x=δ (.type T))(j:PA X (e::es) t)(k:x≠"__name__":=by decide)(a:(x==("__debug__":ρ))=μ:=by decide)
  (l:Θ (e::es) X.env=(μ,eval e X.env)::Θ es X.env:=by rfl) (b:(fx pos$ Θ es X.env).any (·.1)=μ:=by rfl):PE X (.Call (.Name x p) (e::es) [] pos) (Hj r t):=by
 intro P s c H Q I h;refine Mt$ zu I f g i ?_ k a;exact Mn (aU (j pos P s c H _ I h) λu S #[v,m,n,R,q]=>d P S c m v u Q n R q) l b
end
end _L
namespace HT
open PySem PyProof.Rows
section
variable {prog:ψ}{w:bU}{A:bS}{E:ζ->ι->Prop}{s:ι}
theorem cat_tup{v W:List ζ}{Q:ζ->ι->Prop}(m:IsTup s.heap t v.toArray)(o:IsTup s.heap b W.toArray)(i:v≠[])
  (p:W=[]->Q (.ref t) s) (q:W≠[]->Q (.ref s.heap.objs.size) { s with heap:=s.heap.push { cls:=.type "tuple",data:=.seq (v++W).toArray } })
  (g:v.length+W.length<=υ):π (χ prog w) A (binaryOp .Add (.ref t)$ .ref b) Q E s:=by
 obtain⟨⟨cls,D,data,j⟩,c,k,n,l⟩:=id m;obtain⟨⟨C,d,data2,S⟩,h,H,N,a⟩:=id o;simp only at k l H a;subst k l H a;let e:v.toArray++W.toArray=(v++W).toArray:=by simp
 by_cases f:W=[]
 .exact Sy #[_,c,Z] #[_,h,Z] Rm Sa OF Oq (Op _ _)
   (tuple_addW1 t b v.toArray W.toArray n N D d j S (by simpa using i) (by simp [f])) #[c,h,p f]
 .refine Sy #[_,c,Z] #[_,h,Z] Rm Sa OF Oq (Op _ _)
   (tuple_addW2 t b v.toArray W.toArray n N D d j S (by simpa using i) (by simpa using f) (by rw[LA,LA];exact g)) #[c,h,?_]
  rw[e];exact q f
def sIx(n d:Nat):Option Int->Nat
 |none=>d
 |some v=>if v < 0 then (v+(n:Int)).toNat else min v.toNat n
theorem sIx_none(n d:Nat):sIx n d θ=d:=rfl
theorem sIx_nat(n d k:Nat):sIx n d (δ (k:Int))=min k n:=by show(if (k:Int) < 0 then ((k:Int)+(n:Int)).toNat else min (k:Int).toNat n)=min k n;rw[LV UK,Mx]
theorem DK(n d:Nat)(H:d<=n)(o:Option Int):sIx n d o<=n:=by
 cases o with
 |none=>exact H
 |some v=>
  show(if v < 0 then (v+(n:Int)).toNat else min v.toNat n)<=n;by_cases h:v < 0
  .rw[LP h];omega
  .rw[LV h];exact Nat.min_le_right _ _
theorem Zc(v:Int)(n d:Nat):(if v < 0 then max (v+(n:Int)) 0 else min v (n:Int))=((sIx n d (δ v):Nat):Int):=by
 show(if v < 0 then max (v+(n:Int)) 0 else min v (n:Int))=(((if v < 0 then (v+(n:Int)).toNat else min v.toNat n):Nat):Int);by_cases h:v < 0
 .simp only[LP h];omega
 .simp only[LV h];omega
theorem Ys(lo h:Option Int)(n:Nat):js lo h 1 (n:Int)=(((sIx n 0 lo:Nat):Int),((sIx n n h:Nat):Int)):=by
 let H:¬((1:Int) < 0):=by omega
 unfold js;simp only[H,MT];refine Prod.ext ?_ ?_
 .cases lo with
  |none=>rfl
  |some v=>exact Zc v n 0
 .cases h with
  |none=>rfl
  |some v=>exact Zc v n n
theorem Yt(i j:Nat):gR (i:Int) (j:Int) 1=j - i:=by
 unfold gR;let h:(1:Int) > 0:=by omega
 simp only[h,On,Int.ediv_one];split<;>omega
theorem KJ{Q:Option Int->ι->Prop}(p:IsPart v o)(h:Q o s):π (χ prog w) A (Builtin.Slice.slicePartIndex v) Q E s:=by
 cases p with
 |none=>exact Uz h
 |int i t=>exact slicePart_int h
theorem sliceApplied_gen{lo:Option Int}{Q:Int×Int×Nat->ι->Prop}(d:s.heap.IsSliceOf e v c .none)(p:IsPart v lo)(P:IsPart c b)
  (h:Q (((sIx n 0 lo:Nat):Int),1,sIx n n b - sIx n 0 lo) s):π (χ prog w) A (mU (.ref e)$ pure (n:Int)) Q E s:=by
 let⟨os,H,f,a⟩:=id d;unfold mU Builtin.Slice.sliceFields;refine Lr$ Lr$ LY H a (x:=v) Z$ Lr$ LY H a (x:=c) Z$ Lr$ LY H a (x:=.none) Z$ Lu ?_;refine Lr$ Uz ?_;show π _ _ (if ((1:Int)==0)=ν then _ else _) _ _ s;rw[LV UJ];refine Lr$ KJ p$ Lr$ KJ P$ Lr$ Lu ?_;show π _ _ (match js lo b 1 (n:Int) with | (lo,b)=>pure (lo,(1:Int),gR lo b 1)) _ _ s;rw[Ys lo b n];show π _ _ (pure (((sIx n 0 lo:Nat):Int),(1:Int),gR ((sIx n 0 lo:Nat):Int) ((sIx n n b:Nat):Int) 1)) _ _ s;rw[Yt];exact Lu h
theorem uJ(X:Array ζ)(i k:Nat):((fr k).filterMap λ(m:Nat)=>X[((i:Int)+(m:Int)*1).toNat]?).toArray=((X.toList.drop i).take k).toArray:=by
 let e:(λ(m:Nat)=>X[((i:Int)+(m:Int)*1).toNat]?)=λm=>X[i+m]?:=by
  funext m;let:((i:Int)+(m:Int)*1).toNat=i+m:=by omega
  rw[this]
 rw[e];let:=pick_run X i k;rw[List.filterMap_map]at this;let a:((λx=>X[x]?) ∘ λx=>i+x)=λm=>X[i+m]?:=rfl;rw[a]at this;rw[this]
theorem getItem_tuple_cut{lo:Option Int}{Q:ζ->ι->Prop}(ht:IsTup s.heap t items)(hs:s.heap.IsSliceOf sl vl vu .none)(pl:IsPart vl lo)(pu:IsPart vu hi)
  (hw:¬(sIx items.size 0 lo=0/\sIx items.size items.size hi=items.size))
  (h:Q (.ref s.heap.objs.size) { s with heap:=s.heap.push { cls:=.type "tuple",data:=.seq ((items.toList.drop$ sIx items.size 0 lo).take$ sIx items.size items.size hi - sIx items.size 0 lo).toArray } })
  (hsz:items.size<=υ):π (χ prog w) A (getItem (.ref t)$ .ref sl) Q E s:=by
 let htake:sizeOk (.seq ((items.toList.drop$ sIx items.size 0 lo).take$ sIx items.size items.size hi - sIx items.size 0 lo).toArray):=by show((items.toList.drop$ sIx items.size 0 lo).take$ sIx items.size items.size hi - sIx items.size 0 lo).toArray.size<=υ;rw[LA,Mb,Nj,LU];omega
 let hj:sIx items.size items.size hi<=items.size:=DK _ _ (Lx _) hi;let⟨os,hos,hcs,hds⟩:=id hs;let hTs:s.TypeIs (.ref sl) "slice":=#[os,hos,hcs];unfold getItem;try with_reducible refine LI ?_
 first |refine Lr (Lu ?_) |skip
 refine Lr$ P8 ht.typeIs UJ ?_;refine Lr (Mj (name:=Str.ofString "__getitem__") ht.typeIs No
  (Mg No ht.typeIs entry_tuple_getitem ?_$ args_tuple_getitem _ _))
 show π _ _ (nz (.ref t) >>= _) _ _ s;refine Lr$ tupleItemsOf_ ht ?_;refine Lr$ Nn hTs ?_;rw[LP UJ];refine Lr$ sliceApplied_gen hs pl pu ?_;let hno:¬((((sIx items.size 0 lo:Nat):Int)==0&&(1:Int)==1&&(sIx items.size items.size hi - sIx items.size 0 lo)==items.size)=ν):=by intro q;rw[MJ,MJ]at q;let q1:((sIx items.size 0 lo:Nat):Int)=0:=eq_of_beq q.1.1;let q2:sIx items.size items.size hi - sIx items.size 0 lo=items.size:=eq_of_beq q.2;exact hw #[UK,UK]
 show π _ _ (if (((sIx items.size 0 lo:Nat):Int)==0&&(1:Int)==1&&(sIx items.size items.size hi - sIx items.size 0 lo)==items.size)=ν then _ else _) _ _ s;rw[LV hno,uJ];first
  |exact Lr (m:=ef _) (Mm (Lu #[_,Z,Lu h]) htake)
  |exact Lr (m:=ef _) (Mm (Lr (Lu (Lu #[_,Z,Lu h]))) htake)
  |exact Lr (Lr (m:=ef _) (Mm (Lu (Lu #[_,Z,Lu h])) htake))
  |exact Lr (Lr (m:=ef _) (Mm (Lu #[_,Z,Lu h]) htake))
end
end HT
namespace _L
open PySem PySem.Spec PyProof.Rows
abbrev TO:=St->Hp->(Option Int->Hp->Prop)->Prop
def PO(X:Cx)(e:Option dr)(t:TO):Prop:=
 ∀(p:List (η×ge)) (s:ι) (a:St) (H:Hp) (Q:Option Int->Hp->Prop),au X p a H s->t a H Q->
  π (χ X.prog X.w) X.A (evalPart e X.env) (λu S=>∃o h,au X p a h S/\IsPart u o/\Q o h) X.xe s
def mK:TO:=λ_ H Q=>Q θ H
inductive wt(Q:Option Int->Hp->Prop)(x:V)(a:Hp):Prop
 |mk(i:_)(_:x= .int i)(_:Q (δ i) a)
def nM(t:TE):TO:=λa H Q=>t a H (wt Q)
theorem Yu{N:List Int}:∀{u:List ζ},ax (N.map rm) u->IntsAre u N:=by
 induction N with
 |nil=>intro u r;rw[Py]at r;cases r;exact .nil
 |cons n N i=>
  intro u r;rw[MU]at r;cases r with
  |cons R a=>let⟨t,e⟩:=R;subst e;exact .cons n t$ i a
section
variable {X:Cx}{e:dr}{te:TE}{lo hi:Option dr}{tl th:TO}{pos p2:Pos}
theorem jW:PO X θ mK:=by intro p s a H Q I h;rw[evalPart_none];exact Lu #[θ,H,I,.none,h]
theorem jG(h:PE X e te):PO X (δ e) (nM te):=by intro p s a H Q I b;rw[evalPart_some];refine aU (h p s a H _ I b) λu S z=>?_;let⟨x,c,d,r,f⟩:=z;let⟨i,rfl,q⟩:=f;let⟨t,rfl⟩:=r;exact#[δ i,c,d,.int i t,q]
def Hc(X:Cx)(r:V->Option Int->Option Int->Hp->VK->Prop):Prop:=
 ∀(p:List (η×ge)) (s:ι) (a:St) (H:Hp) (x:V) (v b c:ζ) (lo hi:Option Int) (S:η) (Q:VK),au X p a H s->aF x v->s.heap.IsSliceOf S b c .none->IsPart b lo->IsPart c hi->r x lo hi H Q->
  ∃T id,typeLookup (.type T) "__getitem__"=pure (δ$ .builtin id)/\s.TypeIs v T/\π (χ X.prog X.w) X.A (getItem v$ .ref S) (EP X p a Q) X.xe s
def Hk(r:V->Option Int->Option Int->Hp->VK->Prop)(te:TE)(tl th:TO):TE:=λa H Q=>te a H λx h=>tl a h λl b=>th a b λu c=>r x l u c Q
theorem jK{r:V->Option Int->Option Int->Hp->VK->Prop}(g:Hc X r)(i:PE X e te)(j:PO X lo tl)(k:PO X hi th):PE X (.Subscript e (.Slice lo hi θ p2) pos) (Hk r te tl th):=by intro p s a H Q I h;refine RT$ aU (i p s a H _ I h) λv m z=>?_;let⟨x,n,o,R,t⟩:=z;refine wpAny_Slice$ aU (j p m a n _ o t) λc y #[l,B,C,P,D]=>aU (k p y a B _ C D) λd S z=>?_;let⟨u,f,E,F,G⟩:=z;rw[evalPart_none];refine Lu ?_;let J:au X p a f { S with heap:=S.heap.push { cls:=.type "slice",data:=.fields (ε [c,d,.none]) } }:=E.kept (t':=S.toks) λb O q=>Lv _ q;let⟨T,id,K,L,M⟩:=g p { S with heap:=S.heap.push { cls:=.type "slice",data:=.fields (ε [c,d,.none]) } } a f x v c d l u S.heap.objs.size Q J R (P7 ..) P F G;show π (χ X.prog X.w) X.A (subscriptTail e (.Slice lo hi θ p2) v$ .ref S.heap.objs.size) (EP X p a Q) X.xe { S with heap:=S.heap.push { cls:=.type "slice",data:=.fields (ε [c,d,.none]) } };exact tail_any (ops:=[.ref S.heap.objs.size,v]) L K M (by with_unfolding_all rfl)
noncomputable def aS(x:List V)(lo hi:Option Int):List V:=(x.drop$ HT.sIx x.length 0 lo).take (HT.sIx x.length x.length hi - HT.sIx x.length 0 lo)
theorem zn(x:List V)(lo hi:Option Int):(aS x lo hi).length<=x.length:=by unfold aS;rw[Mb,Nj];omega
inductive F'(K:β)(x:V)(c b:Option Int)(H:Hp)(Q:VK):Prop
 |mk(a d:_)(_:x= .ref a)(_:aC K H a d)(_:¬(HT.sIx d.length 0 c=0/\HT.sIx d.length d.length b=d.length))(_:∀p,H p=θ->Q (.ref p) (af H p (.tup (aS d c b))))
theorem DX:Hc X (F' X.K):=by
 intro p s n H x v V t lo hi S Q I R j P k h;let⟨a,d,rfl,l,m,q⟩:=h;cases R;let⟨i,r,f,g⟩:=I.tuple l;let c:i.toArray.size=d.length:=by rw[LA];exact r.length.symm
 refine#["tuple",_,PyProof.Rows.slot_tuple_getitem.lookup,f.typeIs,?_];refine HT.getItem_tuple_cut f j P k (by rw[c];exact m) ?_ (by rw[c];exact g);rw[c];refine#[.ref s.heap.objs.size,_,I.laid (t':=s.toks) (o:=.tup (aS d lo hi)) (λb O q=>Lv _ q) (Lx _) ?_,Z,q _$ I.hok.fresh$ Lx _];exact#[LJ (zn d lo hi) g,_,(r.drop$ HT.sIx d.length 0 lo).take$ HT.sIx d.length d.length hi - HT.sIx d.length 0 lo,SF _ _]
inductive Bg(K:β)(x y:V)(H:Hp)(Q:VK):Prop
 |mk(a b c d:_)(_:x= .ref a)(_:y= .ref b)(_:aC K H a c)(_:aC K H b d)(_:c≠[])(_:c.length+d.length<=υ)(_:d=[]->Q (.ref a) H)(_:d≠[]->∀p,H p=θ->Q (.ref p) (af H p (.tup (c++d))))
theorem ax.nil_iff(r:ax x u):u=[]↔x=[]:=by
 cases r with
 |nil=>simp
 |cons _ _=>simp
theorem yy:eW X (binaryOp .Add) (Bg X.K):=by intro p s A H x y v u Q I d f h;let⟨a,b,g,Y,rfl,rfl,j,k,l,c,m,n⟩:=h;cases d;cases f;let⟨t,R,P,_⟩:=I.tuple j;let⟨i,r,p2,_⟩:=I.tuple k;refine HT.cat_tup P p2 (λz=>l (R.nil_iff.mp z)) (λz=>#[.ref a,H,I,Z,m$ r.nil_iff.mp z]) (λz=>?_) (by rw[<- R.length,<- r.length];exact c);refine#[.ref s.heap.objs.size,_,I.laid (t':=s.toks) (o:=.tup (g++Y)) (λb O q=>Lv _ q) (Lx _) ?_,Z,n (λw=>z (r.nil_iff.mpr w)) _$ I.hok.fresh$ Lx _];exact#[by rw[Ly];exact c,_,R.append r,SF _ _]
end
noncomputable def on(n:Nat)(i:Int):Option Nat:=if 0<=i then (if i < n then δ i.toNat else θ) else if -(n:Int)<=i then δ (i+n).toNat else θ
noncomputable def dO{a:Type}(x:List a)(i:Int):Option a:=(on x.length i).bind λj=>x[j]?
theorem Zd(h:on n i=δ j):seqIndex? i n=δ j/\j < n/\ -(n:Int)<=i/\i < n:=by
 unfold on at h;by_cases a:0<=i
 .rw[LP a]at h;by_cases H:i < n
  .rw[LP H]at h;let e:i.toNat=j:=Mh h;exact#[by rw[SY a H,e],UK,UK,H]
  .rw[LV H]at h;cases h
 .rw[LV a]at h;by_cases H: -(n:Int)<=i
  .rw[LP H]at h;let e:(i+n).toNat=j:=Mh h;exact#[by rw[Sw UK H,e],UK,H,UK]
  .rw[LV H]at h;cases h
theorem Q1{a:Type}{x:List a}{v:a}(h:dO x i=δ v):∃j,seqIndex? i x.length=δ j/\x[j]?=δ v/\j < x.length/\ -(x.length:Int)<=i/\i < x.length:=by
 unfold dO at h;cases e:on x.length i with
 |none=>rw[e]at h;cases h
 |some j=>rw[e]at h;let⟨H,b,c,d⟩:=Zd e;exact#[j,H,h,b,c,d]
theorem jJ{a:Type}{x:List a}{j:Nat}{v:a}(h:x[j]?=δ v):dO x (j:Int)=δ v:=by
 let H:j < x.length:=(ξ.mp h).1;let e:on x.length (j:Int)=δ j:=by unfold on;rw[LP UK,LP UK];simp
 unfold dO;rw[e];exact h
def oO(b:dr):Prop:=∀o i,subscripted b μ o i=operate [o,i] (getItem o i)
def ED(X:Cx)(r:R2):Prop:=
 ∀(a S:dr) (p:List (η×ge)) (s:ι) (b:St) (H:Hp) (x y:V) (v u:ζ) (Q:VK),au X p b H s->aF x v->aF y u->r x y H Q->
  subscripted S μ v u=operate [v,u] (getItem v u)->π (χ X.prog X.w) X.A (subscriptTail a S v u) (EP X p b Q) X.xe s
def Hr(X:Cx)(id:String)(r:V->List V->Hp->VK->Prop):Prop:=
 ∀(p:List (η×ge)) (s:ι) (a:St) (H:Hp) (x:V) (b:List V) (v:ζ) (u:List ζ) (Q:VK),au X p a H s->aF x v->ax b u->r x b H Q->
  π (χ X.prog X.w) X.A (call (.builtin id) (v::u)) (EP X p a Q) X.xe s
section
variable {X:Cx}{a b:dr}{ta tb:TE}{pos:Pos}
theorem jr{r:R2}(c:ED X r)(d:PE X a ta)(e:PE X b tb)(f:oO b):PE X (.Subscript a b pos) (dW r ta tb):=by intro p s g H Q I h;exact RT$ BO d e I h λv u S x y i j R k q=>c a b p S g i x y v u Q j R k q (f _ _)
inductive lr(K:β)(x y:V)(H:Hp)(Q:VK):Prop
 |mk(p a i v:_)(_:x= .ref p)(_:y= .int i)(_:aJ K H p a)(_:dO a i=δ v)(_:Q v H)
inductive eh(K:β)(x y:V)(H:Hp)(Q:VK):Prop
 |mk(p a i v:_)(_:x= .ref p)(_:y= .int i)(_:aC K H p a)(_:dO a i=δ v)(_:Q v H)
inductive yK(x y:V)(H:Hp)(Q:VK):Prop
 |mk(z i c:_)(_:x= .str z)(_:y= .int i)(_:z.length<=υ)(_:dO z.cps.toList i=δ c)(_:Q (.str #[(ε [c])]) H)
theorem jq:ED X (lr X.K):=by
 intro V S P s k H x y v u Q I n o h l;let⟨p,L,i,z,rfl,rfl,A,B,q⟩:=h;cases n;let⟨t,rfl⟩:=o;let⟨d,r,e,M⟩:=I.list A;let⟨j,c,C,N,D,F⟩:=Q1 B;let⟨w,E,R⟩:=r.get C;let G:=r.length;let O:=eF;let f:EP X P k Q w s:=#[z,H,I,R,q];by_cases m:0<=i
 .let g:i.toNat=j:=by rw[SY m F]at c;exact Mh c
  exact item_listR e.isList m UK (by rw[g];simpa using E) f l
 .let g:(i+(d.toArray.size:Int)).toNat=j:=by rw[Sw UK D]at c;rw[LA,<- G];exact Mh c
  exact Sv (x:=w) e.isList.typeIs slot_list_getitem.lookup
   (wpAny_getItem_list_neg (Q:=λr J=>r=w/\EP X P k Q r J) e.isList UK (by rw[LA]<;>omega) UK (by rw[g];simpa using E) #[Z,f]) l
theorem jM:ED X (eh X.K):=by
 intro V S P s c H x y v u Q I e g h k;let⟨p,D,i,z,rfl,rfl,l,m,q⟩:=h;cases e;let⟨t,rfl⟩:=g;let⟨n,r,d,F⟩:=I.tuple l;let⟨j,o,A,G,J,L⟩:=Q1 m;let⟨w,E,R⟩:=r.get A;let B:=r.length;let M:=eF;let f:EP X P c Q w s:=#[z,H,I,R,q];exact Sv (x:=w) d.typeIs slot_tuple_getitem.lookup
  (getItem_tuple (j:=j) (Q:=λr C=>r=w/\EP X P c Q r C) d UK UK (by rw[LA,<- B];exact o) (by simpa using E) #[Z,f]) k
theorem Ki:ED X yK:=by
 intro V S p s o H x y v u Q I r R h e;let⟨z,i,c,rfl,rfl,w,f,q⟩:=h;let⟨t,rfl⟩:=r;let⟨T,rfl⟩:=R;let⟨j,d,g,A,k,l⟩:=Q1 f;let m:z.cps.toList.length=z.length:=by simp [Str.length]
 rw[m]at d k l;let B:=eF;exact tail_any (typeIs_str s z t) slot_str_getitem.lookup (getItem_str (c:=c) (by
  let E:decide (i < -(2 ^ 63:Int))=μ:=LL UK;let n:decide (i≥2 ^ 63)=μ:=LL UK;rw[E,n,RB]) (by rw[d];simpa using g) #[.str #[(ε [c])],H,I.tok _,#[_,Z],q]) e
theorem Yv(i:List ζ)(n j:Nat)(u:ζ):ab (·.setIfInBounds j u) { cls:=.type "list",data:=.seq i.toArray n }={ cls:=.type "list",data:=.seq (i.set j u).toArray n }:=by simp [ab]
theorem au.lst(I:au X c d H s)(h:H p=δ (.lst x)):
  ∃(i:List ζ) (n:Nat),ax x i/\s.heap.get? p=δ { cls:=.type "list",data:=.seq i.toArray n }/\x.length<=υ:=by
 let⟨z,i,n,r,e⟩:=I.hok p _ h;exact#[i,n,r,e,z]
theorem au.lstUpd{c i:List ζ}{f:ge->ge}(I:au X d j H s)(h:H p=δ (.lst o))
  (k:s.heap.get? p=δ { cls:=.type "list",data:=.seq c.toArray n }) (g:f { cls:=.type "list",data:=.seq c.toArray n }={ cls:=.type "list",data:=.seq i.toArray N }) (r:ax y i) (l:y.length<=υ) (t:Nat):
  au X d j (af H p$ .lst y) { s with heap:=s.heap.update p f,toks:=t }:=by
 let e:(s.heap.update p f).get? p=δ { cls:=.type "list",data:=.seq i.toArray N }:=by rw[Heap.get?_update_self f k (by rw[g]<;>rfl),g]
 refine I.write (x:=p) (e:=p) (by rw[h];trivial) (.inl Z) (λb u m q=>(Heap.get?_update_other _ _$ Ne.symm m).trans q) #[_,e] ?_;exact#[l,i,N,r,e]
inductive oZ(o i v:V)(H:Hp)(Q:Hp->Prop):Prop
 |mk(p a k j:_)(_:o= .ref p)(_:i= .int k)(_:H p=δ (.lst a))(_:on a.length k=δ j)(_:Q (af H p (.lst (a.set j v))))
theorem zB:EH X oZ:=by
 intro P s z H o i v O F u Q I R A B h;let⟨p,C,k,j,rfl,rfl,l,D,q⟩:=h;cases R;let⟨t,rfl⟩:=A;let⟨c,n,r,e,E⟩:=I.lst l;let⟨d,G,m,w⟩:=Zd D;let f:=r.length;let J:=eF;let x:au X P z (af H p$ .lst$ C.set j v) { s with heap:=s.heap.update p (ab (·.setIfInBounds j u)) }:=
  I.lstUpd l e (Yv c n j u) (r.set B j) (by rw[O3];exact E) s.toks
 by_cases y:0<=k
 .let g:k.toNat=j:=by rw[SY y w]at d;exact Mh d
  exact PySem.W.ki_setAt e y UK (by rw[LA,<- f];exact w) (by rw[g];exact#[_,x,q])
 .let g:(k+(c.toArray.size:Int)).toNat=j:=by rw[Sw UK m]at d;rw[LA,<- f];exact Mh d
  exact PySem.W.ki_setBack e UK (by rw[LA,<- f];exact m) UK (by rw[g];exact#[_,x,q])
theorem Xb(lo H:Option Int)(n:Nat):(sliceBounds lo H θ n).1=((HT.sIx n 0 lo:Nat):Int)/\(sliceBounds lo H θ n).2.1=((HT.sIx n n H:Nat):Int)/\(sliceBounds lo H θ n).2.2=1:=by
 refine#[?_,?_,Z]
 .cases lo with
  |none=>simp [sliceBounds,HT.sIx]
  |some i=>
   simp only[sliceBounds,HT.sIx,Px,show(1:Int) > 0 by decide,On];by_cases h:i < 0
   .simp only[h,On]<;>omega
   .simp only[h,MT]<;>omega
 .cases H with
  |none=>simp [sliceBounds,HT.sIx]
  |some i=>
   simp only[sliceBounds,HT.sIx,Px,show(1:Int) > 0 by decide,On];by_cases h:i < 0
   .simp only[h,On]<;>omega
   .simp only[h,MT]<;>omega
theorem K6(i:List ζ)(lo h:Option Int):slicePick i.toArray lo h θ=((i.drop$ HT.sIx i.length 0 lo).take$ HT.sIx i.length i.length h - HT.sIx i.length 0 lo).toArray:=by let⟨H,c,d⟩:=Xb lo h i.toArray.size;unfold slicePick;rw[H,c,d];simp only[sliceRange_one,pick_run,LA]<;>rfl
inductive yM(K:β)(x:V)(c b:Option Int)(H:Hp)(Q:VK):Prop
 |mk(a d:_)(_:x= .ref a)(_:aJ K H a d)(_:∀p,H p=θ->Q (.ref p) (af H p (.lst (aS d c b))))
theorem kH:Hc X (yM X.K):=by intro p s m H x v V n lo e S Q I R g P i h;let⟨a,c,rfl,j,q⟩:=h;cases R;let⟨k,r,f,l⟩:=I.list j;let d:=r.length;refine#["list",_,slot_list_getitem.lookup,f.isList.typeIs,?_];refine wpAny_getItem_list_slice f.isList g P i .none UL ?_ (by rw[LA]<;>omega);rw[K6,<- d];refine#[.ref s.heap.objs.size,_,I.laid (t':=s.toks) (o:=.lst (aS c lo e)) (λb O q=>Lv _ q) (Lx _) ?_,Z,q _$ I.hok.fresh$ Lx _];exact#[LJ (zn c lo e) l,_,0,(r.drop$ HT.sIx c.length 0 lo).take$ HT.sIx c.length c.length e - HT.sIx c.length 0 lo,LB _ Z]
noncomputable def cR:V->Bool
 | .non=>ν
 | .bl _=>ν
 | .int _=>ν
 | .str _=>ν
 |_=>μ
noncomputable def nR:V->V->Bool
 | .non,.non=>ν
 | .bl a,.bl b=>a==b
 | .bl a,.int b=>(if a then 1 else 0)==b
 | .int a,.bl b=>a==(if b then 1 else 0)
 | .int a,.int b=>a==b
 | .str a,.str b=>a==b
 |_,_=>μ
theorem sT(R:aF y u)(r:aF x v)(F:cR y=ν)(f:cR x=ν):SeqAt.EqAt A s u v (nR y x):=by
 cases y with
 |non=>
  cases R;cases x with
  |non=>cases r;exact SeqAt.EqAt.same _
  |bl b=>cases r;exact SeqAt.EqAt.none_bool b
  |int b=>let⟨t,rfl⟩:=r;exact SeqAt.EqAt.none_int b t
  |str b=>let⟨t,rfl⟩:=r;exact SeqAt.EqAt.none_str b t
  |_=>exact absurd (show μ=ν from f) LD
 |bl a=>
  cases R;cases x with
  |non=>cases r;exact SeqAt.EqAt.bool_none a
  |bl b=>cases r;exact SeqAt.EqAt.bool_bool a b
  |int b=>let⟨t,rfl⟩:=r;exact SeqAt.EqAt.bool_int a b t
  |str b=>let⟨t,rfl⟩:=r;exact SeqAt.EqAt.bool_str a b t
  |_=>exact absurd (show μ=ν from f) LD
 |int a=>
  let⟨T,rfl⟩:=R;cases x with
  |non=>cases r;exact SeqAt.EqAt.int_none a T
  |bl b=>cases r;exact SeqAt.EqAt.int_bool a T b
  |int b=>let⟨t,rfl⟩:=r;exact SeqAt.EqAt.int_int a T b t
  |str b=>let⟨t,rfl⟩:=r;exact Rv a T b t
  |_=>exact absurd (show μ=ν from f) LD
 |str a=>
  let⟨T,rfl⟩:=R;cases x with
  |non=>cases r;exact SeqAt.EqAt.str_none a T
  |bl b=>cases r;exact SeqAt.EqAt.str_bool a T b
  |int b=>let⟨t,rfl⟩:=r;exact Ru a T b t
  |str b=>let⟨t,rfl⟩:=r;exact SeqAt.EqAt.str_str a T b t
  |_=>exact absurd (show μ=ν from f) LD
 |_=>exact absurd (show μ=ν from F) LD
noncomputable def oj(x:V)(u:ζ):Bool:=match u with
 | .none=>nR .non x
 | .bool b=>nR (.bl b) x
 | .int i _=>nR (.int i) x
 | .str z _=>nR (.str z) x
 |_=>μ
theorem sV(r:aF y u)(f:cR y=ν):oj x u=nR y x:=by
 cases y with
 |non=>cases r;rfl
 |bl b=>cases r;rfl
 |int i=>let⟨t,rfl⟩:=r;rfl
 |str z=>let⟨t,rfl⟩:=r;rfl
 |_=>exact absurd (show μ=ν from f) LD
theorem Jd:∀{c:List V} {U:List ζ},ax c U->c.all cR=ν->U.any (oj x)=c.any λy=>nR y x
 |_,_,.nil,_=>rfl
 |y::c,u::U,.cons r t,f=>by rw[Rz,MJ]at f;rw[Oz,Oz,sV r f.1,Jd t f.2]
theorem qu(R:aF x v)(F:cR x=ν):∀{c:List V} {U:List ζ},ax c U->c.all cR=ν->∀u∈U,SeqAt.EqAt A s u v (oj x u)
 |_,_,.nil,_=>λu hu=>by cases hu
 |y::c,u::U,.cons r t,f=>λd hu=>by
  rw[Rz,MJ]at f;rcases Ξ.mp hu with rfl |hu
  .rw[sV r f.1];exact sT r R f.1 F
  .exact qu R F t f.2 d hu
noncomputable def oU(x:V)(c:List V):Bool:=c.any λy=>nR y x
inductive FY(K:β)(a:Bool)(x y:V)(H:Hp)(Q:VK):Prop
 |mk(p b:_)(_:y= .ref p)(_:aJ K H p b∨aC K H p b)(_:cR x=ν)(_:b.all cR=ν)(_:Q (.bl (if a then !oU x b else oU x b)) H)
theorem za:eW X (compareOp .In) (FY X.K μ):=by
 intro d s j H x y v u Q I R e h;let⟨p,k,rfl,hq,F,f,q⟩:=h;cases e;rcases hq with hq |hq
 .let⟨i,r,P,g⟩:=I.list hq;refine SeqAt.in_listAt (oj x) P.isList (λw c=>qu R F r f w (by simpa using c)) #[.bl _,H,I,Z,?_];rw[show i.toArray.any (oj x)=i.any (oj x) by simp,Jd r f];exact q
 .let⟨i,r,P,g⟩:=I.tuple hq;refine SeqAt.in_tupleAt (oj x) P (λw c=>qu R F r f w (by simpa using c)) #[.bl _,H,I,Z,?_];rw[show i.toArray.any (oj x)=i.any (oj x) by simp,Jd r f];exact q
theorem Jl:eW X (compareOp .NotIn) (FY X.K ν):=by
 intro d s j H x y v u Q I R e h;let⟨p,k,rfl,hq,F,f,q⟩:=h;cases e;rcases hq with hq |hq
 .let⟨i,r,P,g⟩:=I.list hq;refine SeqAt.notIn_listAt (oj x) P.isList (λw c=>qu R F r f w (by simpa using c)) #[.bl _,H,I,Z,?_];rw[show i.toArray.any (oj x)=i.any (oj x) by simp,Jd r f];exact q
 .let⟨i,r,P,g⟩:=I.tuple hq;refine SeqAt.notIn_tupleAt (oj x) P (λw c=>qu R F r f w (by simpa using c)) #[.bl _,H,I,Z,?_];rw[show i.toArray.any (oj x)=i.any (oj x) by simp,Jd r f];exact q
theorem jN:cQ X (.builtin "len") (λx H Q=>∃p y,x=[.ref p]/\(aJ X.K H p y∨aC X.K H p y)/\Q (.int y.length) H):=by
 intro d s g H x U Q I r h;let⟨p,y,rfl,hq,q⟩:=h;let⟨u,rfl,e⟩:=dY r;cases e;let j:=eF;rcases hq with hq |hq
 .let⟨i,R,P,f⟩:=I.list hq;let c:=R.length;exact Calls.call_len_list P.isList (by simp only[LA]<;>omega) #[.int y.length,H,I.tok _,#[s.toks+1,by rw[LA,c]],q]
 .let⟨i,R,P,f⟩:=I.tuple hq;let c:=R.length;exact len_tuple P (by simp only[LA]<;>omega) #[.int y.length,H,I.tok _,#[s.toks+1,by rw[LA,c]],q]
theorem Jm:cQ X (.type "list") (λx H Q=>∃p y,x=[.ref p]/\(aJ X.K H p y∨aC X.K H p y)/\∀l,H l=θ->Q (.ref l) (af H l$ .lst y)):=by
 intro P s z H x U Q I r h;let⟨p,y,rfl,hq,q⟩:=h;let⟨u,rfl,A⟩:=dY r;cases A;let f:∀(i:List ζ),ax y i->y.length<=υ->∀(c:cJ) (C:Nat),(∀b O,s.heap.get? b=δ O->c.get? b=δ O)->
   c.get? s.heap.objs.size=δ { cls:=.type "list",dict:=θ,data:=.seq i.toArray C,slots:=(ε []) }->EP X P z Q (.ref s.heap.objs.size) { s with heap:=c }:=λi R d c C k e=>
  #[.ref s.heap.objs.size,_,I.laid (t':=s.toks) k (Lx _) (show aM X.prog X.w _ c _ (.lst y) from #[d,i,C,R,e]),Z,q _$ I.hok.fresh$ Lx _]
 rcases hq with hq |hq
 .let⟨i,R,j,d⟩:=I.list hq;let g:=R.length;let⟨o,m,t,n,v⟩:=j.isList;exact call_list_seq p (.inl Z) m t v (λc C k e=>f i R d c C k e) (by simp only[LA]<;>omega)
 .let⟨i,R,j,d⟩:=I.tuple hq;let g:=R.length;let⟨o,m,t,n,v⟩:=j;exact call_list_seq p (.inr Z) m t v (λc C k e=>f i R d c C k e) (by simp only[LA]<;>omega)
theorem jL:cQ X (.type "tuple") (λx H Q=>∃p y,x=[.ref p]/\((aJ X.K H p y/\∀l,H l=θ->Q (.ref l) (af H l$ .tup y))∨(aC X.K H p y/\Q (.ref p) H))):=by
 intro P s g H x U Q I r h;let⟨p,y,rfl,h⟩:=h;let⟨u,rfl,n⟩:=dY r;cases n;rcases h with ⟨d,q⟩ | ⟨d,q⟩
 .let⟨i,R,f,j⟩:=I.list d;let k:=R.length;refine call_tuple_list f.isList (λc t=>?_) (by simp only[LA]<;>omega);let m:au X P g H { s with heap:=c }:=I.kept (t':=s.toks) t;let v:au X P g (af H c.objs.size$ .tup y) { s with heap:=c.push { cls:=.type "tuple",data:=.seq i.toArray } }:=
   m.laid (t':=s.toks) (λb o e=>Lv _ e) (Lx _) (show aM X.prog X.w _ _ _ (.tup y) from #[j,i,R,SF _ _])
  exact#[.ref c.objs.size,_,v,Z,q _$ m.hok.fresh$ Lx _]
 .let⟨i,R,f,j⟩:=I.tuple d;exact call_tuple_same f #[.ref p,H,I,Z,q]
def IA(K:β)(T:String)(x:V)(H:Hp):Prop:=match x with
 | .str _=>T="str"
 | .int _=>T="int"
 | .ref p=>(T="list"/\∃c,aJ K H p c)∨(T="tuple"/\∃o,K.lookup p=δ o/\o.cls= .type "tuple"/\o.dict=θ)∨
   (T="dict"/\((∃k,H p=δ (.dK k))∨∃k,H p=δ (.dT k)))∨(T="set"/\∃S n,H p=δ (.set S n))
 |_=>False
theorem wD(I:au X j u H s)(r:aF x v)(d:IA X.K T x H):
  s.TypeIs v T/\∀a,v= .ref a->∃O,s.heap.get? a=δ O/\O.dict=θ:=by
 cases x with
 |str z=>let⟨t,rfl⟩:=r;cases (show T="str" from d);exact#[typeIs_str s z t,λ_ e=>nomatch e]
 |int i=>let⟨t,rfl⟩:=r;cases (show T="int" from d);exact#[typeIs_int s i t,λ_ e=>nomatch e]
 |ref p=>
  cases r;rcases d with ⟨rfl,w,l⟩ | ⟨rfl,o,h,m,f⟩ | ⟨rfl,h⟩ | ⟨rfl,S,n,h⟩
  .let⟨q,_,P,_⟩:=I.list l;refine#[P.isList.typeIs,λa e=>?_];cases e;let⟨o,n,e,c,f,_⟩:=P;exact#[o,e,f]
  .refine#[#[o,I.kIn p o h,m],λa e=>?_];cases e;exact#[o,I.kIn _ o h,f]
  .let z:∃o,s.heap.get? p=δ o/\o.ExactDict:=by
    rcases h with ⟨k,h⟩ | ⟨k,h⟩
    .let⟨_,_,_,_,o,_,_,e,E,_⟩:=I.hok p _ h;exact#[o,e,E]
    .let⟨_,_,_,_,o,_,_,e,E,_⟩:=I.hok p _ h;exact#[o,e,E]
   let⟨o,e,E⟩:=z;refine#[#[o,e,E.1],λa g=>?_];cases g;exact#[o,e,E.2.1]
  .let⟨o,_,_,_,e,E,_⟩:=I.hok p _ h;refine#[#[o,e,E.1],λa g=>?_];cases g;exact#[o,e,E.2.1]
 |_=>exact False.elim d
def Ir(K:β)(T:String)(r:V->List V->Hp->VK->Prop)(t:TE):TE:=λc H Q=>t c H λx h=>IA K T x h/\r x [] h Q
def Iq(K:β)(T:String)(r:V->List V->Hp->VK->Prop)(d:TE)(t:TA):TE:=λc H Q=>d c H λx h=>IA K T x h/\t c h λe f=>r x e f Q
variable {o e:dr}{es:List dr}{to:TE}{t:TA}{name:ρ}{apos cpos:Pos}{T id:String}{r:V->List V->Hp->VK->Prop}
theorem Ds(P:PlainAttrs T)(S:Slot T name id)(f:typeOf (.builtin id)=pure (.type "method_descriptor"))(j:Hr X id r)(k:PE X o to)
  (c:attributeBase o name X.env (eval o X.env)=eval o X.env:=by rfl) (d:(apos.endLine==cpos.line)=ν:=by rfl):PE X (.Call (.Attribute o name apos) [] [] cpos) (Ir X.K T r to):=by
 intro p s g H Q I h;refine wpAny_Call_method0_late c d$ aU (k p s g H _ I h) λv l z=>?_;let⟨x,m,i,R,n,q⟩:=z;let⟨u,w⟩:=wD i R n;exact#[T,id,P,S,f,u,w,OQ Z$ PySem.evalArgs_none$ j p l g m x [] v [] Q i R .nil q]
theorem kM(P:PlainAttrs T)(S:Slot T name id)(i:typeOf (.builtin id)=pure (.type "method_descriptor"))(m:Hr X id r)(n:PE X o to)(q:PA X (e::es) t)
  (d:attributeBase o name X.env (eval o X.env)=eval o X.env:=by rfl)
  (g:((fx cpos$ Θ (e::es) X.env).all (λx=>!x.1)&&(backToKw cpos$ keywordEach [] X.env).all (λx=>x.1.isSome)
   &&decide ((e::es).length+([]:List Keyword).length+(if ([]:List Keyword).isEmpty then 0 else 1) < 30))=ν:=by rfl)
  (f:(apos.endLine==cpos.line)=ν:=by rfl) (u:Θ (e::es) X.env=(μ,eval e X.env)::Θ es X.env:=by rfl) (c:(fx cpos$ Θ es X.env).any (·.1)=μ:=by rfl):
  PE X (.Call (.Attribute o name apos) (e::es) [] cpos) (Iq X.K T r to t):=by
 intro p s j H Q I h;refine wpAny_Call_method_late d g f Z$ aU (n p s j H _ I h) λv w z=>?_;let⟨x,y,k,R,A,B⟩:=z;let⟨C,D⟩:=wD k R A;refine#[T,id,P,S,i,C,D,?_];let l:=q cpos p w j y _ k B;rw[u]at l ⊢;refine OQ (by show(μ||(fx cpos$ Θ es X.env).any (·.1))=μ;rw[c]<;>rfl)$ RW ?_;exact aU l λU E #[F,G,J,L,M]=>m p E j G x F v U Q J R L M
end
def G7(X:Cx)(id:String)(r:V->List V->Hp->VK->Prop):Prop:=
 ∀(p:List (η×ge)) (s:ι) (a:St) (H:Hp) (x:V) (b:List V) (v:ζ) (u:List ζ) (Q:VK),au X p a H s->aF x v->ax b u->r x b H Q->
  π (χ X.prog X.w) X.A (call (.builtin id) (v::u)) (EP X p a Q) X.xe s
theorem ax.one:∀{x:V} {U:List ζ},ax [x] U->∃u,U=[u]/\aF x u
 |_,_,.cons r .nil=>#[_,Z,r]
theorem ax.zero:∀{u:List ζ},ax [] u->u=[]
 |_,.nil=>rfl
theorem ax.dropLast(h:ax x u):ax x.dropLast u.dropLast:=by
 induction h with
 |nil=>exact .nil
 |cons r t i=>
  cases t with
  |nil=>exact .nil
  |cons q T=>exact .cons r i
theorem ax.reverse(h:ax x u):ax x.reverse u.reverse:=by
 induction h with
 |nil=>exact .nil
 |cons r t i=>rw[Ot,Ot];exact ax.append i (.cons r .nil)
theorem Yw{c:Type}(l:List c):l.eraseIdx (l.length - 1)=l.dropLast:=by
 induction l with
 |nil=>rfl
 |cons a r i=>
  cases r with
  |nil=>rfl
  |cons b r=>
   let e:(a::b::r).length - 1=((b::r).length - 1)+1:=by let h:(a::b::r).length=r.length+2:=rfl;let H:(b::r).length=r.length+1:=rfl;omega
   rw[e,List.eraseIdx_cons_succ,i];all_goals rfl
section
variable {X:Cx}{pins:List (η×ge)}{σ:St}{H:Hp}{s:ι}{l b:η}{xs ys zs:List V}
theorem au.lset{i its':List ζ}{f:Array ζ->Array ζ}{t':Nat}(I:au X pins σ H s)(h:H l=δ (.lst xs))
  (e:s.heap.get? l=δ { cls:=.type "list",data:=.seq i.toArray n }) (a:f i.toArray=its'.toArray) (c:ax ys its') (d:ys.length<=υ):
  au X pins σ (af H l$ .lst ys) { s with heap:=s.heap.update l (ab f),toks:=t' }:=by
 let q:=PySem.IsL.update e f;rw[a]at q;refine I.write (x:=l) (e:=l) (by rw[h];exact trivial) (.inl Z) (λB u g j=>(LO s.heap (ab f)$ Me g).trans j) #[_,q] ?_;exact#[d,its',_,c,q]
theorem au.lnew{t':Nat}(I:au X pins σ H s)(h:ax ys i)(a:ys.length<=υ):
  au X pins σ (af H s.heap.objs.size$ .lst ys) { s with heap:=s.heap.push { cls:=.type "list",data:=.seq i.toArray },toks:=t' }:=
 I.laid (λ_ _ q=>Lv _ q) (Lx _) #[a,i,0,h,LB _ Z]
theorem au.fresh(I:au X pins σ H s):H s.heap.objs.size=θ:=I.hok.fresh (Lx _)
theorem au.lstM(I:au X pins σ H s)(h:H l=δ (.lst xs)):xs.length<=υ/\∃(i:List ζ) (n:Nat),ax xs i/\xs.length=i.length/\s.heap.get? l=δ { cls:=.type "list",data:=.seq i.toArray n }:=by let⟨z,i,n,r,e⟩:=I.hok l _ h;exact#[z,i,n,r,r.length,e]
theorem f8(h:n<=υ):fJ n=μ:=by unfold fJ;exact LL UK
end
section
variable {X:Cx}
inductive lW(x:V)(a:List V)(H:Hp)(Q:VK):Prop
 |mk(l b y:_)(_:x= .ref l)(_:a=[y])(_:H l=δ (.lst b))(_:b.length < υ)(_:Q .non (af H l (.lst (b++[y]))))
theorem jT:G7 X "list.append" lW:=by intro p s d H x V v U Q I R b h;let⟨l,f,y,rfl,rfl,a,g,q⟩:=h;cases R;let⟨u,rfl,c⟩:=b.one;let⟨z,i,n,r,j,e⟩:=I.lstM a;refine PY F.slot_list_append #[_,e,Z] F.entry_list_append (F.args_list_append_2 _ _) (PySem.list_append l i.toArray n u (by rw[LA];omega)) #[e,?_];refine#[.non,_,I.lset (its':=i++[u]) a e UL (r.append$ .cons c .nil) ?_,Z,q];rw[Ly,NF];omega
inductive oY(x:V)(a:List V)(H:Hp)(Q:VK):Prop
 |mk(l b c d:_)(_:x= .ref l)(_:a=[.ref b])(_:H l=δ (.lst c))(_:H b=δ (.lst d))(_:c.length+d.length<=υ)(_:Q .non (af H l (.lst (c++d))))
theorem JC:G7 X "list.extend" oY:=by
 intro p s t H x V v U Q I R g h;let⟨l,b,w,y,rfl,rfl,f,j,A,q⟩:=h;cases R;let⟨u,rfl,k⟩:=g.one;cases k;let⟨z,a,n,r,B,e⟩:=I.lstM f;let⟨C,i,N,m,o,E⟩:=I.lstM j;let d:a.toArray.size+i.toArray.size<=υ:=by rw[LA,LA];omega
 let c:¬(!a.toArray.isEmpty&&fJ (a.toArray.size+i.toArray.size))=ν:=by rw[f8 d,Pf];exact LD
 refine PY Te #[_,e,Z] SU (SG _ _)
  (AutoSeq1.list_extend_list_list_0 l a.toArray n b i.toArray N c (by rw[LA];omega) UK) #[e,E,?_]
 refine#[.non,_,I.lset (its':=a++i) f e UL (r.append m) ?_,Z,q];rw[Ly];omega
inductive F8(x:V)(a:List V)(H:Hp)(Q:VK):Prop
 |mk(l b y:_)(_:x= .ref l)(_:a=[])(_:H l=δ (.lst b))(_:b[b.length - 1]?=δ y)(_:Q y (af H l (.lst b.dropLast)))
theorem CM:G7 X "list.pop" F8:=by
 intro p s m H x V v U Q I R d h;let⟨l,o,y,rfl,rfl,c,f,q⟩:=h;cases R;let a:=d.zero;subst a;let⟨z,i,n,r,g,e⟩:=I.lstM c;let⟨u,j,k⟩:=r.get f;let b:i.toArray[i.toArray.size - 1]?=δ u:=by show i.toArray[i.length - 1]?=δ u;rw[<- M4,<- g];exact j
 refine PY F.slot_list_pop #[_,e,Z] F.entry_list_pop (F.args_list_pop_1 _) (MeetsSeq.list_pop_last l i.toArray n u b (by rw[LA];omega)) #[e,?_];refine#[y,_,I.lset (its':=i.dropLast) c e ?_ r.dropLast ?_,k,q]
 .show i.toArray.eraseIdxIfInBounds (i.toArray.size - 1)=i.dropLast.toArray;rw[LA,List.eraseIdxIfInBounds_toArray,Yw]
 .rw[List.length_dropLast];omega
inductive yJ(x y:V)(H:Hp)(Q:VK):Prop
 |mk(l b a c:_)(_:x= .ref l)(_:y= .ref b)(_:H l=δ (.lst a))(_:H b=δ (.lst c))(_:a.length+c.length<=υ)(_:∀p,H p=θ->Q (.ref p) (af H p (.lst (a++c))))
theorem qr:eW X (binaryOp .Add) yJ:=by
 intro p s m H x y v u Q I R c h;let⟨l,b,o,t,rfl,rfl,d,f,w,q⟩:=h;cases R;cases c;let⟨z,a,n,r,A,e⟩:=I.lstM d;let⟨B,i,N,g,j,E⟩:=I.lstM f;refine PySem.P.add_list e E ?_ (by rw[LA,LA];omega);let k:a.toArray++i.toArray=(a++i).toArray:=by simp
 rw[k];exact#[.ref _,_,I.lnew (t':=s.toks) (r.append g) (by rw[Ly];omega),Z,q _ I.fresh]
end
section
variable {prog:ψ}{w:bU}{A:bS}{E:ζ->ι->Prop}{s:ι}
theorem ZX(i I : List ζ)(a c : Nat) : i.toArray.extract 0 a ++ I.toArray ++ i.toArray.extract c i.toArray.size = (i.take a ++ I ++ i.drop c).toArray := by
  apply Array.toList_inj.mp;first
    | (simp
       exact MP UL)
    | simp [MP]
    | simp
theorem Yx{a c n:Nat}(hac:a<=c)(hc:c<=n):sliceBounds (δ (a:Int)) (δ (c:Int)) θ n=((a:Int),(c:Int),1):=by
 simp only[sliceBounds,Px];let h1:¬((a:Int) < 0):=by omega
 let h2:¬((c:Int) < 0):=by omega
 simp only[h1,h2,MT,show(1:Int) > 0 by decide,On];congr 1
 .omega
 .congr 1;omega
set_option maxRecDepth 100000 in
theorem K7{a c : Nat}{Q : Unit -> ι -> Prop}
    (e : s.heap.get? l = δ { cls := .type "list", data := .seq i n }) (y : s.heap.get? b = δ { cls := .type "list", data := .seq N I }) (q : l ≠ b)
    (C : s.heap.IsSliceOf p z B .none) (P : IsPart z (δ (a : Int))) (D : IsPart B (δ (c : Int))) (r : a <= c) (F : c <= i.size)
    (f : i.size + N.size <= υ) (h : Q () { s with heap := s.heap.update l (ab λX => X.extract 0 a ++ N ++ X.extract c X.size) }) :
    π (χ prog w) A (setItem (.ref l) (.ref p)$ .ref b) Q E s := by
  let t : s.heap.IsList l i := RV e;let G : s.heap.IsList b N := RV y;obtain ⟨os, d, u, g⟩ := id C;let k : s.TypeIs (.ref p) "slice" := #[os, d, u];let j : ¬ ((rawPart θ == rawInt 0) = ν) := LD;let H : ey (.ref l) (.ref b) = μ := by unfold ey;exact beq_eq_false_iff_ne.mpr q
  let o : (max (a : Int) (c : Int)).toNat = c := by omega
  let v : ((λX : Array ζ => X.extract 0 a ++ N ++ X.extract c X.size) i).size <= υ + 1 := by simp only [Pw, Array.size_extract];omega
  unfold setItem;try with_reducible refine LI ?_
  first | refine Lr (Lu ?_) | skip
  refine Lr$ P8 t.typeIs UJ ?_;refine Lr (Mj (name := Str.ofString "__setitem__") t.typeIs TF
    (Mg TF t.typeIs entry_list_setitem ?_$ args_list_setitem _ _ _))
  show π _ _ (nI (.ref p) >>= _) _ _ s;refine Lr ?_;unfold nI;refine Lr$ Ng k slice_no_index ?_;simp only [R0, On];refine Lu ?_;show π _ _ (typeOf (.ref p) >>= _) _ _ s;refine Lr$ Nn k ?_;first
    | rw [LV UJ]
    | refine OZ UJ ?_
  rw [listSliceParts_eq];refine Lr$ Lr$ LY d g (x := .none) Z$ Lr$ RQ .none ?_;rw [LV j];refine Lr$ LY d g (x := z) Z$ Lr$ RQ P ?_;refine Lr$ LY d g (x := B) Z$ Lr$ RQ D$ Lu ?_;first
    | simp only [H, LG, MT]
    | refine OZ H ?_
    | (dsimp only
       rw [LV (by rw [H]; exact LD)])
  refine Lr (m := oS (.ref b) "must assign iterable to extended slice") ?_;unfold oS;refine Lr$ Nn G.typeIs ?_;first
    | refine UE UJ ?_
    | rw [LP UJ]
    | simp only [Pl, TQ, On]
  unfold Builtin.List.listItems;refine Lr$ Mz y Z$ Lu ?_;refine Lr$ Lr$ Mz e Z$ Lu ?_;refine Lr$ OU ((sliceIndices_raw (δ (a : Int)) (δ (c : Int)) θ i.size UL).trans$ MO (pure : Int × Int × Int -> Sem (Int × Int × Int))$ Yx r F) ?_;show π _ _ (if ((1 : Int) == 1) = ν then _ else _) _ _ s;rw [LP UJ];refine Lr$ Nh ?_;first
    | simp only [f8 f, LG, MT]
    | refine OZ (f8 f) ?_
  first | refine Lr (Lu ?_) | skip
  show π _ _ (updateSeq l (λX => X.extract 0 ((a : Int)).toNat ++ N ++ X.extract (max (a : Int) (c : Int)).toNat X.size) >>= _) _ _ s;rw [o, Mx];refine Lr$ Ph (hz := LJ (NQ _ _) f) (_hz' := v) e Z ?_;refine Lr$ SX ?_;first
    | exact Lr (Lu (Lu #[.none, Z, Lu h]))
    | exact Lu #[.none, Z, Lu h]
end
section
variable {X:Cx}
theorem ZY{Q:Unit->ι->Prop}(I:au X p o H s)
  (k:H l=δ (.lst x)) (q:H b=δ (.lst y)) (f:l≠b) (t:s.heap.IsSliceOf u v B .none) (R:aF (.int a) v) (D:aF (.int c) B) (m:0<=a) (g:a<=c) (J:c<=x.length)
  (K:x.length+y.length<=υ) (h:∀S,au X p o (af H l$ .lst$ x.take a.toNat++y++x.drop c.toNat) S->Q () S):
  π (χ X.prog X.w) X.A (setItem (.ref l) (.ref u)$ .ref b) Q X.xe s:=by
 let⟨T,rfl⟩:=R;let⟨L,rfl⟩:=D;let⟨z,d,n,r,M,e⟩:=I.lstM k;let⟨N,i,O,E,F,G⟩:=I.lstM q;let⟨j,rfl⟩:=RL m;let⟨C,rfl⟩:=RL (Int.le_trans m g);simp only[Mx]at h;refine K7 (a:=j) (c:=C) e G f t (.int _ _) (.int _ _) UK (by rw[LA];omega) (by rw[LA,LA];omega)$ h _ ?_;refine I.lset (its':=d.take j++i++d.drop C) (t':=s.toks) k e ?_ (ax.append (ax.append (r.take _) E)$ r.drop _) ?_
 .exact ZX d i j C
 .rw[Ly,Ly,Mb,Nj];omega
end
end _L
namespace Att
open PySem PySem.W PySem.Calls PyProof.Rows
theorem JQ{P:Params}:∀(N:List Int) (v:List ζ),WellAll P h v (N.map WData.int)->IntsAre v N:=by
 intro N;induction N with
 |nil=>intro v w;rw[Py]at w;cases w;exact .nil
 |cons n N i=>
  intro v w;rw[MU]at w;cases w with
  |cons a b=>cases a;exact .cons _ _$ i _ b
theorem ZZ{l:OpenLaw}(k:l.most=δ n){P:Params}
  (H:l.row.toRowW.claim.pre args=ν) (g:WellAll P h v args):
  ∃a V N,v=[ω a]/\args=[WData.list$ N.map WData.int]/\h.get? a=δ { cls:=.type "list",data:=.seq V.toArray }/\IntsAre V N/\N.length<=n:=by
 let i:WShape.hasAll [] args [.list .int]=ν:=(pre_splitW H).1;let j:l.pre.holds [] { args:=args }=ν:=(pre_splitW H).2;let⟨d,r,rfl,m,o⟩:=hasAllW_cons i;obtain rfl:=hasAllW_nil o;let⟨x,rfl,p⟩:=hasW_list m;let⟨N,rfl⟩:=items_int p;let b:N.length<=n:=by
  unfold OpenLaw.pre at j;let e:(WTm.not$ .lt (.lit$ .int (n:Int))$ .len$ .arg 0).holds [] { args:=[.list$ N.map .int] }=ν:=by let e:=(holds_andW j).1;rw[k]at e;exact e
  let f:=condW_of e (w_not$ w_lt w_lit$ w_len_list$ w_arg Z);rw[Lw]at f;refine ON λq=>?_;let Q:(n:Int) < ((N.length:Nat):Int):=by omega
  first
   | (rw[LX Q]at f;exact absurd f UJ)
   | (simp at f;omega)
 cases g with
 |cons w W=>
  cases W;cases w with
  |list s c=>exact#[_,_,N,Z,Z,s,JQ N _ c,b]
theorem Z0(l:OpenLaw)(args:List WData):l.row.toRowW.claim.post args (.bool ν) args=ν:=
 postW_of (r:=l.row.toRowW) (X:=(ν==ν))
  (show WShape.has [] (.bool ν) .bool=ν by first |rfl |decide |simp [WShape.has,WShape.arms,WShape.armsAll])
  (show(WTm.eq .res$ .lit$ .bool ν).value [] { args:=args,res:=δ (.bool ν),after:=args }=δ (.bool$ ν==ν) from w_eq_bool (w_res Z) w_lit) Z
theorem attach_call{l:OpenLaw}{y:bU->cJ->Prop}{d:DefRec}
  (x:l.most=δ n) (g:d.params.defaults=[])
  (call:∀(w:bU) (S s:ι) (m M:ρ->Option ζ) (F:η) (o:ge) (p C D:ζ) (a:η) (v:List ζ) (N:List Int),
   Ground q L [] z w S m M s.heap->y w s.heap->
   s.heap.get? F=δ o->o.data= .func (docDef d.name d.params d.body d.scope p C D)->s.heap.CodeRec C d.name->m d.name=↑F->
   s.heap.get? a=δ { cls:=.type "list",data:=.seq v.toArray }->IntsAre v N->N.length<=n->s.gens=(ε [])->
   hY (χ l.prog w) callerA (.call (.ref F) #[[.ref a],[]]) (λr e=>r= .ok (.ret$ .bool ν)/\OldK s.heap e.heap/\e.os=s.os/\AllBare e.gens) s):
  WalkO q L z y l.row.toRowW d [] (λf v=>PySem.call f v):=by
 intro w S s m M G Y F o p C D B kV E I i t j J A V W H u K k O;obtain rfl:B= .none:=Dflts.none t g;obtain rfl:kV= .none:=Dflts.noKw t;let⟨a,v,N,rfl,rfl,b,h,c⟩:=ZZ x H k;refine enter_call$ NJ (call w S s m M F o p C D a v N G Y E (fd_plain I) i j b h c J) λr e P=>?_;let⟨rfl,Q,R,T⟩:=P;exact#[.inl #[.bool ν,.bool ν,[],Z,λ_=>Z,.bool ν,Z0 l _,λ_=>#[List.Pairwise.nil,λ_ U=>(nomatch U)]],Q,R,T]
end Att
namespace _L
open PySem PySem.Spec PyProof.Rows
theorem QC:∀{v:List ζ} {N:List Int},IntsAre v N->ax (N.map rm) v
 |_,_,.nil=>.nil
 |_,_,.cons n t h=>.cons #[t,Z] (QC h)
def BE(H:Hp):Prop:=∀b,H b=θ∨∃o x,H b=δ (.frz o$ .lst x)
theorem tW{P:ψ}{K:β}{S:ι}{i:List ζ}
  (Y:K.In S.heap) (l:S.heap.Ns Δ M) (c:S.heap.Ns builtinsNs mb) (Q:∀x:ρ,x≠"__name__"->mb x=bootBuiltins x) (p:S.heap.NoLimit) (hg:S.gens=(ε []))
  (J:S.heap.get? a=δ { cls:=.type "list",data:=.seq i.toArray }) (hi:IntsAre i O) (hl:O.length<=υ) (hr:bo k callerA)
  (F:∀f:cJ,K.In f->f.Ns Δ M->ah P w K M f CX k fa fd [x] sp) (j:∀(s:ι) (u:ζ),BindsTo s fd #[[u],[]] [(x,u)])
  (R:∀H:Hp,BE H->aJ K H a (O.map rm)->sp [.ref a] H (λv _=>v= .bl ν) λ_ _ _=>False)
  (T:∀H e g,CX [] H S (λ_ _ _=>False) e g->False):
  hY (χ P w) callerA (.call (.ref fa) #[[.ref a],[]]) (λr g=>r= .ok (.ret$ .bool ν)/\OldK S.heap g.heap/\g.os=S.os/\AllBare g.gens) S:=by
 let rv:=QC hi;let L:=hi.length;let C:∀H:Hp,BE H->aJ K H a (O.map rm)->eV P w H S.heap->(∀b,H b≠θ->b=a)->(H a≠θ->K.lookup a=θ)->
   hY (χ P w) callerA (.call (.ref fa) #[[.ref a],[]]) (λr g=>r= .ok (.ret$ .bool ν)/\OldK S.heap g.heap/\g.os=S.os/\AllBare g.gens) S:=by
  intro H hO hS t hA hK;let B:∀{b:η} {o:ge},S.heap.get? b=δ o->H b=θ->(lS S.heap H).get? b=δ o:=λe n=>tP e n;let U:∀{b:η} {o:ge} {E:Array DictEntry} {y:Nat},S.heap.get? b=δ o->o.data= .dict E y->H b=θ:=λ{b o E y} e d=>by
   cases q:H b with
   |none=>rfl
   |some u=>have W:b=a:=hA b (by rw[q];simp);subst W;rw[J]at e;cases e;let d':Data.seq i.toArray _=Data.dict E y:=d;cases d'
  let N:∀{b:η} {m:ρ->Option ζ},S.heap.Ns b m->(lS S.heap H).Ns b m:=λ{b m} #[o,E,y,e,d,r]=>#[o,E,y,B e$ U e d,d,r];let A:K.In (lS S.heap H):=λb o e=>B (Y b o e) (by
   cases q:H b with
   |none=>rfl
   |some u=>
    let W:b=a:=hA b (by rw[q];simp);subst W;rw[hK (by rw[q];simp)]at e;cases e)
  let hM:Mod K M (lS S.heap H):=#[A,N l,#[mb,N c,Q],let #[mc,h1,h2]:=p;#[mc,N h1,h2]];let e0:lP P w K M (lS S.heap H) callerA [] S H:=#[Z,hM,λb o e=>ye e,PL$ ZQ _ _,trivial,λb c=>absurd (show b∈([]:List η) from c) UL,t,.of_eq hg];refine NJ ((F _ A$ N l).run callerA [] S H #[[.ref a],[]] [.ref a] [.ref a] _ _ hr e0 (j S$ .ref a) (.cons Z .nil) (R H hO hS)) λr g h=>?_;cases r with
  |error e=>exact(T H e g h).elim
  |ok fl=>
   cases fl with
   |next=>exact False.elim h
   |brk=>exact False.elim h
   |cont=>exact False.elim h
   |ret u=>
    let⟨v,H',os,D,un,G,r',q⟩:=h;let q':v= .bl ν:=q;subst q';obtain rfl:u=mS ν:=r';refine#[Z,OldK.of_keep λb o e=>?_,os,D];cases q:H b with
    |none=>exact un.keep b o e q (by intro z;exact absurd (show b∈([]:List η) from z) UL) UL
    |some u=>
     rcases hO b with z | ⟨ob,xs,z⟩
     .rw[q]at z;cases z
     .let z2:=un.frzs b ob _ z;let⟨e1,_⟩:=t b _ z;let⟨e2,_⟩:=G b _ z2;rw[e]at e1;cases e1;exact e2
 cases X:K.lookup a with
 |some o=>have e:=Y a o X;rw[J]at e;cases e;refine C (λ_=>θ) (λ_=>.inl Z) (.inr #[_,i.toArray,_,X,Z,Z,Z,by rw[LA,L];exact hl,by simpa using rv]) (λb u z=>by let I:(θ:Option HO)=δ u:=z;cases I) (λb z=>absurd Z z) λz=>absurd Z z
 |none=>
  refine C (λb=>if b=a then δ (.frz { cls:=.type "list",data:=.seq i.toArray }$ .lst$ O.map rm) else θ) (λb=>?_) (.inl$ .inr #[{ cls:=.type "list",data:=.seq i.toArray },LP Z]) (λb u z=>?_) (λb z=>?_) λ_=>X
  .by_cases c:b=a
   .exact .inr #[_,_,LP c]
   .exact .inl$ LV c
  .by_cases c:b=a
   .let I:=(LP c).symm.trans z;cases I;subst c;exact#[J,by rw[Lw];exact hl,i,_,rv,J]
   .let I:=(LV c).symm.trans z;cases I
  .by_cases c:b=a
   .exact c
   .exact absurd (LV c) z
theorem Ar{l:pp}{n k:Nat}{E:bU->cJ->Prop}{d:DefRec}{K:Params->β}{CX:bU->pR}{sp:bU->Sp}{x:ρ}
  (O:l.most=δ n) (r:n<=υ) (t:d.params.defaults=[]) (P:bo k callerA)
  (Q:∀(w:bU) (h:cJ),E w h->(K w.params).In h)
  (F:∀(w:bU) (m:ρ->Option ζ) (p:η) (h:cJ),(K w.params).In h->h.Ns Δ m->m d.name=↑p->
   ∃y:fy,(∀(s:ι) (u:ζ),BindsTo s y #[[u],[]] [(x,u)])/\
    ∀B:cJ,(K w.params).In B->B.Ns Δ m->ah l.prog w (K w.params) m B (CX w) k p y [x] (sp w))
  (z:∀(w:bU) (H:Hp) (a:η) (N:List Int),N.length<=n->BE H->aJ (K w.params) H a (N.map rm)->sp w [.ref a] H (λv _=>v= .bl ν) λ_ _ _=>False)
  (A:∀(w:bU) (H:Hp) (s:ι) (e:ζ) (C:ι),CX w [] H s (λ_ _ _=>False) e C->False):
  PySem.W.WalkO q L XP E l.row.toRowW d [] (λf I=>PySem.call f I):=by
 refine Att.attach_call O t λw J S m mb p o pm cd R a I N G Y ho hd U D j i c X=>?_;let M:=Q w _ Y;let⟨y,hb,hF⟩:=F w m p _ M G.T.g D;exact tW M G.T.g G.T.b G.T.builtins G.T.nolimit X j i (LJ c r) P hF hb (λH hO hS=>z w H a N c hO hS) λH e C=>A w H S e C
noncomputable def bG(s:cv)(j:Nat):cv:=match s with
 | .ClassDef _ _ _ b _ _ _ _ _ _ _=>b.getD j (.Pass #[0,0,0,0])
 |_=>.Pass #[0,0,0,0]
noncomputable def bN(s:cv):Arguments:=match s with
 | .FunctionDef _ a _ _ _ _ _ _ _ _=>a
 |_=>{ posonlyargs:=[],args:=[],vararg:=θ,kwonlyargs:=[],kw_defaults:=[],kwarg:=θ,defaults:=[] }
noncomputable def ba(s:cv):List cv:=match s with
 | .FunctionDef _ _ b _ _ _ _ _ _ _=>b
 |_=>[]
noncomputable def aa(s:cv):hG:=match s with
 | .FunctionDef _ _ _ _ _ _ S _ _ _=>S
 |_=>{ kind:=.function,names:=[],isGenerator:=μ,isCoroutine:=μ }
abbrev aE:pR:=λ_ _ _ _ _ _=>False
abbrev E0:XK:=λ_ _ _=>False
theorem bH{X:Cx}:dC aE X E0:=λ_ _ _ _ _ _ _ h=>h.elim
structure aQ(K:β)(x qual:ρ)(st:cv)(f:η)(fd:fy):Prop where
 ex:∃(oc:ζ) (od:Option η) (kV doc pm:ζ) (an:Option η) (cdv ct:ζ) (osl:Array (Option ζ)),
  fd=qs x qual (bN st) (ba st) (aa st) .none kV doc pm an cdv ct/\K.lookup f=δ #[oc,od,.func fd,osl]/\codeIn K cdv qual=ν
 kp:fz K (.ref f)=ν
section
variable {P:ψ}{w:bU}{K:β}{mg:ρ->Option ζ}{base:cJ}
abbrev rx(K:β)(x:ρ):=aQ K x x
theorem aQ.ok{st:cv}{d:Sp}(F:aQ K x a st f i)(S:ak N p (aa st))
  (b:∀(c:ζ) (A:bS) (o:List rc) (s:ι) (H:Hp) (v:List V) (Q:VK) (E:XK),bo k (A.deeper$ envOfC a (aa st) s.heap.objs.size f c)->d v H Q E->
   ∃t,mN (d9 aE P w K mg base N a (aa st) f c A o s H E).nox (ba st) t/\t { nx:=λ_ j=>Q .non j,rt:=Q } (dJ N v) H)(len:∀v H Q E,d v H Q E->v.length=p.length:=by rintro _ _ _ _⟨⟩;subst_vars;rfl):ah P w K mg base aE (k+1) f i p d:=by
 let⟨m,n,kV,D,r,u,c,C,O,rfl,lk,e⟩:=F.ex;refine AS lk e S len λA o s H v Q E l g=>?_;let⟨t,h,q⟩:=b c A o s H v Q E l g;exact#[t,h.nox,q]
theorem aQ.binds{st:cv}{p:List ρ}(F:aQ K x q st f b)
  (h:∀(kV d a:ζ) (A:Option η) (c C:ζ) (u:List ζ),u.length=p.length->bindArgs (qs x q (bN st) (ba st) (aa st) .none kV d a A c C) #[u,[]]=pure (p.zip u)):aw K b p []:=by
 let⟨O,e,kV,d,a,A,c,C,o,rfl,lk,H⟩:=F.ex;exact .all$ h kV d a A c C
theorem tG{st:cv}{kV:ζ}(l:K.lookup f=δ #[O,e,.func$ qs x q (bN st) (ba st) (aa st) .none kV d p a C b,o])
  (c:codeIn K C q=ν) (k:fz K (.ref f)=ν):aQ K x q st f (qs x q (bN st) (ba st) (aa st) .none kV d p a C b):=#[#[O,e,kV,d,p,a,C,b,o,Z,l,c],k]
end
theorem zQ(h:bo k A):A.units+1 < cLine:=M7 (Sl (by decide:1<=64) _) h.units
section
variable {X:Cx}
theorem pv(i:Nat){x:ρ}{p:Pos}(H:X.N[i]?=δ x:=by rfl)(a:He X.env.scope x:=by first |exact Φ Z |exact gL (Φ Z) |exact gL$ gL Z)(b:(x==("__debug__":ρ))=μ:=by decide)
  (h:(x==("__classdict__":ρ))=μ:=by decide):PE X (.Name x p) (a9 i):=Du H a b h
end
theorem rj{A B:Prop}(h:B):if μ=ν then A else B:=by rw[LV LD];exact h
theorem Cy{A B:Prop}(h:A):if ν=ν then A else B:=by rw[LP Z];exact h
theorem bV{c A B:Prop}[Decidable c](H:c->A)(a:¬c->B):if c then A else B:=by
 by_cases h:c
 .rw[LP h];exact H h
 .rw[LV h];exact a h
def ae(H h:Hp):Prop:=∀b o,H b=δ o->h b=δ o
theorem ae.refl(H:Hp):ae H H:=λ_ _ h=>h
theorem ae.trans(a:ae H d)(b:ae d e):ae H e:=λc o h=>b c o (a c o h)
theorem ae.free(e:ae H a)(h:a l=Option.none):H l=Option.none:=by
 cases q:H l with
 |none=>rfl
 |some o=>rw[e l o q]at h;cases h
theorem ae.seq{K:β}(e:ae H b)(h:aJ K H a x):aJ K b a x:=by
 rcases h with (h | ⟨o,h⟩) |h
 .exact .inl$ .inl$ e _ _ h
 .exact .inl$ .inr #[o,e _ _ h]
 .exact .inr h
section
variable {prog:ψ}{w:bU}{A:bS}{R:Result->ι->Prop}{s:ι}
abbrev AB:ζ->ι->Prop:=λ_ _=>False
theorem Z1{iter:dr}(I:Nat->ι->Prop)
  (T:∀n s,I n s->π (χ prog w) A (pyNext B) (λr S=>match r with
   |none=>R (.ok .next) S
   |some v=>π (χ prog w) A (letOwnedTupleGo t B v) (λ_ b=>π (χ prog w) A (assign t e v) (λ_ d=>
     π (χ prog w) A (forIn l ν λc r=>if r=ν then do let o <- isTrue c e (eval c e);pure (ForInStep.yield o) else pure (ForInStep.yield r)) (λo a=>
      if o=ν then π (χ prog w) A (eval E e) (λx g=>
       π (χ prog w) A (call (.builtin "list.append") [p,x]) (λ_ i=>∃m,m < n/\I m i) AB g) AB a
      else ∃m,m < n/\I m a) AB d) AB b) AB S) AB s)
  (n:Nat) (h:I n s):
  hY (χ prog w) A (.compLoop (.ListComp E [#[t,iter,l,0]] k C) 0 B p e) R s:=by
 refine codeAny_loop Z I (λn s D=>?_) n h;show π _ A ((compTurn (.ListComp E [#[t,iter,l,0]] k C) 0 B p e).onRaise (λx=>do noteFrame x e;theTreesLotGoes x)) _ _ s;refine wpAny_noted ?_;rw[compTurn_list];refine Lr$ Nw$ Lr$ Mp (T n s D) (λr S H=>?_) λ_ _ f=>f.elim;cases r with
 |none=>exact Lu H
 |some v=>
  refine Lr$ Mp H (λ_ b q=>?_) λ_ _ f=>f.elim;refine Lr$ Mp q (λ_ d u=>Lr (Mp u (λo a j=>?_) λ_ _ f=>f.elim)) λ_ _ f=>f.elim;cases o with
  |false=>exact Lu #[Z,j]
  |true=>exact Lr$ Lr$ Mp j (λx g y=>Lr (Mp y (λ_ i z=>Lu (Lu #[Z,z])) λ_ _ f=>f.elim)) λ_ _ f=>f.elim
end
noncomputable def bf(X:Cx)(s:hG)(M:List ρ)(c:List (ρ×η))(C:η)(f:List η)(S:ι)(H:Hp):Cx where
 prog:=X.prog
 w:=X.w
 K:=X.K
 mg:=X.mg
 base:=X.base
 A:=X.A
 N:=M
 s₀:=S
 H₀:=H
 env:=compEnvC s c C X.env
 outer:=X.stack
 stack:=X.stack
 ex:=f
 fn:=λ_=>μ
 calm:=X.calm
 pn:=[]
 xe:=λ_ _=>False
noncomputable def Et(n:Nat)(I:List Nat)(a:St):St:=ic n θ++I.map λi=>(a[i]?).getD θ
structure bu(N:List ρ)(sc scope:hG)(M:List ρ)(nT:Nat)(ix:List Nat):Prop where
 cell:∀y∈scope.names,y.2≠ .cell
 kind:scope.kind= .function
 loc:∀y∈scope.names,y.2= .local->scope.names.lookup y.1=δ .local
 fre:∀y∈scope.names,y.2= .free->sc.names.lookup y.1=δ .cell
 nms:M.drop nT=ix.map λi=>N.getD i Str.empty
 len:M.length=nT+ix.length
 vis:∀i∈ix,scope.names.lookup (N.getD i Str.empty)=δ .free
theorem Jn{E:rc}(c:E.scope.kind= .function):∀{N:List (ρ×NameKind)} {y:ρ},N.lookup y=δ .free->E.kindOf y=δ .cell->
  (N.map λ(n,k)=>if (k==NameKind.free&&E.scope.kind== .function&&E.kindOf n==δ .cell) then (n,NameKind.cell) else (n,k)).lookup y=δ .cell
 | [],_,h,_=>by simp at h
 | (n,k)::r,y,h,b=>by
  let i:=@Jn E c r y;show gN y ((if (k==NameKind.free&&E.scope.kind== .function&&E.kindOf n==δ .cell)=ν then (n,NameKind.cell) else (n,k))::_)=_;cases H:y==n with
  |true=>
   simp only[MH,H]at h;cases h;let e:y=n:=by simpa using H
   subst e;rw[LP (by rw[c,b];rfl)];simp [MH]
  |false=>
   simp only[MH,H]at h;by_cases a:(k==NameKind.free&&E.scope.kind== .function&&E.kindOf n==δ .cell)=ν
   .rw[LP a];simp only[MH,H];exact i h b
   .rw[LV a];simp only[MH,H];exact i h b
theorem KK{E:rc}:∀{N:List (ρ×NameKind)} {y:ρ} {K:NameKind},
  (N.map λ(n,k)=>if (k==NameKind.free&&E.scope.kind== .function&&E.kindOf n==δ .cell) then (n,NameKind.cell) else (n,k)).lookup y=δ K->
  ∃k,N.lookup y=δ k/\(K=k∨k= .free)
 | [],_,_,h=>by simp at h
 | (n,k)::r,y,K,h=>by
  let i:=@KK E r y K;let h:gN y ((if (k==NameKind.free&&E.scope.kind== .function&&E.kindOf n==δ .cell)=ν then (n,NameKind.cell) else (n,k))::_)=δ K:=h;cases a:y==n with
  |true=>
   refine#[k,by simp only[MH,a],?_];by_cases H:(k==NameKind.free&&E.scope.kind== .function&&E.kindOf n==δ .cell)=ν
   .right;simp only[MJ]at H;simpa using H.1.1
   .rw[LV H]at h;simp only[MH,a]at h;left;exact(Mh h).symm
  |false=>
   let b:gN y (r.map λ(n,k)=>if (k==NameKind.free&&E.scope.kind== .function&&E.kindOf n==δ .cell) then (n,NameKind.cell) else (n,k))=δ K:=by
    by_cases H:(k==NameKind.free&&E.scope.kind== .function&&E.kindOf n==δ .cell)=ν
    .rw[LP H]at h;simp only[MH,a]at h;exact h
    .rw[LV H]at h;simp only[MH,a]at h;exact h
   let⟨c,e,q⟩:=i b;exact#[c,by simp only[MH,a];exact e,q]
noncomputable def aY(e:rc):List (ρ×NameKind)->List (ρ×η)->List (ρ×η)
 | [],a=>a
 | (n,k)::r,a=>if k== .free then aY e r ((n,(e.cells.lookup n).getD 0)::a) else aY e r a
theorem qh{E:rc}:∀{N:List (ρ×NameKind)} {acc:List (ρ×η)},(∀y∈N,y.2= .free->∃c,E.cells.lookup y.1=δ c)->(∀x c,acc.lookup x=δ c->E.cells.lookup x=δ c)->
  ∀x c,(aY E N acc).lookup x=δ c->E.cells.lookup x=δ c
 | [],_,_,b,x,c,h=>b x c h
 | (n,k)::r,acc,f,b,x,c,h=>by
  unfold aY at h;by_cases g:(k==NameKind.free)=ν
  .rw[LP g]at h;refine qh (λy H=>f y (LW _ H)) (λX j a=>?_) x c h;let⟨C,d⟩:=f (n,k) LN (by simpa using g);let d:E.cells.lookup n=δ C:=d;simp only[MH]at a;cases i:X==n with
   |true=>
    rw[i]at a;let e:X=n:=by simpa using i
    subst e;rw[d]at a;rw[d];exact a
   |false=>rw[i]at a;exact b _ _ a
  .rw[LV g]at h;exact qh (λy H=>f y (LW _ H)) b x c h
theorem qz:∀{a:List (ρ×η)},(∃c,(x,c)∈a)->∃c,a.lookup x=δ c
 | [],h=>by let⟨_,h⟩:=h;cases h
 | (n,c)::r,h=>by
  simp only[MH];cases H:x==n with
  |true=>exact#[c,Z]
  |false=>
   let⟨C,h⟩:=h;rcases Ξ.mp h with e |h
   .injection e with E _;subst E;simp at H
   .exact qz #[C,h]
theorem qU:∀{N:List (ρ×NameKind)} {a:List (ρ×η)},((∃c,(x,c)∈a)∨(x,NameKind.free)∈N)->∃c,(x,c)∈aY E N a
 | [],_,h=>by
  rcases h with h |h
  .exact h
  .cases h
 | (n,k)::r,a,h=>by
  unfold aY;by_cases H:(k==NameKind.free)=ν
  .rw[LP H];refine qU ?_;rcases h with ⟨c,h⟩ |h
   .exact .inl #[c,LW _ h]
   .rcases Ξ.mp h with e |h
    .injection e with b _;subst b;exact .inl #[_,LN]
    .exact .inr h
  .rw[LV H];refine qU ?_;rcases h with h |h
   .exact .inl h
   .rcases Ξ.mp h with e |h
    .injection e with _ d;subst d;exact absurd Z H
    .exact .inr h
theorem qI{e:rc}:∀(N:List (ρ×NameKind)) (A:List (ρ×η)),(∀y∈N,y.2= .free->∃c,e.cells.lookup y.1=δ c)->
  (forIn N A (λx r=>match x with | (name,K)=>if (K==NameKind.free)=ν then (do let a <- cellOf e name;pure (ForInStep.yield ((name,a)::r))) else pure (ForInStep.yield r)):Sem (List$ ρ×η))=pure (aY e N A)
 | [],A,_=>rfl
 | (n,k)::r,A,b=>by
  let i:=λA=>qI r A λy H=>b y (LW _ H);rw[NC];unfold aY;by_cases h:(k==NameKind.free)=ν
  .let⟨C,E⟩:=b (n,k) LN (by simpa using h);let E:e.cells.lookup n=δ C:=E;let d:cellOf e n=pure C:=by unfold cellOf;rw[E]
   rw[LP h];simp only[h,On,d,E];exact i _
  .rw[LV h];simp only[h];exact i _
theorem qJ{e:rc}{S:hG}(H:∀y∈S.names,y.2= .free->∃c,e.cells.lookup y.1=δ c):closureFor S e=pure (aY e S.names []):=by let h:=qI S.names [] H;exact MO (λt:Sem (List$ ρ×η)=>t >>= λs=>pure s) h
section
variable {X:Cx}{pins:List (η×ge)}{σ:St}{H:Hp}{s:ι}
theorem Jh(I:au X pins σ H s)(S:bu X.N X.env.scope a M n i):∀y∈a.names,y.2= .free->∃c,X.env.cells.lookup y.1=δ c:=
 λy h e=>I.ok.has y.1 (.inl$ S.fre y h e)
theorem sI{g:cJ}(I:au X pins σ H s)(F:∀b∈Y,fQ X pins H b)(P:∀b∈Y,b < s.heap.objs.size)
  (S:bu X.N X.env.scope a M n G) (Q:s.heap.objs.size<=C) (O:∀b o,s.heap.get? b=δ o->g.get? b=δ o) (R:g.Ns C m):
  au (bf X a M (aY X.env a.names []) C Y s H) [] (Et n G σ) H { s with heap:=g,toks:=tk }:=by
 let sub:∀x c,(aY X.env a.names []).lookup x=δ c->X.env.cells.lookup x=δ c:=qh (Jh I S) (λx c h=>by simp at h);let j:∀x,a.names.lookup x=δ .free->∃c,(aY X.env a.names []).lookup x=δ c:=λx e=>qz (qU$ .inr$ M0 e);let hex:∀x K,(relabel a X.env).names.lookup x=δ K->(K= .cell∨K= .free)->a.names.lookup x=δ .free:=λx K e A=>by
  let⟨k,t,q⟩:=KK e;rcases q with q |q
  .rcases A with z |z
   .exact absurd (q.symm.trans z)$ S.cell (x,k)$ M0 t
   .rw[t,<- q,z]
  .rw[t,q]
 refine#[#[I.ok.mod,S.kind,I.ok.glob,I.ok.blt,Q,λx y c h1 h2=>I.ok.inj x y c (sub x c h1) (sub y c h2),λx hx=>?_,λx c hx=>?_,I.ok.hd,I.ok.frames,.inl Z,λb w=>#[λz=>?_,λx c e=>?_],I.bs,LJ I.ok.bsz I.sz,λb o e w=>?_,λb w hz=>?_,I.stack,I.stkFree],
  rfl,I.bare,Un.kept O,#[m,R,λk y v t E _=>?_],λx c e=>?_,I.hok.fresh Q,λx c e=>I.freeC x c (sub x c e),λp hp=>absurd (show p∈([]:List (η×ge)) from hp) UL,I.hok.kept O,?_]
 .rcases hx with hx |hx
  .exact j x$ hex x _ hx$ .inl Z
  .exact j x$ hex x _ hx$ .inr Z
 .exact absurd (show μ=ν from hx) UJ
 .let z':b=C:=z;let:=P b w;rw[z']at this;exact absurd this$ Nat.not_lt.mpr Q
 .exact(F b w).2.2.2.2.1 x c (sub x c e)
 .rcases(F b w).2.2.2.1 with z |z
  .exact I.ok.noex b o e z
  .exact absurd (LH (Lz e)$ LJ I.ok.bsz z)$ ML _
 .rcases Ξ.mp (I.stkSub b hz) with z |z
  .exact(F b w).2.1 z
  .exact(F b w).2.2.1 z
 .let E:(Et n G σ)[k]?=δ (δ v):=E;let t:M[k]?=δ y:=t;unfold Et at E;by_cases A:k < n
  .rw[Nq (by simpa using A),RF]at E;simp [A]at E
  .let B:n<=k:=ON A;rw[Nl (by simpa using B),O9,LK]at E;cases J:G[k - n]? with
   |none=>rw[J]at E;cases E
   |some i=>
    rw[J]at E;let L:(σ[i]?).getD θ=δ v:=Mh E;let V:σ[i]?=δ (δ v):=by
     cases W:σ[i]? with
     |none=>rw[W]at L;cases L
     |some o=>rw[W]at L;exact MO δ L
    let hi:i < X.N.length:=by rw[<- I.len];exact(ξ.mp V).1
    let e7:y=X.N.getD i Str.empty:=by
     let q:(M.drop n)[k - n]?=δ y:=by rw[Sm];rw[Sj B];exact t
     rw[S.nms,LK,J]at q;exact(Mh q).symm
    let e8:X.N[i]?=δ y:=by rw[e7,Ls hi,Mw,Ls hi];rfl
    let d:a.names.lookup y=δ .free:=by rw[e7];exact S.vis i$ LS J
    let f:X.env.scope.names.lookup y=δ .cell:=S.fre (y,.free) (M0 d) Z;let⟨m',_,hl⟩:=I.loc;let⟨u,r,l⟩:=hl i y v e8 V (.inr$ .inl f);refine#[u,r,?_];rcases l with ⟨l,_⟩ | ⟨_,c,ec,o,T,U⟩
    .let l:X.env.scope.names.lookup y=δ .local:=l;rw[f]at l;cases l
    .let⟨c',D⟩:=j y d;let q:=sub y c' D;rw[ec]at q;cases q;exact .inr #[.inl$ Jn I.ok.kind d f,c,D,o,O _ _ T,U]
 .let⟨v,o,T,U⟩:=I.cell x c (sub x c e);exact#[v,o,O _ _ T,U]
 .show(Et n G σ).length=M.length;rw[S.len];simp [Et]
theorem au.track(I:au X pins σ H s)(f:fQ X pins H D)(G:X.s₀.heap.objs.size<=D)(a:aM X.prog X.w (af H D o) s.heap D o):au X pins σ (af H D o) s:=by
 let n:=f.1;let N:∀b u,H b=δ u->b≠D:=λb u e=>jl e n;refine#[I.ok,I.os,I.bare,#[I.base.keep,I.base.slot,λb O e q i=>?_,I.base.there,λb d e=>?_,λb O u e=>?_,λb P e=>?_],I.loc,I.cell,?_,λx c e=>?_,λp h=>?_,λb u e=>?_,I.len]
 .rw[ji$ LC$ LH (Lz e) G];exact I.base.free b O e q i
 .let q:=I.base.tups b d e;rw[ji$ N _ _ q];exact q
 .let q:=I.base.frzs b O u e;rw[ji$ N _ _ q];exact q
 .let⟨m,q⟩:=I.base.tbls b P e;exact#[m,by rw[ji$ N _ _ q];exact q]
 .rw[ji$ Me f.2.1];exact I.free
 .rw[ji$ f.2.2.2.2.1 x c e];exact I.freeC x c e
 .let⟨e,q,r⟩:=I.pin p h;exact#[e,by rw[ji$ f.2.2.2.2.2 p h];exact q,r]
 .by_cases g:b=D
  .subst g;rw[jc]at e;cases e;exact a
  .rw[ji g]at e;exact(I.hok b u e).stay (λ_ _ _ q=>q) (λc q=>by rw[ji$ N _ _ q];exact q) λc d q=>by rw[ji$ N _ _ q];exact q
noncomputable abbrev ll(u:List ζ):ge:={ cls:=.type "list",data:=.seq u.toArray u.length }
theorem Z2(u:List ζ)(y:ζ):({ cls:=.type "list",data:=.seq (u.toArray.push y) (u.length+1) }:ge)=ll (u++[y]):=by show({ cls:=.type "list",data:=.seq (u.toArray.push y) (u.length+1) }:ge)={ cls:=.type "list",data:=.seq (u++[y]).toArray (u++[y]).length };rw[Ly,NF,List.push_toArray]
def PF(X:Cx)(i:List dr)(t:TT):Prop:=
 ∀(pins:List (η×ge)) (s:ι) (σ:St) (H:Hp) (Q:Bool->Hp->Prop),au X pins σ H s->t σ H Q->
  π (χ X.prog X.w) X.A (forIn i ν λc r=>if r=ν then do let o <- isTrue c X.env (eval c X.env);pure (ForInStep.yield o) else pure (ForInStep.yield r)) (TP X pins σ Q) X.xe s
def mJ:TT:=λ_ H Q=>Q ν H
theorem zz:PF X [] mJ:=λ_ _ _ H _ I h=>wpAny_tests_nil #[H,I,h]
theorem Dw{c:dr}{t:TT}(h:PT X c t):PF X [c] t:=λpins s σ H Q I q=>wpAny_tests_one (h pins s σ H Q I q)
noncomputable def pi(I:List Nat)(σ:St):St:=I.map λi=>(σ[i]?).getD θ
def eU(J:It)(n:Nat)(t:St)(g:TG)(j:TT)(k:TE)(Q:List V->Hp->Prop)(H:Hp):Prop:=
 ∃W:Nat->Nat->List V->Hp->Prop,(∃m,W 0 m [] H)/\∀i m Y H,W i m Y H->
  (J.stop i H/\Q Y H)∨(J.go i H/\Y.length < υ/\∃N:List V->Hp->Prop,(∀c h,N c h->∃M,M < m/\W (i+1) M c h)/\
   ∀x d (e:St),e.length=n->J.yld i H x d->g x (e++t) d λa h=>(∃T:St,T.length=n/\a=T++t)/\j a h λb f=>if b=ν then k a f λy l=>N (Y++[y]) l else N Y f)
theorem KL{iter:dr}
  {RR:ζ->η->Result->ι->Prop} 
  (I:au X pins σ H s) (hc:X.calm=ν) (T:oh X.prog X.w X.K tg J k it tn) (st:tn 0 s.heap) (hf:∀b∈k,fQ X pins H b) (S:bu X.N X.env.scope scope M nT ix)
  (hg:∀cl C k s H,PG (bf X scope M cl C k s H) tg g) (hi:∀cl C k s H,PF (bf X scope M cl C k s H) i0 tt) (he:∀cl C k s H,PE (bf X scope M cl C k s H) e0 te)
  (h:eU J nT (pi ix σ) g tt te Qf H)
  (h':∀D C Y m t G,(∀b o u,H b=δ (.frz o u)->t b=δ (.frz o u))->t D=θ->au X pins σ (af t D$ .lst Y) G->fQ X pins (af t D$ .lst Y) C->G.heap.Ns C m->Qf Y t->RR (.ref D) C (.ok .next) G):
  π (χ X.prog X.w) X.A (newList []) (λacc B=>π (χ X.prog X.w) X.A (newFunctionEnv scope X.env.globals (aY X.env scope.names []) [] X.env.qual θ .none$ δ X.env) (λc0 s0=>
   hY (χ X.prog X.w) X.A (.compStart (.ListComp e0 [#[tg,iter,i0,0]] scope p1) 0 (.ref it) acc { c0 with scope:=relabel scope X.env }) (RR acc c0.locals) s0) E B) E s:=by
 obtain⟨W,⟨m0,w0⟩,t1⟩:=h;let h3:∀b∈k,b < s.heap.objs.size:=λb a=>by let⟨o,e,_⟩:=T.obj 0 _ st b a;exact Lz e
 refine Mm$ wpAny_newFunctionEnv S.cell (by intro y hy;simp at hy) (λF l f=>?_) S.kind;dsimp only at l f ⊢;generalize h4:s.heap.push { cls:=.type "list",dict:=θ,data:=.seq ([]:List ζ).toArray }=H2 at l f ⊢;let hC:H2.objs.size=s.heap.objs.size+1:=by rw[<- h4,Mr]
 let P:s.heap.objs.size≠H2.objs.size:=by rw[hC];exact LC$ MQ _
 let h0:s.heap.objs.size<=H2.objs.size:=by rw[hC];exact MZ _
 let b0:∀b,b < s.heap.objs.size->b≠H2.objs.size/\b≠s.heap.objs.size:=λb a=>#[by rw[hC];exact LC$ Nu a,LC a];let o1:∀b o,s.heap.get? b=δ o->F.get? b=δ o:=λb o e=>f.extBut b o (b0 b$ Lz e).1 (Lv _$ h4▸Lv _ e);let h5:F.get? s.heap.objs.size=δ (ll []):=f.extBut _ _ P (Lv _$ h4▸LB _ Z);let a0:H s.heap.objs.size=θ:=I.hok.fresh (Lx _);let h6:s.heap.objs.size∉lB X.stack:=λa=>(Ξ.mp$ I.stkSub _ a).elim (λe=>absurd I.lt (by rw[<- e];exact ML _)) (I.nofs$ Lx _);generalize hD:s.heap.objs.size=D at*;generalize b2:H2.objs.size=C at*;let J0:∀tk,au (bf X scope M (aY X.env scope.names []) C k s H) [] (Et nT ix σ) H { s with heap:=F,toks:=tk }:=λtk=>sI I hf (by rw[hD];exact h3) S (by rw[hD];exact h0) o1 l;let c1:∀x c,(aY X.env scope.names []).lookup x=δ c->c≠D:=λx c e z=>by let sub:=qh (Jh I S) (acc:=[]) (λx c h=>by simp at h) x c e;let⟨v,o,ho,_⟩:=I.cell x c sub;let:=Lz ho;rw[z,hD]at this;exact ML _ this
 let p0:∀{σ0:St} {t:Hp} {G:ι} {U:List ζ},au (bf X scope M (aY X.env scope.names []) C k s H) [] σ0 t G->G.heap.get? D=δ (ll U)->t D=θ->
   au (bf X scope M (aY X.env scope.names []) C k s H) [(D,ll U)] σ0 t G:=λ{σ0 t G U} I' e n=>I'.pins_of λp hp=>by
  let ep:p=(D,ll U):=by simpa using hp
  subst ep;exact#[e,n,P,h6,λv z=>by cases z]
 let L:∀{t:Hp} {U:List ζ},(∀b∈k,t b=θ)->∀b∈k,fQ (bf X scope M (aY X.env scope.names []) C k s H) [(D,ll U)] t b:=λ{t U} hn b a=>
  #[hn b a,((J0 0).ok.exf b a).1,(J0 0).ok.exfs b a,.inl a,((J0 0).ok.exf b a).2,λp hp z=>by
   let ep:p=(D,ll U):=by simpa [bf] using hp
   rw[ep]at z;let:=h3 b a;rw[<- z]at this;exact ML _ this]
 let l0:∀B:ι,(∃tk,B={ s with heap:=F,toks:=tk })->
   hY (χ X.prog X.w) X.A (.compLoop (.ListComp e0 [#[tg,iter,i0,0]] scope p1) 0 (.ref it) (.ref D)$ compEnvC scope (aY X.env scope.names []) C X.env) (RR (.ref D) C) B:=by
  rintro B ⟨tk,rfl⟩;refine Z1 (λn G=>∃i Y U ts t,ts.length=nT/\au (bf X scope M (aY X.env scope.names []) C k s H) [(D,ll U)] (ts++pi ix σ) t G/\ax Y U/\Y.length<=υ/\tn i G.heap/\(∀b∈k,t b=θ)/\W i n Y t) ?_ m0
   #[0,[],[],ic nT θ,H,O9,p0 (J0 tk) h5 a0,.nil,LF _,T.keep _ _ _ st λb a o e=>o1 b o e,λb a=>(hf b a).1,w0]
  rintro n s1 ⟨i,Y,U,ts,Q,a1,I1,rv,hz,s7,f0,w1⟩;rcases t1 i n Y Q w1 with ⟨stop,q⟩ | ⟨go,a2,N,hN,step⟩
  .refine aU (T.done (bf X scope M (aY X.env scope.names []) C k s H) Z Z Z hc i _ s1 _ Q AB I1 (L f0) s7 stop) λr s2 j=>?_;let⟨hr,I2⟩:=j;subst hr;let IO:au X pins σ Q s2:=I.call' (ch:=k) I2.os I2.base I2.hok I2.bare λb a=>#[(hf b a).2.2.2.1,(hf b a).2.1,(hf b a).2.2.2.2.1,(hf b a).2.2.2.2.2];let pD:=I2.pin (D,ll U) (by simp [bf]);let h8:Q D=θ:=pD.2.1;let fD:fQ X pins Q D:=by rw[<- hD];exact I.fpOk (Lx _) (by rw[hD];exact h8)
   let IT:au X pins σ (af Q D$ .lst Y) s2:=IO.track fD (by rw[<- hD];exact I.sz) #[hz,U,U.length,rv,pD.1];let⟨mC,a3,_⟩:=I2.loc;let a4:Q C=θ:=I2.free;exact h' D C Y mC Q s2 I2.base.frzs h8 IT (I.fpOk (by rw[hD];exact h0) (by rw[ji$ Me P];exact a4)) a3 q
  .refine aU (T.item (bf X scope M (aY X.env scope.names []) C k s H) Z Z Z hc i _ s1 _ Q AB I1 (L f0) s7 go) λr s2 j=>?_;let⟨u,hr,h2⟩:=j;subst hr;refine aU h2 λ_ s3 j=>?_;let⟨x,H3,I3,r3,y3,O,f1⟩:=j;let a':=I3.pinned (L f1) (T.obj _ _ O);refine aU (hg _ _ _ _ _ _ s3 _ H3 x u _ a' r3$ step x H3 ts a1 y3) λ_ s4 j=>?_;obtain⟨σ1,H4,I4,⟨t0,h1,e4⟩,q4⟩:=j;subst e4;refine aU (hi _ _ _ _ _ _ s4 _ H4 _ I4 q4) λb s5 j=>?_;let⟨H5,I5,q5⟩:=j;cases b with
   |false=>obtain⟨m',hm,w'⟩:∃m',m' < n/\W (i+1) m' Y H5:=hN _ _ q5;refine#[m',hm,i+1,Y,U,t0,H5,h1,I5.unpinned,rv,hz,T.keep _ _ _ O λb a o e=>(I5.pin (b,o)$ LQ _$ LQ _$ zh a e).1,λb a=>?_,w'];let⟨o,e,d⟩:=T.obj _ _ O b a;exact(I5.pin (b,o)$ LQ _$ LQ _$ zh a e).2.1
   |true=>
    refine aU (he _ _ _ _ _ _ s5 _ H5 _ I5 q5) λv s6 j=>?_;let⟨y,H6,I6,r6,q6⟩:=j;let⟨m',hm,w'⟩:=hN _ _ q6;let pD:=I6.pin (D,ll U) (LQ _$ MV _ LN);let hl:=rv.length;let R:∀b∈k,∀o,s3.heap.get? b=δ o->s6.heap.get? b=δ o:=λb a o e=>(I6.pin (b,o)$ LQ _$ LQ _$ zh a e).1;let V:∀b∈k,H6 b=θ:=λb a=>by let⟨o,e,d⟩:=T.obj _ _ O b a;exact(I6.pin (b,o)$ LQ _$ LQ _$ zh a e).2.1
    refine append_at (hsz:=by rw[LA,<- hl];exact hz) pD.1 λh7 sb b1=>?_;let I7:au (bf X scope M (aY X.env scope.names []) C k s H) [] (t0++pi ix σ) H6 { s6 with heap:=h7 }:=
     (I6.pins_of (pins':=[]) λp hp=>absurd hp UL).turned (t':=s6.toks) (it:=D) (λb o a e=>(sb.2 b a).trans e) pD.2.1 P (.inr (by show s.heap.objs.size<=D;rw[hD];exact Lx _)) c1 λp hp=>absurd (show p∈([]:List (η×ge)) from hp) UL
    refine#[m',hm,i+1,Y++[y],U++[v],t0,H6,h1,p0 I7 (b1.trans$ MO δ$ Z2 U v) pD.2.1,rv.append$ .cons r6 .nil,by rw[Ly,NF];exact a2,
     T.keep _ _ _ (T.keep _ _ _ O R) λb a o e=>(sb.2 b λz=>?_).trans e,V,w']
    let:=h3 b a;rw[z]at this;exact ML _ this
 exact codeAny_compStart_list (l0 _ #[_,Z])$ T.self _ 0 _ _ _ (T.keep _ _ _ st λb a o e=>o1 b o e)$ l0 _ #[_,Z]
def wg(w:TI)(n:Nat)(i:List Nat)(g:TG)(t:TT)(T:TE):TE:=λσ H Q=>w σ H λJ a=>eU J n (pi i σ) g t T (λy h=>∀p,h p=θ->Q (.ref p) (af h p$ .lst y)) a
theorem zi{t E iter:dr}{i:List dr}{a:hG}{p:Pos}{M:List ρ}{k:Nat}{l:List Nat}{W:TI}{g:TG}{r:TT}{u:TE}(v:X.calm=ν)(y:PI X t iter W)(S:bu X.N X.env.scope a M k l)
  (z:∀c C f s H,PG (bf X a M c C f s H) t g) (B:∀c C f s H,PF (bf X a M c C f s H) i r) (G:∀c C f s H,PE (bf X a M c C f s H) E u)
  (K:∀x,foldedSetIterable iter X.env x=pure x:=by intro _;rfl):
  PE X (.ListComp E [#[t,iter,i,0]] a p) (wg W k l g r u):=by
 intro pins s σ H Q I h;rw[eval_ListComp];refine R6 (use:=θ) Z K (qJ$ Jh I S) S.kind S.loc$ aU (y pins s σ H _ I h) λxv s1 L=>aU L λO s2 P=>?_;let⟨it,f,tn,J,H2,e,U,T,d,V,R⟩:=P;subst e;refine KL (RR:=λj C=>compPost (χ X.prog X.w) X.A X.xe θ (EP X pins σ Q) j C) U v T d V S z B G R ?_;intro D C ys m H' Y _ n I' F ns q;exact#[m,ns,λh' sb=>#[.ref D,_,I'.turned (t':=Y.toks) (λb o hb e=>(sb.2 b hb).trans e) F.1 F.2.1 F.2.2.2.1 F.2.2.2.2.1 F.2.2.2.2.2,Z,q D n]]
theorem Ze{t E iter:dr}{d:List dr}{c:hG}{p P f:Pos}{y:ρ}{i:Nat}{M:List ρ}{U:Nat}{V:List Nat}{W:TI}{g:TG}{Y:TT}{te:TE}(hN:X.N.Nodup)(hy:X.N[i]?=δ y)(hx:pW X.env.scope y)
  (hc:X.calm=ν) (hI:PI X t iter W) (S:bu X.N X.env.scope c M U V)
  (hg:∀l C j s H,PG (bf X c M l C j s H) t g) (hi:∀l C j s H,PF (bf X c M l C j s H) d Y) (he:∀l C j s H,PE (bf X c M l C j s H) E te)
  (r:swapsWith (.ListComp E [#[t,iter,d,0]] c p) (δ$ .Name y P) f.line X.env=pure ν:=by rfl)
  (hf:X.fn y=ν∨X.env.scope.names.lookup y=δ .local:=by first |exact .inl Z |exact .inr Z |assumption)
  (hs:∀x,foldedSetIterable iter X.env x=pure x:=by intro _;rfl):
  PS X (.Assign [.Name y P] (.ListComp E [#[t,iter,d,0]] c p) f) (λD σ H=>wg W U V g Y te σ H λv H1=>D.nx (σ.set i$ δ v) H1):=by
 intro pins s σ H D I h;rw[exec_Assign_Name_used _ _ _ _ r];refine Lr$ Nw$ Lr ?_;show π _ X.A (do let _ <- comprehension (.ListComp E [#[t,iter,d,0]] c p) c X.env _ (newList []) μ (eval iter X.env) (δ$ assign (.Name y P) X.env)) _ _ s;refine Lr (aU (R6 (use:=δ (assign (.Name y P) X.env)) (Q:=λ_ k=>SP X pins D .next k) Z hs (qJ$ Jh I S) S.kind S.loc
  (aU (hI pins s σ H _ I h) λxv s1 h1=>aU h1 λi0 s2 h2=>?_)) λ_ k hq=>Lu (Lu hq))
 let⟨it,j,tn,J,H2,e,I2,T,u,f2,R⟩:=h2;subst e;refine KL (RR:=λB C=>compPost (χ X.prog X.w) X.A X.xe (δ$ assign (.Name y P) X.env) (λ_ k=>SP X pins D .next k) B C) I2 hc T u f2 S hg hi he R ?_;intro Dd C ys m H' k _ n I' F ns q;show π _ X.A (assign (.Name y P) X.env$ .ref Dd) _ _ k;refine TB$ Qt I' hN hy hx (v:=.ref Dd) Z (λG K hh=>?_) hf;let⟨a,sb,ha⟩:=hh;let L:C≠a:=by
  rcases ha with z |z
  .rw[z];exact F.2.1
  .exact Me$ F.2.2.2.2.1 _ _ z
 exact#[m,ns.sameBut sb L,λh' O=>#[_,_,K.turned (t':=G.toks) (λb o hb e=>(O.2 b hb).trans e) F.1 F.2.1 F.2.2.2.1 F.2.2.2.2.1 F.2.2.2.2.2,q Dd n]]
end
section
variable {X:Cx}
def Eu(i j:Int):Prop:=0 < j/\j<=1000000000000000000
theorem Ku:eW X (binaryOp .FloorDiv) (rI Eu λi j=>.int (i / j)):=Hi λi j _ _ _ _ _ h q=>by
 let b:(0:Int) < j:=h.1;let c:j<=1000000000000000000:=h.2;refine floordiv_int UK (by rw[Int.fdiv_eq_ediv_of_nonneg i UK];exact q)$ .inl$ PyProof.noPylong_of_log2 ?_;let H:j.natAbs≠0:=by omega
 let a:j.natAbs < 2 ^ 60:=by omega
 let d:j.natAbs.log2 < 60:=(Nat.log2_lt H).mpr a;omega
noncomputable def EN:V->Option ζ
 | .ty n=>δ (.type n)
 | .ref a=>↑a
 |_=>θ
theorem qx:cQ X (.builtin "isinstance") (λf H Q=>∃x y c t b,f=[x,y]/\EN y=δ c/\gI X.K H x t/\kitOne X.K t c=δ b/\Q (.bl b) H):=by
 intro p s i H f U Q I r h;let⟨x,y,c,t,b,rfl,d,ty,e,q⟩:=h;let⟨u,w,rfl,g,R⟩:=pQ r;let E:w=c:=by
  cases y with
  |ty n=>exact Sr R (Mh d)
  |ref a=>exact Sr R (Mh d)
  |_=>cases d
 subst E;exact ZW I g ty e λT=>#[.bl b,H,I.tok T,Z,q]
theorem qi:∀{Y:List ρ} {U:List ζ},ax (Y.map ri) U->StrsAre U Y
 | [],_,.nil=>.nil
 |y::r,_,.cons (b:=u) h t=>by obtain⟨T,e⟩:∃T,u=kw y T:=h;subst e;exact .cons y T$ qi t
theorem Q2:Hr X "str.join" (λx a H Q=>∃(z:ρ) (p:η) (y:List ρ),x= .str z/\a=[.ref p]/\aJ X.K H p (y.map ri)/\z.length<=16/\(y.map (·.length)).sum+y.length<=1048576/\Q (.str$ Txt.join z y) H):=by intro P s l H x a v U Q I r R h;let⟨z,p,y,rfl,rfl,b,c,d,q⟩:=h;let⟨u,rfl,e⟩:=dY R;cases e;let⟨t,rfl⟩:=r;let⟨i,f,g,j⟩:=I.list b;exact join_listW g.isList (by simpa using qi f) c d λT k=>#[.str _,H,I.tok k,#[_,Z],q]
noncomputable def sK:dr->Option V
 | .Constant (.str x) _ _=>δ (.str x)
 | .Constant (.int i) _ _=>δ (.int i)
 |_=>θ
theorem Dt(h:sK e=δ v):PE X e (tC v):=by
 cases e with
 |Constant c j p=>
  cases c with
  |str x=>cases h;exact jk
  |int i=>cases h;exact je
  |_=>cases h
 |_=>cases h
theorem vZ(h:sK e=δ v):Θ (e::a) E=(μ,eval e E)::Θ a E:=by
 cases e with
 |Constant c j p=>rfl
 |_=>cases h
noncomputable def oV(e:dr):Bool:=(sK e).isSome
noncomputable def p8(e:dr):V:=(sK e).getD .non
theorem JX:∀{E:List dr},E.all oV=ν->PA X E (λ_ H Q=>Q (E.map p8) H)
 | [],_=>jb
 |e::E,h=>by
  rw[Rz,MJ]at h;let⟨v,a⟩:=ly.mp (show(sK e).isSome=ν from h.1);let b:p8 e=v:=by unfold p8;rw[a];rfl
  rw[MU,b];exact ja (Dt a) (JX h.2)$ vZ a
theorem Q3{E:List dr}(y:List ρ)(h:(E.all oV&&decide (E.map p8=y.map ri))=ν):PA X E (λ_ H Q=>Q (y.map ri) H):=by rw[MJ]at h;let e:=Mu h.2;rw[<- e];exact JX h.1
theorem Z3{E:List dr}(h:E.all oV=ν):(E.map p8).all cR=ν:=by
 rw[OH]at h ⊢;intro v H;let⟨e,a,rfl⟩:=dw.mp H;let q:=h e a;unfold oV at q;unfold p8;cases e with
 |Constant c j p=>
  cases c with
  |str x=>rfl
  |int i=>rfl
  |_=>exact absurd q LD
 |_=>exact absurd q LD
def GK(t:TS):TS:=λD b H=>∃R:St->Hp->Prop,t { D with nx:=R } b H/\∀a h,R a h->D.nx a h
theorem j3{st:cv}{t:TS}(h:PS X st t):PS X st (GK t):=by
 intro p s b H D I c;let⟨R,d,e⟩:=c;refine aU (h p s b H _ I d) λf S q=>?_;cases f with
 |next=>let⟨a,g,i,q⟩:=q;exact#[a,g,i,e _ _ q]
 |brk=>exact q
 |cont=>exact q
 |ret v=>exact q
theorem xU{t:St}(h:t.length=1):∃v,t=[v]:=by
 cases t with
 |nil=>cases h
 |cons v r=>
  cases r with
  |nil=>exact#[v,Z]
  |cons _ _=>cases h
theorem XU{lo:Int}{t:TE}{Q:List V->Hp->Prop}(Pv:Nat->List V->Hp->Prop)(g:Pv 0 [] H)(j:n<=υ)(b:∀i Y h,Pv i Y h->Y.length<=i)
  (k:∀i Y h,i < n->Pv i Y h->t (δ (.int$ lo+i)::c) h λy d=>Pv (i+1) (Y++[y]) d) (l:∀Y h,Pv n Y h->Q Y h):
  eU (wM lo n) 1 c (bE 0) mJ t Q H:=by
 refine#[λi m Y h=>m=n - i/\i<=n/\Pv i Y h,#[n,UL,LF _,g],?_];rintro i m Y h ⟨rfl,q,p⟩;by_cases a:i < n
 .refine .inr #[a,M7 (b i Y h p)$ LH a j,Pv$ i+1,λo d P=>#[n - (i+1),UK,Z,a,P],λx d T f y=>?_];let⟨e,y⟩:=y;subst e y;let⟨v,rfl⟩:=xU f;exact#[#[[δ _],Z,Z],k i Y _ a p]
 .let e:i=n:=by omega
  subst e;exact .inl #[Lx _,l Y h p]
end
section
variable {κ:Type}[DecidableEq κ]
noncomputable def dN(K:List (κ×V))(k:κ):Option V:=(K.find? λa=>decide (a.1=k)).map (·.2)
noncomputable def bg(K:List (κ×V))(k:κ)(v:V):List (κ×V):=
 if (K.any λa=>decide (a.1=k))=ν then K.map (λa=>if a.1=k then (a.1,v) else a) else K++[(k,v)]
theorem Kv{p:κ×V}(e:p.1=k):dN (p::r) k=δ p.2:=by simp [dN,N0,e]
theorem Kw{p:κ×V}(e:¬p.1=k):dN (p::r) k=dN r k:=by simp [dN,N0,e]
theorem Xq(k:κ):∀K:List (κ×V),(K.any λa=>decide (a.1=k))=(dN K k).isSome
 | []=>rfl
 |p::r=>by
  rw[Oz];by_cases e:p.1=k
  .simp only[Kv e,LX e,TQ,Option.isSome_some]
  .rw[Kw e,LL e,Bool.false_or];exact Xq k r
theorem qy(K:List (κ×V))(k:κ)(v:V):(bg K k v).length<=K.length+1:=by
 unfold bg;split
 .rw[Lw];omega
 .rw[Ly,Md,P5];omega
theorem dQ.isSome_eq(r:dQ o u):o.isSome=u.isSome:=by
 cases o with
 |none=>cases u with
  |none=>rfl
  |some _=>exact(show False from r).elim
 |some _=>cases u with
  |none=>exact(show False from r).elim
  |some _=>rfl
theorem dQ.getD(r:dQ o u)(R:aF d D):aF (o.getD d) (u.getD D):=by
 cases o with
 |none=>cases u with
  |none=>exact R
  |some _=>exact(show False from r).elim
 |some _=>cases u with
  |none=>exact(show False from r).elim
  |some _=>exact r
theorem KV.val(r:KV a v)(k:κ):dQ (dN a k) (valueAt v k):=by
 unfold KV at r;induction r with
 |nil=>exact True.intro
 | @cons p q P Q h t i=>
  let⟨H,c⟩:=h;by_cases e:p.1=k
  .let E:q.1=k:=H.symm.trans e;let b:valueAt (q::Q) k=δ q.2:=by simp [valueAt,N0,E]
   rw[Kv e,b];exact c
  .let E:¬q.1=k:=λz=>e (H.trans z);let b:valueAt (q::Q) k=valueAt Q k:=by simp [valueAt,N0,E]
   rw[Kw e,b];exact i
theorem KV.any(r:KV a v)(k:κ):(a.any λK=>decide (K.1=k))=v.any λK=>decide (K.1=k):=by
 unfold KV at r;induction r with
 |nil=>rfl
 |cons h t i=>rw[Oz,Oz,i,h.1]
theorem KV.repl(r:KV a v)(k:κ)(R:aF y u):
  KV (a.map λK=>if K.1=k then (K.1,y) else K) (v.map λK=>if K.1=k then (K.1,u) else K):=by
 unfold KV at r ⊢;induction r with
 |nil=>exact .nil
 | @cons p q P Q h t i=>
  rw[MU,MU];refine .cons ?_ i;let⟨H,b⟩:=h;by_cases e:p.1=k
  .rw[LP e,LP$ H.symm.trans e];exact#[H,R]
  .rw[LV e,LV (λz=>e (H.trans z))];exact#[H,b]
theorem KV.put(r:KV a v)(k:κ)(R:aF y u):KV (bg a k y) (stored v k u):=by
 unfold bg stored;rw[r.any k];by_cases e:(v.any λK=>decide (K.1=k))=ν
 .rw[LP e,LP e];exact r.repl k R
 .rw[LV e,LV e];exact Paired.snoc r #[Z,R]
theorem KV.length(r:KV k v):k.length=v.length:=Paired.length r
end
theorem Qn{P:ψ}(r:aF (kV k) u):(a5 P w).is k u=ν:=by
 cases k with
 |inl i=>let⟨t,e⟩:=(show ∃t,u=hL i t from r);subst e;exact XS P w i t
 |inr x=>let⟨t,e⟩:=(show ∃t,u=kw x t from r);subst e;exact XT P w x t
theorem QD{P:ψ}:∀{K:List bM} {u:List ζ},ax (K.map kV) u->ItemsAre (a5 P w) K u
 | [],_,r=>by rw[Py]at r;cases r;exact .nil
 |k::K,_,r=>by
  rw[MU]at r;cases r with
  |cons h t=>exact .cons (Qn h) (QD t)
abbrev KT(H:Hp):List (List bM×V)->List (List bM×η×ζ)->Prop:=Paired λp q=>p.1=q.1/\H q.2.1=δ (.tup$ p.1.map kV)/\aF p.2 q.2.2
theorem KT.val(r:KT H a x)(k:List bM):dQ (dN a k) ((atKey x k).map (·.2)):=by
 induction r with
 |nil=>exact True.intro
 | @cons p q P Q h t i=>
  let⟨c,_,d⟩:=h;by_cases e:p.1=k
  .let E:q.1=k:=c.symm.trans e;let b:atKey (q::Q) k=δ q.2:=by simp [atKey,N0,E]
   rw[Kv e,b];exact d
  .let E:¬q.1=k:=λz=>e (c.trans z);let b:atKey (q::Q) k=atKey Q k:=by simp [atKey,N0,E]
   rw[Kw e,b];exact i
theorem KT.repl(r:KT H b x)(k:List bM)(R:aF y u):
  KT H (b.map λK=>if K.1=k then (K.1,y) else K) (x.map$ putAt k u):=by
 induction r with
 |nil=>exact .nil
 | @cons p q P Q h t i=>
  rw[MU,MU];refine .cons ?_ i;let⟨a,c,d⟩:=h;unfold putAt;by_cases e:p.1=k
  .rw[LP e,LP$ a.symm.trans e];exact#[a,c,R]
  .rw[LV e,LV (λz=>e (a.trans z))];exact#[a,c,d]
theorem KT.put(r:KT H a x)(k:List bM)(h:H b=δ (.tup$ k.map kV))(R:aF y u):
  KT H (bg a k y) (storedH x k b u):=by
 let e:(a.any λK=>decide (K.1=k))=(atKey x k).isSome:=by rw[Xq,(r.val k).isSome_eq,Sc]
 unfold bg storedH;rw[e];by_cases q:(atKey x k).isSome=ν
 .rw[LP q,LP q];exact r.repl k R
 .rw[LV q,LV q];exact Paired.snoc r #[Z,h,R]
theorem KT.keeps{h:Hp}(r:KT H k x)(a:∀b y,H b=δ (.tup y)->h b=δ (.tup y)):KT h k x:=
 Paired.mapP r λ_ _ z=>#[z.1,a _ _ z.2.1,z.2.2]
section
variable {P:ψ}{w:bU}{H:Hp}{h:cJ}{a:η}
theorem Bh(o:eV P w H h)(e:Rd H a u):aM P w H h a u:=e.ok o
theorem Kc(o:eV P w H h)(e:Rd H a (.dK k)):k.length<=υ/\(a==sysModules)=μ/\∃v,KV k v/\h.DictOf (a5 P w) a v:=
 show aM P w H h a (.dK k) from Bh o e
theorem EW(o:eV P w H h)(e:H a=δ (.dK k)):k.length<=υ/\(a==sysModules)=μ/\∃v,KV k v/\h.DictOf (a5 P w) a v:=Kc o (.inl e)
theorem Kj{k:List bM}(O:eV P w H h)(e:H a=δ (.tup$ k.map kV)):(tupleKind$ a5 P w).is h k a:=by let⟨_,i,r,o,b,c,n,d⟩:=(show aM P w H h a (.tup$ k.map kV) from O a _ e);exact#[o,i.toArray,n,b,c,d,by simpa using QD r]
theorem Qo(O:eV P w H h)(e:Rd H a (.dT k)):k.length<=υ/\(a==sysModules)=μ/\
  ∃X,KT H k X/\h.DictOfH (tupleKind$ a5 P w) a X:=by
 let⟨z,y,X,r,o,E,c,d,f,g,i,j⟩:=(show aM P w H h a (.dT k) from Bh O e);refine#[z,y,X,r,o,E,c,d,f,g,i,λx hx=>?_,j];let all:∀{l:List (List bM×V)} {m:List (List bM×η×ζ)},KT H l m->∀x∈m,(tupleKind$ a5 P w).is h x.1 x.2.1:=by
  intro l m q;induction q with
  |nil=>intro x hx;exact nomatch hx
  | @cons p q n Q b t I=>
   intro x hx;rcases Ξ.mp hx with e |hx
   .subst e;exact Kj O (by rw[<- b.1];exact b.2.1)
   .exact I x hx
 exact all r x hx
theorem EY(o:eV P w H h)(e:H a=δ (.dT k)):k.length<=υ/\(a==sysModules)=μ/\
  ∃x,KT H k x/\h.DictOfH (tupleKind$ a5 P w) a x:=Qo o (.inl e)
end
def fu(H:Hp)(a:η)(y:V)(r:Option V):Prop:=
 (∃K k,Rd H a (.dK K)/\y=kV k/\r=dN K k)∨∃K k b,Rd H a (.dT K)/\y= .ref b/\H b=δ (.tup$ k.map kV)/\r=dN K k
def lO(H:Hp)(a:η)(y v:V)(h:Hp):Prop:=
 (∃K k,H a=δ (.dK K)/\y=kV k/\K.length < υ/\h=af H a (.dK$ bg K k v))∨
 ∃K k b,H a=δ (.dT K)/\y= .ref b/\H b=δ (.tup$ k.map kV)/\K.length < υ/\h=af H a (.dT$ bg K k v)
theorem fu.k{H:Hp}{k:bM}(e:H a=δ (.dK b)):fu H a (kV k) (dN b k):=.inl #[b,k,.inl e,Z,Z]
theorem lO.k{H:Hp}{k:bM}(e:H a=δ (.dK b))(h:b.length < υ):lO H a (kV k) v (af H a$ .dK$ bg b k v):=.inl #[b,k,e,Z,h,Z]
section
variable {X:Cx}{pins:List (η×ge)}{σ:St}{H:Hp}{s:ι}{a:η}{y v:V}{u r:ζ}{o:Option V}{A:bS}{E:ζ->ι->Prop}
theorem au.big(I:au X pins σ H s):sysModules < s.heap.objs.size:=by let h:Δ < s.heap.objs.size:=(I.mod.glob.keeps I.bk).lt;exact Nat.lt_trans UJ h
theorem Z4{Q:ζ->ι->Prop}(m:A.units+1 < cLine)(I:au X pins σ H s)(g:fu H a y (δ v))(j:aF y u)(h:∀W S,au X pins σ H S->aF v W->Q W S):
  π (χ X.prog X.w) A (getItem (.ref a) u) Q E s:=by
 rcases g with ⟨K,k,e,d,l⟩ | ⟨K,k,b,e,d,n,l⟩
 .subst d;let⟨z,q,t,R,D⟩:=Kc I.hok e;let⟨W,f,c⟩:=dQ.some_of (v:=v) (o:=valueAt t k) (by rw[l];exact R.val k);exact wpAny_getItem_of (Qn j) D.mapOf f$ h W _ (I.tok _) c
 .subst d;cases (show u=ω b from j);let⟨z,q,x,R,D⟩:=Qo I.hok e;let⟨W,f,c⟩:=dQ.some_of (v:=v) (o:=(atKey x k).map (·.2)) (by rw[l];exact R.val k);let⟨p,B,i⟩:=dt.mp f;refine wpAny_getItem_heap (OD m) (Kj I.hok n) D B ?_;rw[i];exact h W _ (I.tok _) c
theorem HN{Q:ζ->ι->Prop}(i:A.units+1 < cLine)(I:au X pins σ H s)(g:fu H a y o)(f:aF y u)(h:∀S,au X pins σ H S->Q (.bool o.isSome) S):
  π (χ X.prog X.w) A (compareOp .In u$ .ref a) Q E s:=by
 rcases g with ⟨K,k,e,c,l⟩ | ⟨K,k,b,e,c,j,l⟩
 .subst c;let⟨z,d,m,R,D⟩:=Kc I.hok e;refine wpAny_in_of (Qn f) d D.mapOf ?_;rw[<- (R.val k).isSome_eq,<- l];exact h _$ I.tok _
 .subst c;cases (show u=ω b from f);let⟨z,d,x,R,D⟩:=Qo I.hok e;refine wpAny_in_heap (OD i) (Kj I.hok j) d D ?_;let q:=(R.val k).isSome_eq;rw[Sc]at q;rw[<- q,<- l];exact h _$ I.tok _
theorem Zf(I:au X pins σ H s)(m:EE (H a))(c:fv a s.heap h)(d:∃q,h.get? a=δ q)(n:aM X.prog X.w (af H a O) h a O):
  au X pins σ (af H a O) { s with heap:=h,toks:=t }:=
 I.write (x:=a) (e:=a) m (.inl Z) (λb q f z=>(c.2 b f).trans z) d n
theorem Ye{P:ψ}{h:cJ}{k:List (bM×V)}(z:k.length<=υ)(c:(a==sysModules)=μ)(R:KV k b)(d:h.DictOf (a5 P w) a b):
  aM P w e h a (.dK k):=#[z,c,b,R,d]
theorem Z5{Q:Unit->ι->Prop}(J:A.units+1 < cLine)(I:au X pins σ H s)(g:lO H a y v L)(x:aF y u)(B:aF v r)(h:∀S,au X pins σ L S->Q () S):
  π (χ X.prog X.w) A (setItem (.ref a) u r) Q E s:=by
 rcases g with ⟨K,k,e,i,l,j⟩ | ⟨K,k,b,e,i,C,l,j⟩
 .subst i j;let⟨z,m,M,R,D⟩:=EW I.hok e;let n:M.length<=υ:=by rw[<- R.length];exact z
  let p:(bg K k v).length<=υ:=by let:=qy K k v;omega
  refine wpAny_setItem_pairs (hsz:=n) (Qn x) D λF d t=>h _ ?_;let N:∃q,F.get? a=δ q:=let #[q,_,_,f,_]:=d;#[q,f]
  exact Zf I (by rw[e];exact True.intro) t N$ Ye p m (R.put k B) d
 .subst i j;cases (show u=ω b from x);let⟨z,m,O,R,D⟩:=EY I.hok e;let n:O.length<=υ:=by rw[<- Paired.length R];exact z
  let p:(bg K k v).length<=υ:=by let:=qy K k v;omega
  refine wpAny_setItem_heap (hsz:=n) (OD J) (Kj I.hok C) D λF d t=>h _ ?_;let⟨q,P,T,f,U,W,Y,_,h5⟩:=d;refine Zf I (by rw[e];exact True.intro) t #[q,f] #[p,m,_,(R.put k C B).keeps λc ys G=>?_,q,P,T,f,U,W,Y,h5];rw[ji$ jO G e (λz=>nomatch z)];exact G
end
def EF(i:dr):Prop:=∀o I,subscripted i μ o I=operate [o,I] (getItem o I)
theorem Ak{id:String}
  (k:typeLookup (.type T) "__getitem__"=pure (δ$ .builtin id)) (l:EF a)
  (h:π (χ p w) A (eval v e) (λo b=>π (χ p w) A (eval a e) (λi S=>S.TypeIs o T/\π (χ p w) A (getItem o i) Q E S) E b) E s):
  π (χ p w) A (eval (.Subscript v a m) e) Q E s:=by
 refine RT$ Mp h (λo b d=>Mp d (λi S H=>?_) λ_ _ x=>x) λ_ _ x=>x;let⟨j,H⟩:=H;unfold subscriptTail;refine Lr ?_;rw[getitemInPython_of_ne j.not_modules];refine Lr$ Ng j k ?_;let f:π (χ p w) A (subscripted a μ o i) (λr c=>π (χ p w) A (letTemporaryGo v o r >>= λ_=>pure r) Q E c) E S:=by rw[l o i];exact wpAny_operating$ Mp H (λr c g=>Lr (wpAny_letTemporaryGo$ Lu g)) λ_ _ x=>x
 first
  |exact Lu (Lr f)
  |exact Lr (Lu (Lr f))
  |exact Lr f
theorem XV{X:Cx}(I:au X p c H s)(g:fu H a y o):s.TypeIs (.ref a) "dict":=by
 rcases g with ⟨K,k,e,_,_⟩ | ⟨K,k,b,e,_,_,_⟩
 .let⟨_,_,v,_,d⟩:=Kc I.hok e;exact d.typeIs
 .let⟨_,_,x,_,d⟩:=Qo I.hok e;exact d.typeIs
inductive wj(Q:VK)(x y:V)(b:Hp):Prop
 |mk(a v:_)(_:x= .ref a)(_:fu b a y (δ v))(_:Q v b)
def GG(t T:TE):TE:=λa H Q=>t a H λx h=>T a h (wj Q x)
inductive Bs(Q:VK)(y x:V)(b:Hp):Prop
 |mk(a o:_)(_:x= .ref a)(_:fu b a y o)(_:Q (.bl o.isSome) b)
def Iu(t T:TE):TE:=λa H Q=>t a H λy h=>T a h (Bs Q y)
inductive uY(D:a7)(d:St)(v x y:V)(b:Hp):Prop
 |mk(a c:_)(_:x= .ref a)(_:lO b a y v c)(_:D.nx d c)
def uX(t T b:TE):TS:=λD a H=>b a H λv h=>t a h λx c=>T a c (uY D a v x)
section
variable {X:Cx}{o i e value:dr}{pos pos' tpos:Pos}{td ty tv:TE}
theorem yC(d:X.A.units+1 < cLine)(f:PE X o td)(j:PE X i ty)(k:EF i):PE X (.Subscript o i pos) (GG td ty):=by intro p s b H Q I h;refine Ak PySem.F.slot_dict_getitem.lookup k$ aU (f p s b H _ I h) λu S #[x,l,m,R,q]=>aU (j p S b l _ m q) λC D z=>?_;let⟨y,n,c,t,a,v,E,g,w⟩:=z;subst E;obtain rfl:u=ω a:=R;exact#[XV c g,Z4 d c g t λW G B r=>#[v,n,B,r,w]]
theorem Dq(c:X.A.units+1 < cLine)(d:PE X i ty)(f:PE X o td):PC X .In i o (Iu ty td):=by intro p s b H Q I h;refine aU (d p s b H _ I h) λv S #[y,j,k,r,q]=>aU (f p S b j _ k q) λu w z=>?_;let⟨x,l,m,R,a,O,E,g,n⟩:=z;subst E;obtain rfl:u=ω a:=R;exact HN c m g r λB t=>#[.bl O.isSome,l,t,Z,n]
theorem qc(c:X.A.units+1 < cLine)(d:PE X o td)(f:PE X i ty)(j:PE X value tv)(k:swapsWith value (δ$ .Subscript o i pos') pos.line X.env=pure μ):
  PS X (.Assign [.Subscript o i pos'] value pos) (uX td ty tv):=by
 intro p s b H D I h;refine wpAny_Assign_Subscript (aU (j p s b H _ I h) λr S #[v,l,m,R,q]=>aU (d p S b l _ m q) λu n #[x,t,w,B,Q]=>aU (f p n b t _ w Q) λL M z=>?_) k;let⟨y,N,C,E,a,F,G,g,J⟩:=z;subst G;obtain rfl:u=ω a:=B;exact Z5 c C g E R λO K=>#[b,F,K,J]
end
theorem sR{P:ψ}(h:cJ)(a:sysModules < h.objs.size):aM P w H (h.push { cls:=.type "dict",data:=.dict (ε []) }) h.objs.size (.dK []):=
 #[LF _,beq_eq_false_iff_ne.mpr$ Me$ LC a,[],.nil,RM h]
def D6:TE:=λ_ H Q=>∀p,H p=θ->Q (.ref p) (af H p$ .dK [])
section
variable {X:Cx}{pos:Pos}
theorem Xr:PE X (.Dict [] [] pos) D6:=λp s b H Q I h=>
 wpAny_Dict_empty #[.ref s.heap.objs.size,_,I.laid (a:=s.heap.objs.size) (o:=.dK []) (t':=s.toks) (λ_ _ q=>Lv _ q) (Lx _)$ sR s.heap I.big,Z,h _$ I.hok.fresh$ Lx _]
end
noncomputable def dh(k m:List (bM×V)):List (bM×V):=m.foldl (λa K=>bg a K.1 K.2) k
theorem KV.merge:∀{m:List (bM×V)} {R:List (bM×ζ)} {k:List (bM×V)} {v:List (bM×ζ)},KV m R->KV k v->KV (dh k m) (merged v R):=by
 intro m R k v r;unfold KV at r;induction r generalizing k v with
 |nil=>intro q;exact q
 | @cons p q P Q h t i=>
  intro a;let e:KV (bg k p.1 p.2) (stored v q.1 q.2):=by let:=a.put p.1 h.2;rw[<- h.1];exact this
  exact i e
theorem qK:∀(m k:List (bM×V)),(dh k m).length<=k.length+m.length
 | [],k=>by show k.length<=k.length+0;omega
 |p::r,k=>by let h:=qK r (bg k p.1 p.2);let H:=qy k p.1 p.2;show(dh (bg k p.1 p.2) r).length<=_;rw[Md];omega
structure M2(X:Cx)(o:dr)(m:ρ)(apos:Pos)(e f:dr)(cpos:Pos):Prop where
 base:attributeBase o m X.env (eval o X.env)=eval o X.env
 few:((fx cpos$ Θ [e,f] X.env).all (λx=>!x.1)&&(backToKw cpos$ keywordEach [] X.env).all (λx=>x.1.isSome)
  &&decide (([e,f]:List dr).length+([]:List Keyword).length+(if ([]:List Keyword).isEmpty then 0 else 1) < 30))=ν
 line:(apos.endLine==cpos.line)=ν
 trees:fx cpos (Θ [e,f] X.env)=[(μ,eval e X.env),(μ,eval f X.env)]
def IF(H:Hp)(a:η):Prop:=(∃k,Rd H a$ .dK k)∨∃k,Rd H a (.dT k)
theorem Cw{X:Cx}(I:au X p g H s)(d:IF H a):
  s.TypeIs (.ref a) "dict"/\(∀b,ω a= .ref b->∃o,s.heap.get? b=δ o/\o.dict=θ)/\(a==sysModules)=μ:=by
 rcases d with ⟨k,e⟩ | ⟨k,e⟩
 .let⟨_,h,v,_,D⟩:=Kc I.hok e;refine#[D.typeIs,λb q=>?_,h];cases q;let⟨o,_,_,c,f,_⟩:=D;exact#[o,c,f.2.1]
 .let⟨_,h,x,_,D⟩:=Qo I.hok e;refine#[D.typeIs,λb q=>?_,h];cases q;let⟨o,_,_,c,f,_⟩:=D;exact#[o,c,f.2.1]
section
variable {X:Cx}{pins:List (η×ge)}{σ:St}{H:Hp}{s:ι}{a:η}{y d:V}{u r:ζ}{o:Option V}{A:bS}{E:ζ->ι->Prop}
theorem BX{Q:ζ->ι->Prop}(m:A.units+1 < cLine)(I:au X pins σ H s)(g:fu H a y o)(i:aF y u)(j:aF d r)(h:∀W S,au X pins σ H S->aF (o.getD d) W->Q W S):
  π (χ X.prog X.w) A (call (.builtin "dict.get") [.ref a,u,r]) Q E s:=by
 rcases g with ⟨K,k,e,c,l⟩ | ⟨K,k,b,e,c,n,l⟩
 .subst c;let⟨z,f,v,R,D⟩:=Kc I.hok e;refine call_meetsIn OM D.typeIs Ro (Ri _ _ _) (meets_dict_get_default (a5 X.prog X.w) a (Qn i) f r) #[_,D.mapOf,h _ _ (I.tok _) ?_];rw[l];exact(R.val k).getD j
 .subst c;cases (show u=ω b from i);let⟨z,f,x,R,D⟩:=Qo I.hok e;refine call_meetsIn OM D.typeIs Ro (Ri _ _ _) (meetsH_dict_get_default (tupleKind$ a5 X.prog X.w) a b f r) #[OD m,k,x,Kj I.hok n,D,h _ _ (I.tok _) ?_];rw[l];exact(R.val k).getD j
end
inductive pN(d c:TE)(e:St)(Q:VK)(x:V)(b:Hp):Prop
 |mk(a:_)(_:x= .ref a)(_:IF b a)(_:d e b λy H2=>c e H2 λz H3=>∃o,fu H3 a y o/\Q (o.getD z) H3)
def D5(t T b:TE):TE:=λa H Q=>t a H (pN T b a Q)
section
variable {X:Cx}{o e f:dr}{apos cpos:Pos}{td ty tx:TE}
theorem Kx(j:X.A.units+1 < cLine)(k:PE X o td)(l:PE X e ty)(n:PE X f tx)(m:M2 X o "get" apos e f cpos):PE X (.Call (.Attribute o "get" apos) [e,f] [] cpos) (D5 td ty tx):=by
 intro p s b H Q I h;refine wpAny_Call_method m.base m.few m.line PySem.F.plainAttrs_dict OM PySem.F.type_dict_get$ aU (k p s b H _ I h) λu S c=>?_;let⟨x,q,i,R,a,E,d,t⟩:=c;subst E;obtain rfl:u=ω a:=R;let⟨T,v,_⟩:=Cw i d;refine#[T,v,?_];rw[m.trees];refine OQ Z (RW (Nk (aU (l p S b q _ i t) λO w #[y,B,C,D,G]=>
  Nk (aU (n p w b B _ C G) λP U #[z,J,K,L,V,g,M]=>NG ?_))))
 exact BX j K g D L λW Y N r=>#[_,J,N,r,M]
end
section
variable {X:Cx}{pins:List (η×ge)}{σ:St}{H:Hp}{s:ι}{a:η}{kvs:List (bM×V)}{A:bS}{E:ζ->ι->Prop}
theorem sO{Q:ζ->ι->Prop}(I:au X pins σ H s)(e:Rd H a (.dK kvs))(h:∀p S,H p=θ->au X pins σ (af H p$ .dK kvs) S->Q (.ref p) S):π (χ X.prog X.w) A (call (.type "dict") [.ref a]) Q E s:=by let⟨z,f,v,r,D⟩:=Kc I.hok e;refine kt_call_dict f D (by rw[<- r.length];exact z) λi d g=>?_;refine h _ _ (I.hok.fresh$ Lx _)$ I.laid (a:=s.heap.objs.size) (o:=.dK kvs) (t':=s.toks) (λb q c=>?_) (Lx _)$ Ye z (beq_eq_false_iff_ne.mpr$ Me$ LC I.big) r d;exact(g.2 b$ LC$ Lz c).trans (Lv _ c)
end
section
variable {X:Cx}{pins:List (η×ge)}{σ:St}{H:Hp}{s:ι}
theorem sG(d:X.calm=ν):cQ X (.builtin "sum") (λx H Q=>∃(p:η) (n:List Int),x=[.ref p]/\aJ X.K H p (n.map rm)/\Q (.int n.sum) H):=by
 intro pins s σ H x U Q I r h;let⟨p,n,rfl,e,q⟩:=h;let⟨u,rfl,R⟩:=dY r;cases R;let⟨i,f,P,k⟩:=I.list e;let b:=Yu f;let⟨x,c⟩:=b.allInts.items;let a:s.heap.IsList p (intItems x):=c▸P.isList;refine sum_intListG (I.ok.hd d) a λl t T g=>?_;let E:n=x.toList.map (·.1):=by rw[<- nums_intItems,<- c];exact(show numsOf i.toArray.toList=n from b.numsOf).symm
 let j:preSum (numAt x) x.size=n.sum:=by rw[preSum_eq,MP UL,E]
 rw[j];exact#[.int n.sum,H,I.kept g,#[_,Z],q]
theorem JD:cQ X (.type "dict") (λx H Q=>∃a k,x=[.ref a]/\H a=δ (.dK k)/\∀p,H p=θ->Q (.ref p) (af H p$ .dK k)):=by intro pins s σ H x U Q I r h;let⟨a,k,rfl,b,q⟩:=h;let⟨u,rfl,R⟩:=dY r;cases R;exact sO I (.inl b) λp S n i=>#[.ref p,_,i,Z,q p n]
end
section
open PySem.W PySem.Calls Builtin Builtin.ObjectAttr
variable {prog:ψ}{w:bU}{A:bS}{E:ζ->ι->Prop}{s:ι}{K:β}{x C:η}{ox:ge}{od:Option ge}{name:ρ}
theorem sE:builtinKind "BaseException.__getattribute__"=δ .slot:=by decide+kernel
theorem Z6:splitId "BaseException.__getattribute__"=δ ("BaseException","__getattribute__"):=by decide+kernel
theorem Cm{R:Result->ι->Prop}(X:K.In s.heap)(I:InstAt s.heap x ox C od)(H:mroIn K C (.type "BaseException")=δ ν)
  (h:π (χ prog w) A.in1 (ea.«object.__getattribute__» #[[.ref x,.str name t],[]]) (λa S=>match a with | .done f=>R (.ok f) S | .again c=>c.quiet=ν/\hY (χ prog w) A c R S) (λe S=>R (.error e) S) s):
  hY (χ prog w) A (.call (.builtin "BaseException.__getattribute__") #[[.ref x,.str name t],[]]) R s:=
 S3 PySem.F.excAttr_ValueError.ga.plain PySem.F.entry_bexc_ga
  (@check_slot (χ prog w) _ _ s "BaseException.__getattribute__" "BaseException" "__getattribute__" (.ref x) [.str name t] [] _ sE Z6 (I.type.andThen$ Rs X H) (PySem.F.args_bexc_ga (.ref x)$ .str name t) h)
theorem BQ{fill:Bool}(X:K.In s.heap)(I:InstAt s.heap x ox C od)(H:findIn K (.ref C) "__getattribute__"=δ (δ$ .builtin "BaseException.__getattribute__"))(a:findIn K (.ref C) "__getattr__"=δ θ)
  (b:mroIn K C (.type "BaseException")=δ ν)
  (h:π (χ prog w) A.in1 (ea.«object.__getattribute__» #[[.ref x,.str name T],[]]) (λf S=>match f with | .done (.ret v)=>π (χ prog w) A (handedOut v) Q E S |_=>False) (λ_ _=>False) s):
  π (χ prog w) A (getAttrBy (.ref x) (.str name T) fill e) Q E s:=by
 let⟨i,g,d,t,os⟩:=s;let L:=I.type (M:=χ prog w);let l:=looks_findIn (M:=χ prog w) X H;let _L:=looks_findIn (M:=χ prog w) X a;unfold getAttrBy;refine LI$ Lr$ L.at$ Lr$ l.at ?_;show π _ _ (getAttrByItsOwn _ _ _ _ _ _) _ _ _;unfold getAttrByItsOwn;refine Lr (show π _ _ (typeLookup (.ref C) "__getattr__") _ _ _ from _L.at ?_);refine Lr$ Nx$ LI ?_;let c:callGetattribute (.ref x) (.str name T) (.builtin "BaseException.__getattribute__") e=boundAndCalled (.builtin "BaseException.__getattribute__") (.ref x) (.str name T):=by cases e<;>rfl
 rw[c];unfold boundAndCalled;rw[PySem.F.excAttr_ValueError.ga.bind];refine Lr$ Lu$ OA$ Cm X I b$ Mp h (λf S z=>?_) λ_ _ z=>z.elim;rcases f with (_ |_ |_ |_) |_<;>first |exact z |exact z.elim
theorem Z7{Q:Option ζ->ι->Prop}(X:K.In s.heap)(I:InstAt s.heap x ox C od)(H:findIn K (.ref C) "__getattribute__"=δ (δ$ .builtin "BaseException.__getattribute__"))(a:findIn K (.ref C) "__getattr__"=δ θ)
  (b:mroIn K C (.type "BaseException")=δ ν) (c:findObj K C od "__class__"=δ (.bind (.builtin "getset_descriptor.__get__")$ .builtin "object.__class__")) (e:mroIn K C (.type "object")=δ ν) (h:Q (↑C) { s with toks:=s.toks+1 }):
  π (χ prog w) A (getAttr? (.ref x) "__class__") Q E s:=by
 unfold getAttr? getAttrBy?;refine Lr$ wpAny_mkText$ Lr$ Nx$ BQ (s:={ s with toks:=s.toks+1 }) X I H a b ?_;let⟨f,g,d,t,os⟩:=s;let L:=I.type (M:=χ prog w);let l:=looks_find (M:=χ prog w) X I c;refine Lr$ Lu$ Lr$ Lu$ Lr$ L.at$ Lr$ l.at ?_;show π _ _ (bindTo _ _ _ _) _ _ _;unfold bindTo;refine Lr$ LI$ OA$ class_get (ox:=ox) (od:=od) X I e ?_;refine Lu ?_;exact handed_on Z$ Lu h
theorem XX(h:(clsIn K C).isSome=ν)(H:findIn K (.ref C) name=δ (δ a))(b:specialIn K a "__get__"=δ (δ g))(c:takesIn K a=δ ν):findObj K C od name=δ (.bind g a):=by let⟨d,h⟩:=ly.mp h;unfold findObj;rw[h,Si,H,Si];simp [b,c]
structure lQ(K:β)(C:η):Prop where
 ga:findIn K (.ref C) "__getattribute__"=δ (δ$ .builtin "BaseException.__getattribute__")
 gh:findIn K (.ref C) "__getattr__"=δ θ
 sa:findIn K (.ref C) "__setattr__"=δ (δ$ .builtin "object.__setattr__")
 cl:findIn K (.ref C) "__class__"=δ (δ$ .builtin "object.__class__")
 gt:specialIn K (.builtin "object.__class__") "__get__"=δ (δ$ .builtin "getset_descriptor.__get__")
 tk:takesIn K (.builtin "object.__class__")=δ ν
 mb:mroIn K C (.type "BaseException")=δ ν
 mo:mroIn K C (.type "object")=δ ν
 hd:hasDictIn K C=ν
theorem Xs(c:lQ K C):KitX K (.ref x) (.ref C) (λh=>∃ox od,InstAt h x ox C od) where
 ty:=λ_ _ _ #[_,_,I]=>I.type
 it:=λ_ _ X _=>by
  let⟨a,H,_⟩:=UD c.hd;unfold clsIn at H;split at H
  .rename_i g D b S d
   intro l Q m o k q;unfold isType loadHead;exact Lr$ Pn (k _ _$ X _ _ d)$ Lu q
  .cases H
 ne:=λh t p i n r X f=>by
  let⟨a,H,_⟩:=UD c.hd;refine im.mpr λq=>?_;let e:C=t:=ω.inj (beq_iff_eq.mp q);subst e;unfold clsIn at H;split at H
  .rename_i g D b S d
   let z:=(X _ _ d).symm.trans f;cases z
  .cases H
 ca:=λX #[_,_,I] k=>Z7 X I c.ga c.gh c.mb (XX (by let⟨u,j,_⟩:=UD c.hd;rw[j];rfl) c.cl c.gt c.tk) c.mo k
abbrev pX:List ζ:=[.type "ValueError",.type "Exception",.type "BaseException",.type "object"]
end
section
open PySem.W PySem.Calls
variable {prog:ψ}{w:bU}{A:bS}{E:ζ->ι->Prop}{R:Result->ι->Prop}{K:β}{h:cJ}{g:Array GenState}{d:Drawn}{t:Nat}{os:OsState}{C B:η}
theorem Z8(q:excIn K C pX "ValueError.__new__"=ν):(∃p q N r f a s sub u c D k i j m o,K.lookup C=δ (excClassObj p q C N r f a s sub u c D k i j m o "ValueError.__new__")/\tailIn K pX f=ν/\nsOkIn K N=ν/\nsIn K N "__init__"=δ θ):=by
 unfold excIn at q;split at q
 .rename_i D z S F
  split at q
  .rename_i O f k i j m n o x y
   simp only[MJ,beq_iff_eq,SH]at q;obtain⟨⟨⟨⟨⟨rfl,rfl⟩,H⟩,G⟩,b⟩,e⟩:=q;let⟨p,r,M,I,Q,J,s,sub,u,c,L⟩:=z;dsimp only at x H b e;subst x H;let v:S=(ε [k,i,j,m,δ$ .builtin "ValueError.__new__",o]):=by let⟨l⟩:=S;simp only at y;rw[y]
   subst v;exact#[p,Q,I,r,f,J,s,sub,u,c,D,k,i,j,m,o,F,G,b,e]
  .cases q
 .cases q
end
theorem aM.obj{P:ψ}{a:η}(x:aM P w H h a o):∃u,h.get? a=δ u:=by
 cases o with
 |lst X=>let⟨_,_,_,_,e⟩:=x;exact#[_,e]
 |tup X=>let⟨_,_,_,o,e,_⟩:=x;exact#[_,e]
 |dK k=>let⟨_,_,_,_,o,_,_,e,_⟩:=x;exact#[_,e]
 |dT k=>let⟨_,_,_,_,o,_,_,e,_⟩:=x;exact#[_,e]
 |set S n=>let⟨o,_,_,_,e,_⟩:=x;exact#[_,e]
 |ins C d F=>let⟨_,_,_,e,_⟩:=x;exact#[_,e]
 |own y=>let⟨_,e⟩:=x;exact#[_,e]
 |xd F=>obtain⟨_,⟨_,_,_,e,_⟩,_⟩:=x;exact#[_,e]
 |rng lo b=>let⟨_,_,_,e⟩:=x;exact#[_,e]
 |frz O u=>let⟨e,_⟩:=x;exact#[_,e]
 |tbl p=>exact#[_,(show h.get? a=δ _ from x)]
 |met f y=>exact#[_,(show h.get? a=δ _ from x)]
 |ext c=>obtain⟨_,⟨_,e⟩,_⟩:=x;exact#[_,e]
theorem au.laidN{X:Cx}{h':cJ}{a:η}{o:HO}{t':Nat}(I:au X p g H s)(k:∀b u,s.heap.get? b=δ u->h'.get? b=δ u)(d:s.heap.get? a=θ)(N:aM X.prog X.w (af H a o) h' a o):
  H a=θ/\au X p g (af H a o) { s with heap:=h',toks:=t' }:=by
 let i:∀b u,s.heap.get? b=δ u->b≠a:=λb u q z=>by rw[z,d]at q;cases q
 let h:H a=θ:=by
  cases q:H a with
  |none=>rfl
  |some u=>let⟨U,e⟩:=(I.hok a u q).obj;rw[d]at e;cases e
 refine#[h,I.un ?_ ?_]
 .exact { keep:=λb u q _ _ _=>k b u q,slot:=λb u q _ _ _=>#[u.slots,k b u q],free:=λb u q n _=>by rw[ji$ i b u q];exact n,there:=λb u q _=>#[u,k b u q],tups:=λb x q=>by rw[ji$ jl q h];exact q,frzs:=λb u x q=>by rw[ji$ jl q h];exact q,tbls:=λb P q=>#[(ε []),by rw[ji$ jl q h,q];simp] }
 .intro b u e;by_cases f:b=a
  .subst f;rw[jc]at e;cases e;exact N
  .rw[ji f]at e;exact(I.hok b u e).stay (λc v _ q=>k c v q) (λc q=>by rw[ji$ jl q h];exact q) λc x q=>by rw[ji$ jl q h];exact q
noncomputable def Az(C:η)(d:Option η)(x:η):HO:=.ext λh=>∃o,h.get? x=δ o/\o.cls= .ref C/\notCls o=ν/\o.dict=d/\∃v,o.data= .fields v/\v[1]?=δ .none
theorem Cc{P:ψ}{h:cJ}(e:h.get? x=δ o)(a:o.cls= .ref C)(b:notCls o=ν)(c:o.dict=d)(f:∃v,o.data= .fields v/\v[1]?=δ .none):aM P w H h x (Az C d x):=
 #[#[o,e,a,b,c,f],#[o,e],λg i #[O,E,q] k=>#[O,k O E,q]]
def Ao(C:η):TE:=λa H Q=>∀x,H x=θ->Q (.ref x) (af H x$ Az C θ x)
section
variable {X:Cx}{CX:pR}{k:Nat}{f C:η}{fd:fy}{ps:List ρ}{sp:Sp}{E:XK}{x m g:ρ}{p pos pos':Pos}{e o value:dr}{es:List dr}{ta tv:TE}{t:TA}
theorem QE(M:excIn X.K C pX "ValueError.__new__"=ν)(l:fz X.K (.ref C)=ν)(n:Gl X x)(r:X.mg x=↑C)(c:(x==("__debug__":ρ))=μ:=by decide):
  PE X (.Call (.Name x p) [] [] pos) (Ao C):=by
 intro P s D H Q I h;refine Mt$ zJ I n r ?_ c;refine RI I.kIn l ?_;let⟨G,q,N,J,L,j,S,sub,O,u,R,U,V,Y,k3,k5,v,w,b,i⟩:=Z8 M;let y:=I.kIn _ _ v;let⟨hp,g,d,T,os⟩:=s;refine wpAny_call_exc_subT PySem.F.excBase_ValueError (PySem.W.tail_of_in I.kIn w) y (.of_isNs$ PySem.W.isNs_of_in I.kIn b) (PySem.W.nsMap_none_of_in I.kIn b i) (λh' e m=>?_)$ LF _;let⟨t,z,_,_⟩:=m.there;let⟨A,B⟩:=I.laidN (a:=e) (h':=h') (o:=Az C θ e) (t':=T) m.keeps m.new (Cc z Z Z Z #[_,Z,Z]);exact#[.ref e,_,B,Z,h e A]
end
theorem au.turnedN{X:Cx}{p:List (η×ge)}{d:St}{H:Hp}{s:ι}{g:cJ}{t':Nat}{f:List η}(I:au X p d H s)(a:∀b∈f,fQ X p H b)(k:∀b o,b∉f->s.heap.get? b=δ o->g.get? b=δ o):
  au X p d H { s with heap:=g,toks:=t' }:=by
 let N:∀b u,H b=δ u->b∉f:=λb u e z=>by rw[(a b z).1]at e;cases e
 refine I.step (g':=s.gens) (d':=s.drawn) (ch:=f) (λb i=>?_) (λb o _ _ h e _=>k b o h e) (λb o _ _ h e _=>#[o.slots,k b o h e]) (λ_ _ _ _ n=>n)
  (λb o h e=>#[o,k b o h e]) (λ_ _ e=>e) (λ_ _ _ e=>e) (λb P e=>#[(ε []),by rw[e];simp]) (λm j=>?_) (λb u e=>?_) I.bare
 .let⟨A,F,B,l,t,w⟩:=a b i;exact#[l,F,t,w]
 .let⟨o,E,x,y,r⟩:=j;exact#[o,E,x,k _ o (λz=>(a _ z).2.1 Z) y,r]
 .refine(I.hok b u e).stay (λc v h q=>k c v ?_ q) (λ_ q=>q) λ_ _ q=>q;rcases h with z |z
  .rw[z];exact N b u e
  .exact N c _ z
section
variable {M:Model}{A:bS}{E:ζ->ι->Prop}{s:ι}
structure df(fl:ζ)(lB:List η)(x:η)(ox:ge)(h h':cJ):Prop where
 ex:∃T oT ts,h.objs.size<=T/\h'.get? x=δ (gb (·.setIfInBounds 1 (.ref T)) ox)/\h'.get? T=δ oT/\oT.data= .fields ts/\ts[3]?=δ fl
 keep:∀b o,b∉lB->b≠x->h.get? b=δ o->h'.get? b=δ o
 slot:∀b o,b≠x->h.get? b=δ o->∃sl,h'.get? b=δ { o with slots:=sl }
theorem QF{Q:Unit->ι->Prop}
  (t:A.frames=δ (d::O)) (F:s.heap.FunFrames G (d::O)) (N:d.frame=δ L)
  (I:s.heap.get? x=δ u) (v:u.data= .fields J) (w:1 < J.size)
  (h:∀K,df (rawInt L) ((d::O).filterMap (·.frame)) x u s.heap K->Q () { s with heap:=K }):
  π M A (do let a <- frameOf d;let p <- entryPlaceOf L q;let b <- EntryCells.newEntry f a .none (rawInt L) .none p;setField (.ref x) 1 b) Q E s:=by
 let y:x∉(d::O).filterMap (·.frame):=λP=>by let⟨_,o,r,z⟩:=F.mem P;rw[I]at r;injection r with r;subst r;exact z J v
 refine Lr$ wpAny_frameOf_fun t F N λH c=>?_;refine Lr$ wpAny_entryPlaceOf λp B=>?_;unfold EntryCells.newEntry newFields;refine Lr$ Mm ?_$ B.sizeOk5 _ _ _ _ _;let g:H.get? x=δ u:=(c.2.1 x y).trans I;let i:=Lv (h:=H) { cls:=.type "traceback",dict:=θ,data:=.fields ([f,.ref L,.none,rawInt L,.none]++(if p.isEmpty then ic 6 Ψ else p)).toArray } g;refine Ms i v w$ h _ ?_;let C:H.objs.size≠x:=Mv (Lz g);let j:=Mf v (·.setIfInBounds 1 (ω H.objs.size));let l:=Mi (gb (·.setIfInBounds 1 (ω H.objs.size))) i (MN j);let k:∀b o,b≠x->H.get? b=δ o->((H.push { cls:=.type "traceback",dict:=θ,data:=.fields ([f,.ref L,.none,rawInt L,.none]++(if p.isEmpty then ic 6 Ψ else p)).toArray }).update x$ gb (·.setIfInBounds 1 (ω H.objs.size))).get? b=δ o:=λb o D e=>by rw[LO _ _$ Me D];exact Lv _ e
 let m:=(LO (H.push { cls:=.type "traceback",dict:=θ,data:=.fields ([f,.ref L,.none,rawInt L,.none]++(if p.isEmpty then ic 6 Ψ else p)).toArray })
  (gb (·.setIfInBounds 1 (ω H.objs.size))) (Me C)).trans (LB H Z)
 refine#[#[H.objs.size,_,_,PL c.1.symm,l,m,Z,UL],λb o D n e=>k b o n ((c.2.1 b D).trans e),λb o n e=>?_];let⟨S,R⟩:=c.2.2 b o e;exact#[S,k b _ n R]
theorem Yy{Q:Unit->ι->Prop}
  (H:A.frames=δ (e::o)) (i:s.heap.FunFrames b (e::o)) (a:e.frame=δ L)
  (c:s.heap.get? x=δ O) (d:O.data= .fields v) (f:v[1]?=δ .none)
  (h:∀g,df (rawInt L) ((e::o).filterMap (·.frame)) x O s.heap g->Q () { s with heap:=g }):
  π M A (noteFrame (.ref x) e) Q E s:=by
 unfold noteFrame;simp only[a];refine Lr$ LY c d f ?_;rw[LV UJ];exact QF H i a c d (bm.mp f).1 h
theorem CD{lB:List η}{Q:Unit->ι->Prop}(N:df C lB x O H s.heap)(j:H.get? x=δ O)(v:O.data= .fields w)(k:1 < w.size)
  (h:∀p,df .none lB x O H p->Q () { s with heap:=p }):π M A (setFlight (.ref x) θ) Q E s:=by
 let⟨T,D,F,c,r,t,g,y⟩:=N.ex;let l:=Mf v (·.setIfInBounds 1 (ω T));let m:T≠x:=λz=>absurd (LH (Lz j) (by rw[<- z];exact c)) (ML _);unfold setFlight;refine Lr$ LY r l (x:=.ref T) (by simp [k]) ?_;rw[LP (show(ω T != Ψ)=ν from by simp)];let i:=(bm.mp y).1;refine Ms t g i$ h _ ?_;let a:=Mf g (·.setIfInBounds 3 ((θ:Option η).elim Ψ λf=>rawInt f));let n:=Mi (gb (·.setIfInBounds 3 ((θ:Option η).elim Ψ λf=>rawInt f))) t (MN a);let u:∀b o,H.get? b=δ o->T≠b:=λb o e z=>absurd (LH (Lz e) (by rw[<- z];exact c)) (ML _);refine#[#[T,_,_,c,by rw[LO _ _ m];exact r,n,a,by simp [i]],λb o B d e=>?_,λb o d e=>?_]
 .rw[LO _ _$ u b o e];exact N.keep b o B d e
 .let⟨S,q⟩:=N.slot b o d e;exact#[S,by rw[LO _ _$ u b o e];exact q]
theorem XY{base:cJ}{Q:Unit->ι->Prop}
  (a:A.frames=δ (e::o)) (f:s.heap.FunFrames base (e::o)) (g:e.frame=δ L)
  (b:s.heap.get? x=δ O) (c:O.data= .fields v) (d:v[1]?=δ .none)
  (h:∀H,df .none ((e::o).filterMap (·.frame)) x O s.heap H->Q () { s with heap:=H }):
  π M A (leaving e$ .ref x) Q E s:=by
 unfold leaving;exact Lr$ Yy a f g b c d λH N=>CD (s:={ s with heap:=H }) N b c (bm.mp d).1 h
end
section
variable {M:Model}{A:bS}{E:ζ->ι->Prop}{s:ι}
noncomputable abbrev eE(T:η)(h:cJ):cJ:=h.update T (gb (·.setIfInBounds 3 Ψ))
theorem QG{base:cJ}{Q:Unit->ι->Prop}
  (f:A.frames=δ (e::O)) (w:s.heap.FunFrames base (e::O)) (j:e.frame=δ L)
  (k:s.heap.get? x=δ l) (m:l.data= .fields v) (p:v[1]?=↑T) (g:T≠x) (i:s.heap.get? T=δ y) (c:y.data= .fields t) (r:t[3]?=δ .none)
  (h:∀u,df (rawInt L) ((e::O).filterMap (·.frame)) x l (eE T s.heap) u->Q () { s with heap:=u }):
  π M A (noteFrame (.ref x) e) Q E s:=by
 unfold noteFrame;simp only[j];refine Lr$ LY k m p ?_;rw[LP (show(ω T != Ψ)=ν from by simp)];refine Lr$ LY i c r ?_;rw[LV (show ¬((Ψ==rawInt L)=ν) from by simp [rawInt])];refine Lr$ Ms i c (bm.mp r).1 ?_;let a:∀b,b≠T->(eE T s.heap).get? b=s.heap.get? b:=λb H=>LO _ _ (Me H);let n:∀b o,s.heap.get? b=δ o->(∀v,o.data≠ .fields v)->b≠T:=λb o H d q=>by rw[q,i]at H;injection H with H;subst H;exact d t c
 exact QF (s:={ s with heap:=eE T s.heap }) f (w.of_keeps λb o H d=>#[o,(a b$ n b o H d).trans H,Z]) j ((a x$ Me g).trans k) m (bm.mp p).1 h
theorem Yz{base:cJ}{Q:Unit->ι->Prop}
  (b:A.frames=δ (e::o)) (i:s.heap.FunFrames base (e::o)) (j:e.frame=δ L)
  (d:s.heap.get? x=δ O) (f:O.data= .fields v) (g:v[1]?=↑T) (H:T≠x) (k:s.heap.get? T=δ l) (c:l.data= .fields t) (m:t[3]?=δ .none)
  (h:∀a,df .none ((e::o).filterMap (·.frame)) x O (eE T s.heap) a->Q () { s with heap:=a }):
  π M A (leaving e$ .ref x) Q E s:=by
 unfold leaving;exact Lr$ QG b i j d f g H k c m λa N=>CD (s:={ s with heap:=a }) N ((LO _ _ H).trans d) f (bm.mp g).1 h
end
noncomputable def g9(C:η)(d:Option η)(T x:η):HO:=.ext λh=>∃o v,h.get? x=δ o/\o.cls= .ref C/\notCls o=ν/\o.dict=d/\o.data= .fields v/\v[1]?=↑T
noncomputable def gH(T:η):HO:=.ext λh=>∃o t,h.get? T=δ o/\o.data= .fields t/\t[3]?=δ .none
theorem Ec{P:ψ}{h:cJ}(e:h.get? x=δ o)(c:o.cls= .ref C)(f:notCls o=ν)(g:o.dict=d)(i:o.data= .fields a)(b:a[1]?=↑T):aM P w H h x (g9 C d T x):=
 #[#[o,a,e,c,f,g,i,b],#[o,e],λb j #[O,v,E,q] k=>#[O,v,k O E,q]]
theorem wz{P:ψ}{h:cJ}(e:h.get? T=δ o)(b:o.data= .fields a)(c:a[3]?=δ .none):aM P w H h T (gH T):=
 #[#[o,a,e,b,c],#[o,e],λd f #[O,t,E,q] k=>#[O,t,k O E,q]]
def c7(P:ψ)(w:bU):pR:=λo H s E e S=>∃x C d T h,e= .ref x/\S.os=s.os/\AllBare S.gens/\Un (lB o) [] H h s.heap S.heap/\eV P w h S.heap/\
 h x=δ (g9 C d T x)/\h T=δ (gH T)/\T≠x/\E (.ref C) d h
section
variable {X:Cx}{pins:List (η×ge)}{σ:St}{H:Hp}{s:ι}{x C:η}{d:Option η}
theorem df.hok{fl:ζ}(I:au X pins σ H s)(g:H x=δ (.ext M))(P:s.heap.get? x=δ o)(B:o.cls= .ref C)(D:o.dict=d)(j:o.data= .fields E)(k:1 < E.size)(l:∀b∈G,H b=θ)
  (N:df .none G x o s.heap J):∃T,H T=θ/\T≠x/\s.heap.objs.size<=T/\eV X.prog X.w (af (af H T$ gH T) x$ g9 C d T x) J:=by
 let⟨T,Q,R,h,m,F,n,p⟩:=N.ex;let i:H T=θ:=I.hok.fresh h;let r:T≠x:=Me (jl g i);let a:=Mf j (·.setIfInBounds 1 (ω T));refine#[T,i,r,h,λb u e=>?_];by_cases t:b=x
 .subst t;rw[jc]at e;cases e;refine Ec m ((N9 _ _).trans B) ?_ ?_ a (by simp [k])
  .unfold notCls;rw[a]
  .let⟨S,U,O,K⟩:=o;simp only at j;subst j;exact D
 .rw[ji t]at e;by_cases f:b=T
  .subst f;rw[jc]at e;cases e;exact wz F n p
  .rw[ji f]at e;refine(I.hok b u e).stay (λc v A q=>?_) (λc q=>?_) λc V q=>?_
   .let y:c≠x:=by
     rcases A with z |z
     .rw[z];exact t
     .exact jO z g (by intro q;cases q)
    refine N.keep c v (λL=>?_) y q;let:=l c L;rcases A with z |z
    .rw[z,e]at this;cases this
    .rw[z]at this;cases this
   .rw[ji$ jO q g (by intro z;cases z),ji$ jl q i];exact q
   .rw[ji$ jO q g (by intro z;cases z),ji$ jl q i];exact q
theorem df.un{h':cJ}(I:au X pins σ H s)(hex:X.ex=[])(j:H x=δ (.ext k))(l:H T=θ)(c:s.heap.objs.size<=T)(f:∀b∈p,b∈X.fs∨X.s₀.heap.objs.size<=b)
  (N:df .none p x y s.heap h'):Un X.fs [] X.H₀ (af (af H T$ gH T) x$ g9 C d T x) X.s₀.heap h':=by
 let g:∀b,H b=θ->b≠x:=λb e z=>by rw[z,j]at e;cases e
 let r:∀b o,X.s₀.heap.get? b=δ o->b≠T:=λb o e=>LC (LH (Lz e)$ LJ I.sz c);let a:∀b:η,b∉X.ex:=λb z=>by rw[hex]at z;cases z
 let t:∀b,H b=θ->b≠T->af (af H T$ gH T) x (g9 C d T x) b=θ:=λb e z=>by rw[ji$ g b e,ji z];exact e
 let U:∀b u,H b=δ u->(∀k,u≠ .ext k)->af (af H T$ gH T) x (g9 C d T x) b=δ u:=λb u e z=>by rw[ji (λq=>by rw[q,j]at e;cases e;exact z _ Z),ji$ jl e l];exact e
 refine#[λb o e n h _=>?_,λb o e n h _=>?_,λb o e n _=>?_,λb o e _=>?_,λb v e=>U b _ (I.base.tups b v e) (by intro _ q;cases q),λb o u e=>U b _ (I.base.frzs b o u e) (by intro _ q;cases q),λb P e=>?_]
 .refine N.keep b o (λz=>?_) (g b$ I.base.free b o e n$ a b)$ I.base.keep b o e n h$ a b;rcases f b z with q |q
  .exact h q
  .exact absurd (LH (Lz e) q)$ ML _
 .let⟨w,q⟩:=I.base.slot b o e n h (a b);let⟨S,Q⟩:=N.slot b _ (g b$ I.base.free b o e n$ a b) q;exact#[S,Q]
 .exact t b (I.base.free b o e n$ a b)$ r b o e
 .let⟨O,q⟩:=I.base.there b o e (a b);by_cases h:b=x
  .let⟨A,_,_,_,i,_⟩:=N.ex;exact#[_,by rw[h];exact i]
  .let⟨w,Q⟩:=N.slot b O h q;exact#[_,Q]
 .let⟨m,q⟩:=I.base.tbls b P e;exact#[m,U b _ q (by intro _ q;cases q)]
end
section
variable {P:ψ}{w:bU}{K:β}{mg:ρ->Option ζ}{base:cJ}{N:List ρ}{qual:ρ}{scope:hG}{f:η}{cd:ζ}{A:bS}{outer:List rc}{s₀:ι}{H₀:Hp}{E:XK}
variable {pins:List (η×ge)}{σ:St}{H:Hp}{s:ι}{x C:η}{d:Option η}
theorem wL(I:au (d9 (c7 P w) P w K mg base N qual scope f cd A outer s₀ H₀ E) pins σ H s)(c:H x=δ (Az C d x))
  (h:∀T,H T=θ->E (.ref C) d (af (af H T$ gH T) x$ g9 C d T x)):(d9 (c7 P w) P w K mg base N qual scope f cd A outer s₀ H₀ E).xe (.ref x) s:=by
 obtain⟨⟨O,l,q,t,r,v,m,n⟩,_⟩:=I.hok x _ c;let g:=(bm.mp n).1;refine XY (base:=base) I.ok.frames I.stack Z l m n λy o=>?_;let⟨T,p,a,i,j⟩:=o.hok (C:=C) (d:=d) (fl:=.none) I c l q r m g λb k=>I.stkFree b k;let u:=o.un (C:=C) (d:=d) I Z c p i λb k=>by
  rcases Ξ.mp (I.stkSub b k) with e |e
  .exact .inr (by rw[e];exact I.ok.above)
  .exact .inl e
 exact#[x,C,d,T,_,Z,I.os,I.bare,u,j,jc,by rw[ji a,jc],a,h T p]
theorem au.cleared{X:Cx}(I:au X pins σ H s)(c:H T=δ (gH T))(i:s.heap.get? T=δ O)(j:O.data= .fields t)(k:t[3]?=δ .none):au X pins σ H { s with heap:=eE T s.heap }:=by
 let h:=Mf j (·.setIfInBounds 3 Ψ);let g:=Mi (gb (·.setIfInBounds 3 Ψ)) i (MN h);let:=I.write (x:=T) (e:=T) (o:=gH T) (h':=eE T s.heap) (t':=s.toks) (by rw[c];exact True.intro) (.inl Z) (λb u a q=>(LO _ _$ Me a).trans q) #[_,g] (wz g h (by simp [(bm.mp k).1]));let l:af H T (gH T)=H:=by
  funext b;by_cases a:b=T
  .rw[a,jc,c]
  .rw[ji a]
 rw[l]at this;exact this
theorem At(I:au (d9 (c7 P w) P w K mg base N qual scope f cd A outer s₀ H₀ E) pins σ H s)(g:H x=δ (g9 C d T x))(n:H T=δ (gH T))(c:T≠x)
  (h:∀t,H t=θ->E (.ref C) d (af (af H t$ gH t) x$ g9 C d t x)):(d9 (c7 P w) P w K mg base N qual scope f cd A outer s₀ H₀ E).xe (.ref x) s:=by
 obtain⟨⟨O,V,o,D,G,F,p,q⟩,_⟩:=I.hok x _ g;obtain⟨⟨J,L,r,u,v⟩,_⟩:=I.hok T _ n;let i:=(bm.mp q).1;let y:=I.cleared n r u v;refine Yz (base:=base) I.ok.frames I.stack Z o p q c r u v λM z=>?_;let j:(eE T s.heap).get? x=δ O:=(LO _ _ c).trans o;let⟨t,B,a,k,l⟩:=df.hok (C:=C) (d:=d) (fl:=.none) y g j D F p i (λb m=>I.stkFree b m) z;let U:=df.un (C:=C) (d:=d) y Z g B k (λb m=>by
  rcases Ξ.mp (I.stkSub b m) with e |e
  .exact .inr (by rw[e];exact I.ok.above)
  .exact .inl e) z
 exact#[x,C,d,t,_,Z,I.os,I.bare,U,l,jc,by rw[ji a,jc],a,h t B]
theorem yB{j:XK}(m:∀x C d T t a,a x=δ (g9 C d T x)->a T=δ (gH T)->a t=θ->j (.ref C) d a->E (.ref C) d (af (af a t$ gH t) x$ g9 C d t x)):
  dC (c7 P w) (d9 (c7 P w) P w K mg base N qual scope f cd A outer s₀ H₀ E) j:=by
 intro pins σ H s e S I h;let⟨x,C,d,T,a,rfl,os,B,u,c,k,l,i,n⟩:=h;let⟨p,g,D,q,o⟩:=S;obtain rfl:o=s.os:=os;let r:=I.call (h':=p) (g':=g) (d':=D) (t':=q) (ch:=[]) u c B (λb z=>absurd z UL);exact At r k l i λt v=>m x C d T t a k l v n
end
section
open PySem.W
variable {prog:ψ}{w:bU}{A:bS}{E:ζ->ι->Prop}{K:β}{x C:η}{ox:ge}{vs:Array ζ}{env:rc}
theorem YA{ev:Sem ζ}(e:A.handled=θ)
  (h:π (χ prog w) A ev (λv S=>∃x C ox vs,v= .ref x/\K.In S.heap/\lQ K C/\typeIn K (.ref C)=δ (.type "type")/\S.heap.get? x=δ ox/\ox.cls= .ref C/\ox.data= .fields vs/\vs[1]?=δ .none/\E (.ref x) S) E s):
  π (χ prog w) A (raiseStmt env (δ ev) θ) Q E s:=by
 unfold raiseStmt;refine Lr$ Mp h (λv S a=>?_) λ_ _ z=>z;let⟨x,C,ox,vs,rfl,X,f,i,b,j,c,m,n⟩:=a;let⟨H,g,d,T,os⟩:=S;let L:Looks (χ prog w) H (typeOf$ .ref x) (.ref C):=j▸(UG b).andThen .now;let l:Looks (χ prog w) H (isType$ .ref x) μ:=by intro y B D F k q;unfold isType loadHead;refine Lr$ Pn (k _ _ b) ?_;rw[c];exact Lu q
 let _L:=Rs (M:=χ prog w) X f.mb;let o:=looks_typeIn (M:=χ prog w) X i;let p:Looks (χ prog w) H (isInstance (.ref x)$ .type "BaseException") ν:=L.andThen _L;let r:Looks (χ prog w) H (isExcClass$ .ref x) μ:=by unfold isExcClass;exact l.andThen .now
 let t:Looks (χ prog w) H (raisedInstance$ .ref x) (.ref x):=by unfold raisedInstance;exact L.andThen$ o.andThen (by rw[LP UJ];exact .now)
 let u:Looks (χ prog w) H (excFromValue (.ref x) "exceptions must derive from BaseException") (.ref x):=by unfold excFromValue;exact r.andThen (by rw[LV UJ];exact p.andThen (by rw[LP Z];exact .now))
 refine Lr$ Lu ?_;refine Lr$ LI$ u.at ?_;dsimp only;refine Lr$ l.at ?_;rw[LV UJ];refine Lr$ t.at ?_;unfold setFlight;refine Lr$ Lr$ LY b c m ?_;rw[LV UJ];exact Lu$ wpAny_raiseNew_none e n
end
def AA(X:Cx)(W:η->η->Option η->Hp->Prop):Prop:=∀(p:List (η×ge)) (a:St) (H:Hp) (s:ι) (x C:η) (d:Option η),au X p a H s->H x=δ (Az C d x)->W x C d H->X.xe (.ref x) s
theorem QH{P:ψ}{K:β}:
  AA (d9 (c7 P w) P w K m b N q s f g A o a c E) (λx C d H=>∀T,H T=θ->E (.ref C) d (af (af H T$ gH T) x$ g9 C d T x)):=
 λ_ _ _ _ _ _ _ I e h=>wL I e h
inductive ph(K:β)(b:η->η->Option η->Hp->Prop)(v:V)(a:Hp):Prop
 |mk(x C d:_)(_:v= .ref x)(_:a x=δ (Az C d x))(_:lQ K C)(_:typeIn K (.ref C)=δ (.type "type"))(_:b x C d a)
def DN(K:β)(t:TE)(W:η->η->Option η->Hp->Prop):TS:=λ_u0 a H=>t a H (ph K W)
theorem Xt{X:Cx}{e:dr}{t:TE}{P:Pos}{W:η->η->Option η->Hp->Prop}(f:X.calm=ν)(F:AA X W)(g:PE X e t):PS X (.Raise (δ e) θ P) (DN X.K t W):=by intro p s b H D I h;rw[arm_exec_Raise];refine Lr$ Nw ?_;refine YA (K:=X.K) (ev:=do let v <- eval e X.env;standAt P;pure v) (I.ok.hd f)$ Lr$ aU (g p s b H _ I h) λu S a=>Lr (Nw$ Lu ?_);let⟨v,j,i,r,x,C,d,ev,c,k,l,q⟩:=a;subst ev;obtain rfl:u=ω x:=r;obtain⟨⟨o,m,n,z,A,V,w,y⟩,_⟩:=i.hok x _ c;exact#[x,C,o,V,Z,i.kIn,k,l,m,n,w,y,F p b j S x C d i c q]
section
variable {X:Cx}{pins:List (η×ge)}{σ:St}{H:Hp}{s:ι}{x C:η}{d:Option η}
theorem au.noted{t':Nat}(I:au X pins σ H s)(a:H x=δ (.ext l))(p:s.heap.get? x=δ O)(r:O.cls= .ref C)(t:O.dict=d)(v:O.data= .fields w)(c:1 < w.size)
  (N:df .none (lB X.stack) x O s.heap y):∃T,H T=θ/\T≠x/\au X pins σ (af (af H T$ gH T) x$ g9 C d T x) { s with heap:=y,toks:=t' }:=by
 let⟨T,m,f,g,i⟩:=df.hok (C:=C) (d:=d) (fl:=.none) I a p r t v c (λb h=>I.stkFree b h) N;let j:∀b,H b=θ->b≠x:=λb e z=>by rw[z,a]at e;cases e
 let U:∀b u,H b=δ u->(∀l,u≠ .ext l)->af (af H T$ gH T) x (g9 C d T x) b=δ u:=λb u e z=>by rw[ji (λq=>by rw[q,a]at e;cases e;exact z _ Z),ji$ jl e m];exact e
 refine#[T,m,f,I.call (g':=s.gens) (d':=s.drawn) (ch:=[]) ?_ i I.bare (λb z=>absurd z UL)];refine#[λb o e n h _=>N.keep b o h (j b n) e,λb o e n _ _=>N.slot b o (j b n) e,λb o e n _=>?_,λb o e _=>?_,λb A e=>U b _ e (by intro _ q;cases q),λb o u e=>U b _ e (by intro _ q;cases q),λb P e=>#[(ε []),by rw[U b _ e (by intro _ q;cases q)];simp]]
 .rw[ji$ j b n,ji$ LC$ LH (Lz e) g];exact n
 .by_cases h:b=x
  .let⟨B,_,_,_,k,_⟩:=N.ex;exact#[_,by rw[h];exact k]
  .let⟨S,q⟩:=N.slot b o h e;exact#[_,q]
theorem Z9{v:V}{Q:Unit->ι->Prop}(I:au X pins σ H s)(R:X.N.Nodup)(B:X.N[i]?=δ n)(D:X.env.scope.names.lookup n=δ .local)(T:σ[i]?=δ (δ v))
  (h:∀S,au X pins (σ.set i θ) H S->Q () S):π M A (unbindBehindTheSuite X.env n U) Q E s:=by
 let⟨m,K,L⟩:=id I.loc;let g:(X.env.scope.kind== .class||(X.env.scope.kind== .module&&X.env.locals != X.env.globals))=μ:=by rw[I.ok.kind];rfl
 let⟨u,ru,lk⟩:=L i n v B T (.inl D);let W:m n=δ u:=by
  rcases lk with ⟨_,e⟩ | ⟨k,_⟩
  .exact e
  .let O:X.env.scope.names.lookup n=δ .cell∨X.env.scope.names.lookup n=δ .free:=k;rw[D]at O;rcases O with z |z<;>cases z
 let l:=I.cne;let⟨oL,_,_,Y,_⟩:=id K;unfold unbindBehindTheSuite;refine PQ$ wpAny_unbindName_local D K W g λh' w' F a=>h _ ?_;refine#[I.ok,I.os,I.bare,#[λb o e n G r=>?_,λb o e n G r=>?_,I.base.free,λb o e r=>?_,I.base.tups,I.base.frzs,I.base.tbls],#[_,F,λj y v' f w e3=>?_],λy c e=>?_,I.free,I.freeC,λp hp=>?_,λb ob e=>?_,by simpa using I.len]
 .exact(a.2 b$ LC$ LH (Lz e) I.ok.above).trans (I.base.keep b o e n G r)
 .let⟨sl,f⟩:=I.base.slot b o e n G r;exact#[sl,(a.2 b$ LC$ LH (Lz e) I.ok.above).trans f]
 .let⟨o',f⟩:=I.base.there b o e r;exact#[o',(a.2 b$ LC$ LH (Lz e) I.ok.above).trans f]
 .let t:i < σ.length:=by rw[I.len];exact(ξ.mp B).1
  by_cases J:j=i
  .subst J;rw[Nf t]at w;cases w
  .rw[Na$ Me J]at w;let⟨u',r',q⟩:=L j y v' f w e3;refine#[u',r',?_];rcases q with ⟨k,e⟩ | ⟨k,c,e,z⟩
   .refine .inl #[k,?_];let:y≠n:=λe=>J (Ks R f$ e▸B);simp [this,e]
   .exact .inr #[k,c,e,z.sameBut a$ l y c e]
 .let⟨w2,z⟩:=I.cell y c e;exact#[w2,z.sameBut a$ l y c e]
 .let⟨e,n,P,nf,d⟩:=I.pin p hp;exact#[(a.2 p.1 P).trans e,n,P,nf,d]
 .refine(I.hok b ob e).stay (λc w' hc q=>(a.2 c ?_).trans q) (λ_ q=>q) λ_ _ q=>q;rintro rfl;rcases hc with z |z
  .rw[<- z,I.free]at e;cases e
  .rw[I.free]at z;cases z
end
noncomputable abbrev Cx.mark(X:Cx)(e:ζ)(xe:ζ->ι->Prop):Cx:={ X with A:=X.A.mark (δ e),calm:=μ,xe:=xe }
theorem au.mark{X:Cx}(I:au X p a H s)(e:ζ)(x:ζ->ι->Prop):au (X.mark e x) p a H s:=
 #[#[I.ok.mod,I.ok.kind,I.ok.glob,I.ok.blt,I.ok.above,I.ok.inj,I.ok.has,I.ok.cab,(λz=>nomatch (show μ=ν from z)),I.ok.frames,I.ok.stk,I.ok.exf,I.ok.bs,I.ok.bsz,I.ok.noex,I.ok.exfs,I.ok.funs,I.ok.frf],I.os,I.bare,I.base,I.loc,I.cell,I.free,I.freeC,I.pin,I.hok,I.len]
theorem au.unmark{X:Cx}(o:X.Ok)(I:au (X.mark e x) p a H s):au X p a H s:=
 #[o,I.os,I.bare,I.base,I.loc,I.cell,I.free,I.freeC,I.pin,I.hok,I.len]
section
open PySem.W
theorem K8{K:β}(X:K.In h)(a:h.get? x=δ o)(b:o.cls= .ref C)(H:clsIn K B≠θ)(tB:typeIn K (.ref B)=δ (.type "type"))(m:mroIn K B (.type "BaseException")=δ ν)(c:mroIn K C (.ref B)=δ ν):
  Looks M h (excMatches (.ref x)$ .ref B) ν:=by
 let L:Looks M h (typeOf$ .ref x) (.ref C):=b▸(UG a).andThen .now;let l:=looks_typeIn (M:=M) X tB;let _L:Looks M h (isInstance (.ref B)$ .type "tuple") μ:=l.andThen (Ti tc_notTuple);let d:Looks M h (isType$ .ref B) ν:=by
  unfold clsIn at H;split at H
  .rename_i e
   intro A Q E s k q;unfold isType loadHead;exact Lr$ Pn (k _ _$ X _ _ e)$ Lu q
  .exact absurd Z H
 let f:Looks M h (isExcClass$ .ref B) ν:=by unfold isExcClass;exact d.andThen (by rw[LP Z];exact Rs X m)
 let g:=Rs (M:=M) X c;intro A Q E s k q;unfold excMatches;refine Lr$ _L A _ E s k ?_;rw[LV UJ];refine Lr$ Lu ?_;dsimp only;refine Lr ?_;rw[NC];refine Lr$ Lr$ f A _ E s k ?_;simp only[Od,LG,MT];refine Lu ?_;dsimp only;rw[Oo];refine Lu ?_;refine Lr$ L A _ E s k ?_;refine Lr ?_;rw[NC];refine Lr$ Lr$ g A _ E s k ?_;simp only[On];refine Lu$ Lu ?_;exact Lu q
end
abbrev XR:=η->η->Option η->η->Hp->Prop
def XW(X:Cx)(p:List (η×ge))(a:St)(R:XR)(e:ζ)(s:ι):Prop:=
 ∃x C d T H,e= .ref x/\au X p a H s/\H x=δ (g9 C d T x)/\H T=δ (gH T)/\T≠x/\R x C d T H
abbrev Eo:=St->Hp->VK->XR->Prop
abbrev Hv:=a7->XR->St->Hp->Prop
def G8(X:Cx)(e:dr)(t:Eo):Prop:=
 ∀(p:List (η×ge)) (s:ι) (a:St) (H:Hp) (Q:VK) (R:XR),au X p a H s->t a H Q R->π (χ X.prog X.w) X.A (eval e X.env) (EP X p a Q) (XW X p a R) s
def IL(X:Cx)(st:cv)(t:Hv):Prop:=
 ∀(p:List (η×ge)) (s:ι) (a:St) (H:Hp) (D:a7) (R:XR),au X p a H s->t D R a H->π (χ X.prog X.w) X.A (exec st X.env) (SP X p D) (XW X p a R) s
def IY(R:XR):XK:=λc d H=>∀x C T,c= .ref C->H x=δ (g9 C d T x)->H T=δ (gH T)->T≠x->R x C d T H
def D4(s:Sp)(d:List V)(t:TA):Eo:=λa H Q R=>t a H λv h=>s (v++d) h Q (IY R)
section
variable {X:Cx}{k:Nat}{f:η}{fd:fy}{ps:List ρ}{sp:Sp}{dvs:List V}{ds:List ζ}{x:ρ}{p pos:Pos}{e:dr}{es:List dr}{t:TA}{te:Eo}
theorem Xu(F:ah X.prog X.w X.K X.mg X.base (c7 X.prog X.w) k f fd ps sp)(y:bo k X.A)(D:Gl X x)(E:X.mg x=↑f)(G:fz X.K (.ref f)=ν)(J:aw X.K fd ps ds)(L:ax dvs ds)
  (M:PA X.nox (e::es) t) (g:(x==("__debug__":ρ))=μ:=by decide) (N:Θ (e::es) X.env=(μ,eval e X.env)::Θ es X.env:=by rfl) (j:(fx pos$ Θ es X.env).any (·.1)=μ:=by rfl):
  G8 X (.Call (.Name x p) (e::es) [] pos) (D4 sp dvs t):=by
 intro P s O H Q R I h;refine Mt$ zJ I D E ?_ g;refine Pg (h₀:=X.base) I.ok.mod.kin G (Mp (M pos P s O H _ (I.wish _) h) (λU S #[v,W,i,r,q]=>#[i.kIn,?_]) λ_ _ z=>z.elim) N j;let i:=i.unwish;let m:ax (v++dvs) (U++ds):=r.append L;let Y:(U++ds).length=ps.length:=by rw[<- m.length];exact F.len _ _ _ _ q
 refine OA$ NJ (F.run X.A X.stack S W #[U,[]] (U++ds) (v++dvs) Q (IY R) y i.env0 (J S U i.kIn Y) m q) λr s' a=>?_;cases r with
 |error e=>let⟨x,C,d,T,H',rfl,os,B,un,l,n,o,c,hw⟩:=a;exact#[x,C,d,T,H',Z,i.call' os un l B (λb z=>absurd z UL),n,o,c,hw x C T Z n o c]
 |ok fl=>
  cases fl with
  |ret u=>exact i.after a
  |next=>exact False.elim a
  |brk=>exact False.elim a
  |cont=>exact False.elim a
theorem Zg{i:Nat}{y:ρ}{P:Pos}(d:X.N.Nodup)(g:X.N[i]?=δ y)(j:pW X.env.scope y)(l:G8 X e te)(m:swapsWith e (δ$ .Name y P) pos.line X.env=pure μ:=by rfl)(n:X.fn y=ν∨X.env.scope.names.lookup y=δ .local:=by first |exact .inl Z |exact .inr Z |assumption):
  IL X (.Assign [.Name y P] e pos) (λD R b H=>te b H (λv c=>D.nx (b.set i$ δ v) c) R):=by
 intro a s b H D R I h;refine TC (aU (l a s b H _ R I h) λv S z=>?_) m;let⟨y,c,o,r,q⟩:=z;exact kn o d g j r (λw u=>#[_,c,u,q]) n
end
theorem qH{X:Cx}{Q:Unit->ι->Prop}(I:au X p d H s)(e:X.N.Nodup)(b:X.N[i]?=δ n)(c:X.env.scope.names.lookup n=δ .local)
  (h:∀S,au X p (d.set i θ) H S->Q () S):π M A (do bindName X.env n .none;unbindBehindTheSuite X.env n g) Q E s:=by
 let a:i < d.length:=by rw[I.len];exact(ξ.mp b).1
 refine Lr ?_;unfold bindName;refine Lr$ LI$ wpAny_point$ Lr$ kn (v:=.non) I e b (.inl c) Z (λl j=>wpAny_point ?_)$ .inr c;refine Z9 j e b c (v:=.non) (Nf a) λk f=>h k ?_;rw[List.set_set]at f;exact f
noncomputable def sD(i:Nat)(D:a7):a7:={ nx:=λa H=>D.nx (a.set i θ) H,rt:=D.rt,bk:=λa H=>D.bk (a.set i θ) H,ct:=λa H=>D.ct (a.set i θ) H }
def D8(K:β)(B:η)(i:Nat)(t:Hv)(b:TS):TS:=λD a H=>t D (λx C d _ h=>mroIn K C (.ref B)=δ ν/\∀T,h T=θ->b (sD i D) (a.set i$ ↑x) (af (af h T$ gH T) x$ g9 C d T x)) a H
section
variable {X:Cx}{st b₀:cv}{suite:List cv}{tb:Hv}{ts:TS}{cn n:ρ}{np hp pos:Pos}{B:η}{i:Nat}
theorem uK(a:X.stack=X.env::X.outer)(J:X.env.frame=δ X.env.locals)(hb:IL X st tb)(hg:Gl X cn)(hm:X.mg cn=↑B)(hB:clsIn X.K B≠θ)(tB:typeIn X.K (.ref B)=δ (.type "type"))(mB:mroIn X.K B (.type "BaseException")=δ ν)
  (m:X.N.Nodup) (o:X.N[i]?=δ n) (l:X.env.scope.names.lookup n=δ .local) (hs:∀e,mN (X.mark e λ_ _=>False) (b₀::suite) ts) (L:(cn==("__debug__":ρ))=μ:=by decide):
  PS X (.Try [st] [.ExceptHandler (δ$ .Name cn np) (δ n) (b₀::suite) hp] [] [] pos) (D8 X.K B i tb ts):=by
 intro p s W H D I h;refine wpAny_Try_except$ Rl$ Mp (hb p s W H D _ I h) (λf S q=>?_) λe S q=>?_
 .cases f with
  |next=>exact N7 (N7 q)
  |ret v=>exact q
  |brk=>exact q
  |cont=>exact q
 let⟨x,C,d,T,Y,rfl,r,hx,hT,u,mC,q⟩:=q;obtain⟨⟨ox,vs,h1,h2,h3,h4,M,h6⟩,_⟩:=r.hok x _ hx;obtain⟨⟨oT,tz,t1,t2,t3⟩,_⟩:=r.hok T _ hT;let w:=(bm.mp h6).1;let O:X.A.frames=δ (X.env::X.outer):=by rw[<- a];exact r.ok.frames
 let P:S.heap.FunFrames X.base (X.env::X.outer):=by rw[<- a];exact r.stack
 refine QG (base:=X.base) O P J h1 M h6 u t1 t2 t3 λg2 Nd=>?_;let E:(eE T S.heap).get? x=δ ox:=(LO _ _ u).trans h1;refine CD (s:={ S with heap:=g2 }) Nd E M w λg3 R=>?_;let⟨t,hn,F,b⟩:=(r.cleared hT t1 t2 t3).noted (C:=C) (d:=d) (t':=S.toks) hx E h2 h4 M w (by unfold lB;rw[a];exact R);let b:au X p W (af (af Y t$ gH t) x$ g9 C d t x) { S with heap:=g3 }:=b;obtain⟨⟨o1,v0,k1,k2,k3,k4,k5,k6⟩,_⟩:=b.hok x _ jc;let G:af (af Y t$ gH t) x (g9 C d t x) t=δ (gH t):=by rw[ji F,jc]
 obtain⟨⟨o2,t0,u1,u2,u3⟩,_⟩:=b.hok t _ G;refine wpAny_handleBy_cons (codeAny_handlers_test ?_) (by intro z;cases z);refine zJ (b.mark (.ref x) λ_ _=>False) hg hm ?_ L;refine K8 b.kIn k1 k2 hB tB mB mC _ _ _ _ (λ_ _ e=>e) ?_;refine codeAny_handlers_suite_as ?_;unfold setFlight;refine Lr$ LY k1 k5 k6 ?_;rw[LP (show(ω t != Ψ)=ν from by simp)];refine Ms u1 u2 (bm.mp u3).1 ?_;let I4:=b.cleared G u1 u2 u3;refine kn (v:=.ref x) I4 m o (.inl l) Z (λs5 I5=>?_)$ .inr l;refine Mp (hs (.ref x) p s5 _ _ (sD i D) (I5.mark (.ref x) λ_ _=>False)$ q t hn) (λf s6 Q=>?_) λ_ _ z=>z.elim;cases f with
 |next=>let⟨c,U,g,j⟩:=Q;exact qH (g.unmark I.ok) m o l λV k=>#[_,_,k,j]
 |brk=>let⟨c,U,g,j⟩:=Q;exact qH (g.unmark I.ok) m o l λV k=>#[_,_,k,j]
 |cont=>let⟨c,U,g,j⟩:=Q;exact qH (g.unmark I.ok) m o l λV k=>#[_,_,k,j]
 |ret v=>let⟨y,c,U,g,rv,j⟩:=Q;exact qH (g.unmark I.ok) m o l λV k=>#[y,_,_,k,rv,j]
end
def pT(H:Hp)(a C:η)(f:List (ρ×V)):Prop:=(f=[]/\∃T,H a=δ (g9 C θ T a))∨∃d T,H a=δ (g9 C (δ d) T a)/\H d=δ (.xd f)
section
variable {X:Cx}{pins:List (η×ge)}{σ:St}{H:Hp}{s:ι}{a C:η}{fs:List (ρ×V)}{f:ρ}{v:V}{A:bS}{E:ζ->ι->Prop}
theorem QI(I:au X pins σ H s)(e:pT H a C fs):∃g O,PySem.W.InstAt s.heap a g C O/\∀f v,fs.lookup f=δ v->∃o u,O=δ o/\aF v u/\lookIn f o=δ (δ u):=by
 rcases e with ⟨rfl,T,e⟩ | ⟨D,T,e,i⟩
 .obtain⟨⟨o,j,h,b,c,d,_⟩,_⟩:=I.hok a _ e;exact#[o,θ,#[h,b,c,by rw[d];trivial],λf v q=>nomatch q]
 .obtain⟨⟨o,j,h,b,c,d,_⟩,_⟩:=I.hok a _ e;let⟨m,n,r⟩:=(show aM X.prog X.w H s.heap D (.xd fs) from I.hok D _ i);let⟨O,k,l⟩:=Qw n;refine#[o,δ O,#[h,b,c,by rw[d];exact k],λf v q=>?_];let⟨u,p,R⟩:=dQ.some_of (v:=v) (o:=m f) (by rw[<- q];exact r f);exact#[O,u,Z,R,by rw[l,p]]
theorem zq:cQ X (.builtin "isinstance") (λx H Q=>∃a C fs y c b,x=[.ref a,y]/\EN y=δ c/\pT H a C fs/\lQ X.K C/\kitOne X.K (.ref C) c=δ b/\Q (.bl b) H):=by
 intro pins s σ H x U Q I r h;let⟨a,C,fs,y,c,b,rfl,d,g,i,e,q⟩:=h;let⟨u,w,rfl,j,R⟩:=pQ r;let k:w=c:=by
  cases y with
  |ty n=>exact Sr R (Mh d)
  |ref a=>exact Sr R (Mh d)
  |_=>cases d
 subst k;cases (show u=ω a from j);let⟨o,O,J,_⟩:=QI I g;exact Om (Xs i) I.kIn #[o,O,J] e (λz=>nomatch z) λt=>#[.bl b,H,I.tok t,Z,q]
end
theorem aQ.ok1{P:ψ}{K:β}{st:cv}{a:Sp}(F:aQ K x q st f g)(S:ak N p (aa st))
  (h:∀(c:ζ) (A:bS) (o:List rc) (s:ι) (H:Hp) (v:List V) (Q:VK) (E:XK),bo k (A.deeper$ envOfC q (aa st) s.heap.objs.size f c)->a v H Q E->
   ∃t,mN (d9 (c7 P w) P w K m b N q (aa st) f c A o s H E) (ba st) t/\t { nx:=λ_ i=>Q .non i,rt:=Q } (dJ N v) H)(len:∀v H Q E,a v H Q E->v.length=p.length:=by rintro _ _ _ _⟨⟩;subst_vars;rfl):ah P w K m b (c7 P w) (k+1) f g p a:=by
 let⟨l,n,kV,D,r,u,c,C,O,rfl,lk,d⟩:=F.ex;exact AS lk d S len λA o s H v Q E j e=>h c A o s H v Q E j e
end _L
namespace _L
open PySem PySem.Spec PyProof.Rows PySem.SeqAt
noncomputable def sU(x y:List V):Bool:=(fr$ min x.length y.length).all (λj=>nR (x.getD j .non) (y.getD j .non))&&x.length==y.length
section
variable {X:Cx}
theorem sf(r:ax x i)(R:ax y I)(f:x.all cR=ν)(F:y.all cR=ν)(j:Nat)(c:j < i.toArray.size)(d:j < I.toArray.size):EqAt A s i.toArray[j] I.toArray[j] (nR (x.getD j .non)$ y.getD j .non):=by
 let L:=r.length;let p:=R.length;let H:j < x.length:=by simp at c;omega
 let h:j < y.length:=by simp at d;omega
 let a:x[j]?=δ x[j]:=Ls H;let b:y[j]?=δ y[j]:=Ls h;let⟨u,q,g⟩:=r.get a;let⟨U,Q,k⟩:=R.get b;let l:=List.all_eq_true.mp f _ (Ob H);let m:=List.all_eq_true.mp F _ (Ob h);let E:i.toArray[j]=u:=by let⟨_,e⟩:=ξ.mp q;simpa using e
 let n:I.toArray[j]=U:=by let⟨_,e⟩:=ξ.mp Q;simpa using e
 let G:x.getD j .non=x[j]:=by rw[Mw,a];rfl
 let o:y.getD j .non=y[j]:=by rw[Mw,b];rfl
 rw[E,n,G,o];exact sT g k l m
theorem Dj(f:X.A.units < cLine):eW X (compareOp .Eq) (λx y H Q=>∃a b c Y,x= .ref a/\y= .ref b/\aC X.K H a c/\aC X.K H b Y/\c.all cR=ν/\Y.all cR=ν/\Q (.bl$ sU c Y) H):=by
 intro p s z H x y v u Q I g k h;let⟨a,b,c,Y,rfl,rfl,l,m,F,n,q⟩:=h;cases g;cases k;let⟨i,r,P,_⟩:=I.tuple l;let⟨d,R,o,_⟩:=I.tuple m;refine eq_tupleAt (e:=λj=>nR (c.getD j .non) (Y.getD j .non)) (show s.heap.IsTuple a i.toArray from P) (show s.heap.IsTuple b d.toArray from o) f (λj t w=>sf r R F n j t w) ?_;let e:((fr$ min i.toArray.size d.toArray.size).all (λj=>nR (c.getD j .non) (Y.getD j .non))&&i.toArray.size==d.toArray.size)=sU c Y:=by unfold sU;rw[LA,LA,<- r.length,<- R.length]
 rw[e];exact#[.bl _,H,I,Z,q]
end
end _L
namespace _L
open PySem PySem.Spec PyProof.Rows
section
variable {prog:ψ}{w:bU}{A:bS}{E:ζ->ι->Prop}{s:ι}
theorem YB{Q:Nat->ι->Prop}(H:n≠0)(h:∀i d,i < n->Q i { s with drawn:=d }):π (χ prog w) A (choose a n) Q E s:=by intro Γ p _;show Sem.wp _ Γ (.choose a n .pure) _ _ p s;rw[Sem.wp_choose];exact#[H,h _ _$ UF _$ Nat.pos_of_ne_zero H]
theorem XZ{α:Type}:∀(n:Nat) (xs:List α) (s:ι) {Q:List α->ι->Prop},xs.length=n->(∀ys d,ys.Perm xs->Q ys { s with drawn:=d })->
  π (χ prog w) A (drawOrder n xs) Q E s:=by
 intro n;induction n with
 |zero=>
  intro xs s Q hl h;cases xs with
  |nil=>unfold drawOrder;exact Lu$ h [] s.drawn .rfl
  |cons _ _=>cases hl
 |succ n ih=>
  intro xs s Q hl h;cases xs with
  |nil=>cases hl
  |cons x r=>unfold drawOrder;refine Lr$ YB UL λi d hi=>?_;let hg:(x::r)[i]?=δ ((x::r)[i]'hi):=Ls hi;rw[hg];dsimp only;refine Lr$ ih _ _ (by rw[Rj hi,hl];rfl) λys d' hp=>Lu (h _ d' ?_);refine(List.Perm.cons _ hp).trans ?_;rw[PM];refine List.perm_middle.symm.trans ?_;rw[OY,O8]
end
noncomputable def mM:ζ->ρ
 | .str x _=>x
 |_=>#[(ε [])]
theorem K9(t:SetTable)(n:Nat):(t.orStandIn n).led=t.led:=by
 unfold SetTable.orStandIn;split
 .rfl
 .rfl
theorem YC(t:SetTable)(e:Array (Int×ζ))(h:Int)(x:ζ):(layNew t e h x).2.1.led=t.led:=by
 unfold layNew;split
 .exact K9 _ _
 .rfl
theorem Xc(t:SetTable)(E:Array (Int×ζ))(n:Nat):(relayAll t E n).2.1.led=t.led:=by
 unfold relayAll;split
 .rename_i T o e
  unfold SetTable.relaid SetTable.laid at e;cases h:SetTable.layClean (SetTable.sizeAbove n - 1) (E.map (·.1)) with
  |none=>rw[h]at e;cases e
  |some O=>rw[h]at e;cases e;dsimp only;split<;>rfl
 .rfl
theorem KQ(t:SetTable)(E:Array (Int×ζ))(n:Nat)(H:t.plain=μ):(relayAll t E n).2.1.plain=μ:=by
 unfold relayAll;split
 .rename_i T o e
  unfold SetTable.relaid SetTable.laid at e;cases h:SetTable.layClean (SetTable.sizeAbove n - 1) (E.map (·.1)) with
  |none=>rw[h]at e;cases e
  |some O=>
   rw[h]at e;cases e;dsimp only;split
   .exact H
   .rfl
 .rfl
def cw(p:ψ)(w:bU)(h:cJ)(a:η)(L:List ρ):Prop:=
 ∃o E b t,h.get? a=δ o/\o.ExactSet/\o.data= .set E b t/\ElemsOf (de p w) E.toList/\(E.toList.map λe=>mM e.2).Perm L/\L.Nodup
  /\E.size < scanBound/\t.fits E.size=ν/\t.led=!(w.params.followText "set-order")/\(t.plain=μ∨E.size=0)
theorem cw.at{H:cJ}{a:η}(x:cw p w h a L)(e:∀o,h.get? a=δ o->H.get? a=δ o):cw p w H a L:=
 let #[o,E,b,t,c,r]:=x;#[o,E,b,t,e o c,r]
section
variable {prog:ψ}{w:bU}{A:bS}{E:ζ->ι->Prop}{s:ι}
theorem JK{a:Array (Int×ζ)}(b:ElemsOf (de prog w) a.toList)(x:ρ):
  (a.toList.findIdx? (λe=>(de prog w).is x e.2)=θ↔¬x∈a.toList.map λe=>mM e.2):=by
 rw[List.findIdx?_eq_none_iff];constructor
 .intro h m;let⟨e,H,f⟩:=dw.mp m;obtain⟨⟨k,g,_⟩,_⟩:=b e H;let⟨t,c⟩:=Of g;let q:=h e H;rw[c]at f q;let d:k=x:=f;subst d;let Q:(de prog w).is k (.str k t)=ν:=strKind_is prog w k t;rw[Q]at q;cases q
 .intro h e H;cases q:(de prog w).is x e.2 with
  |false=>rfl
  |true=>let⟨t,c⟩:=Of q;exact absurd (dw.mpr #[e,H,by rw[c];rfl]) h
theorem JL{b:Array (Int×ζ)}{T:SetTable}(d:s.heap.get? a=δ o)(f:o.ExactSet)(h:o.data= .set p c t)
  (g:ElemsOf (de prog w) b.toList) (i:(b.toList.map λe=>mM e.2).Perm L) (j:L.Nodup) (k:b.size < scanBound) (l:T.fits b.size=ν)
  (m:T.led=!(w.params.followText "set-order")) (n:T.plain=μ):
  (s.heap.update a$ lu b T).get? a=δ { o with data:=.set b (c+1) T }/\cw prog w (s.heap.update a$ lu b T) a L:=by
 let H:(s.heap.update a$ lu b T).get? a=δ { o with data:=.set b (c+1) T }:=by let q:=Mi (lu b T) d (by rw[putSet_of b T h];rfl);rwa [putSet_of b T h]at q
 exact#[H,_,b,c+1,T,H,f,Z,g,i,j,k,l,m,.inl n]
theorem X0{Q : Bool -> ι -> Prop}(hS : cw prog w s.heap a L)(room : L.length + 1 < scanBound)
    (h : ∀ b R l, fv a s.heap R -> cw prog w R a (if x ∈ L then L else L ++ [x]) -> s.toks <= l -> Q b { s with heap := R, toks := l }) :
    π (χ prog w) A (setAdd a$ .str x f) Q E s := by
  obtain ⟨o, g, ep, t, n, U, u, H, v, B, hb, V, X, Y⟩ := hS;let d : (de prog w).is x (.str x f) = ν := strKind_is prog w x f;let C : g.size = L.length := by rw [<- v.length_eq, Lw, LU]
  unfold setAdd;refine LI$ Lr ((de prog w).pyHash (k := x) d ?_);unfold setAddHashed setAddHashedIn;refine LI$ Lr$ Nc (s := { s with toks := s.toks + 1 }) n u V ?_;dsimp only;rw [byScan_of Z hb H];simp only [↓reduceIte];unfold setAddByScan;refine Lr$ Lr$ Nh$ Lr$ wpAny_setScan_of (knd := de prog w) d n u V H ?_;cases hr : List.findIdx? (λe => (de prog w).is x e.2) g.toList with
  | some j =>
    dsimp only;let D : x ∈ L := by refine Decidable.byContradiction λhn => ?_;let q := (JK (prog := prog) (w := w) H x).mpr λm => hn (v.mem_iff.mp m);rw [q] at hr; cases hr
    let q := h μ s.heap (s.toks + 1) (Rr a s.heap) (by rw [LP D]; exact #[o, g, ep, t, n, U, u, H, v, B, hb, V, X, Y]) (MZ _);exact Lu$ Lu q
  | none =>
    dsimp only;let D : ¬ x ∈ L :=λm => (JK (prog := prog) (w := w) H x).mp hr (v.mem_iff.mpr m);let W : ∀ (b : Bool) {S : ι} {Q' : Unit -> ι -> Prop}, Q' () S -> π (χ prog w) A (match b with | true => rule "set.scan.the-table-gave-way" | false => pure ()) Q' E S := by
      intro b S Q' hq;cases b
      · exact Lu hq
      · exact Nh hq
    let p := layNew_perm t g ((de prog w).hash x) (.str x f);let M := layNew_fits t g ((de prog w).hash x) (.str x f);let O := YC t g ((de prog w).hash x) (.str x f);generalize layNew t g ((de prog w).hash x) (.str x f) = N at p M O ⊢;obtain ⟨c, t1, w0, g4⟩ := N;dsimp only at p M O ⊢;rw [Ss] at p;let F : ElemsOf (de prog w) c.toList := (H.push d Z).perm p;let P : (c.toList.map λe => mM e.2).Perm (L ++ [x]) := by refine (p.map _).trans ?_;rw [Mc];exact v.append_right _
    let G : (L ++ [x]).Nodup := List.nodup_append.mpr #[B, by simp,λy hy z hz e => by rw [Pm] at hz; subst hz; subst e; exact D hy];let i8 : c.size = g.size + 1 := by rw [<- LU, p.length_eq, Ly, LU]; rfl
    let b1 : c.size < scanBound := by rw [i8, C]; exact room
    refine Lr$ W _ ?_;let i : ∀ T : SetTable, T.fits c.size = ν -> T.led = t.led -> T.plain = μ ->
        π (χ prog w) A (do
          storeSet a c T
          if (!w0 && T.tooFull) = ν then do
              (match (relayAll T c$ SetTable.grown c.size).2.2 with | true => rule "set.scan.the-table-gave-way" | false => pure ())
              storeSet a (relayAll T c$ SetTable.grown c.size).1 (relayAll T c$ SetTable.grown c.size).2.1
              pure (δ ν)
            else pure (δ ν)) (λr s' => r = δ ν /\ Q ν s') E { s with toks := s.toks + 1 } := by
      intro T g1 g2 g3;refine Lr$ Tx (s := { s with toks := s.toks + 1 }) n u ?_$ OX b1;obtain ⟨o1, S1⟩ := JL (s := s) (prog := prog) (w := w) n U u F P G b1 g1 (g2.trans X) g3;let I := M9 s.heap a (lu c T);split
      · have J := relayAll_perm T c (SetTable.grown c.size)
        let f2 := relayAll_fits T c (SetTable.grown c.size);let l2 := Xc T c (SetTable.grown c.size);let q2 := KQ T c (SetTable.grown c.size) g3;generalize relayAll T c (SetTable.grown c.size) = Z at J f2 l2 q2 ⊢;obtain ⟨K, t3, g0⟩ := Z;dsimp only at J f2 l2 q2 ⊢;let bL : K.size = c.size := by rw [<- LU, J.length_eq, LU]
        let b2 : K.size < scanBound := by rw [bL]; exact b1
        refine Lr$ W _$ Lr$ Tx (s := { s with heap := s.heap.update a (lu c T), toks := s.toks + 1 }) o1 Z ?_$ OX b2;obtain ⟨_, S2⟩ := JL (s := { s with heap := s.heap.update a (lu c T) }) (prog := prog) (w := w) o1 U Z (F.perm J) ((J.map _).trans P) G b2 f2 (l2.trans$ g2.trans X) q2;exact Lu #[Z, h ν _ _ (I.trans$ M9 _ a _) (by rw [LV D]; exact S2) (MZ _)]
      · exact Lu #[Z, h ν _ _ I (by rw [LV D]; exact S1) (MZ _)]
    split
    · rename_i tp
      refine Lr ?_;rw [hashByValue_scannable 8 (x := .str x f) Z];refine Lu ?_;let e0 : plainKind (.str x f) = μ := rfl;rw [e0];simp only [LG, ↓reduceIte];refine Mp (i { t1 with plain := μ } (SetTable.fits_plain_off M) O Z) (λr s' q => ?_) λ_ _ z => z;obtain ⟨rfl, q⟩ := q;exact Lu q
    · rename_i tp
      refine Lr$ Lu ?_;simp only [↓reduceIte];refine Mp (i t1 M O (by simpa using tp)) (λr s' q => ?_) λ_ _ z => z;obtain ⟨rfl, q⟩ := q;exact Lu q
end
noncomputable def bp(w:bU):ge:={ cls:=.type "set",dict:=θ,data:=.set (ε []) 0 (.fresh 0 0 (!(w.params.followText "set-order"))) }
section
variable {prog:ψ}{w:bU}{A:bS}{E:ζ->ι->Prop}{s:ι}
theorem X1{h:cJ}(e:h.get? a=δ (bp w)):cw prog w h a []:=
 #[_,(ε []),0,_,e,#[Z,Z,Z],Z,λ_ z=>by simp at z,UL,Pe,(by decide:(0:Nat) < scanBound),Z,Z,.inr Z]
theorem Qa(a:ζ){G:ζ->ι->Prop}(h:G (.ref s.heap.objs.size) { s with heap:=s.heap.push (bp w) }):
  hY (χ prog w) A (.call (.builtin "set.__new__") #[[.type "set",a],[]]) (wants G E) s:=by
 refine RE ?_;show π _ A.in1 (do checkBuiltinCall "set.__new__" _;again (.builtin "set.__new__" _)) _ _ s;refine Lr$ OU (PySem.F.newCall_set_1 a)$ Lu #[Ny Ry _,MX PySem.F.entry_set_new ?_];rw[My Ry];unfold ea.«set.__new__» Builtin.Frozenset.newClass;let o:=sub_set_self;let⟨H,g,d,t,os⟩:=s;dsimp only;wp_walk;refine NW$ Lu ?_;dsimp only;simp only[newObj];exact Lr$ wpAny_alloc$ Lu$ Lu h
end
theorem StrsAre.at':∀{V:List ζ} {s:List ρ},StrsAre V s->∀(i:Nat) (v:ζ),V[i]?=δ v->∃x t,s[i]?=δ x/\v= .str x t
 |_,_,.nil,i,v,h=>by simp at h
 |_,_,.cons y t r,0,v,h=>by simp at h;exact#[y,t,Z,h.symm]
 |_,_,.cons y t r,i+1,v,h=>by simp only[List.getElem?_cons_succ]at h;let⟨x,T,e,E⟩:=StrsAre.at' r i v h;exact#[x,T,by simpa using e,E]
theorem StrsAre.len:∀{v:List ζ} {s:List ρ},StrsAre v s->s.length=v.length
 |_,_,.nil=>rfl
 |_,_,.cons _ _ r=>by simp [StrsAre.len r]
theorem j8:Slot "set_iterator" "__next__" "set_iterator.__next__":=by
 refine .of (owner:="set_iterator") (n:="__next__") ?_ UM UM UM ?_ ?_
 .rw[MW,Mq];kernel_rfl
 .first |exact .inl UM |exact .inr UM
 .rw[Nb];kernel_rfl
theorem qm:Slot "set_iterator" "__iter__" "set_iterator.__iter__":=by
 refine .of (owner:="set_iterator") (n:="__iter__") ?_ UM UM UM ?_ ?_
 .rw[MW,Mq];kernel_rfl
 .first |exact .inl UM |exact .inr UM
 .rw[Nb];kernel_rfl
theorem JE:entryFor table "set_iterator.__next__"=δ ea.«set_iterator.__next__»:=Pb (by kernel_rfl)
theorem JF:entryFor table "set_iterator.__iter__"=δ ea.«dict_keyiterator.__iter__»:=by refine Pr (id':="dict_keyiterator.__iter__") ?_ Z UM ?_<;>kernel_rfl
theorem JR:entryFor table "set.__iter__"=δ ea.«frozenset.__iter__»:=by refine Pr (id':="frozenset.__iter__") ?_ Z UM ?_<;>kernel_rfl
theorem JS(a:ζ):argsOk "set_iterator.__next__" #[[a],[]]:=by unfold argsOk;kernel_rfl
theorem JT(a:ζ):argsOk "set_iterator.__iter__" #[[a],[]]:=by unfold argsOk;kernel_rfl
def bY(h:cJ)(I:η)(f:ζ)(i:Nat)(S:η)(n e:Nat):Prop:=
 ∃o,h.get? I=δ o/\o.cls= .type "set_iterator"/\o.data= .fields (ε [f,.int i 0,.ref S,.int n 0,.int e 0])
theorem bY.at{H:cJ}{i:Nat}{S:η}(x:bY h I f i S n E)(e:∀o,h.get? I=δ o->H.get? I=δ o):bY H I f i S n E:=
 let #[o,a,r]:=x;#[o,e o a,r]
theorem bY.is{s:ι}{S:η}(x:bY s.heap I f i S n e):s.TypeIs (.ref I) "set_iterator":=let #[o,h,H,_]:=x;#[o,h,H]
section
variable {prog:ψ}{w:bU}{A:bS}{E:ζ->ι->Prop}{s:ι}
theorem JY{c:Type}{Q:c->ι->Prop}(d:A.handled=θ)
  (h:∀H e,(∀b o,s.heap.get? b=δ o->H.get? b=δ o)->Shared.TypeIs { s with heap:=H } e "StopIteration"->E e { s with heap:=H }):
  π (χ prog w) A (do raiseNew (<- newExc (.type "StopIteration") []):Sem c) Q E s:=by
 refine Lr ?_;simp only[newExc,newTuple];refine Lr$ Mm ?_ (by size_fits);refine Lr (m:=firstArgMember _ _)$ OU (a:=Ψ) ?_ ?_
 .first |rfl | (simp only[firstArgMember];rfl)
 refine Mm ?_ (by size_fits);simp only[raiseNew];refine Lr$ wpAny_handled ?_;rw[d];refine Lr$ Lu$ wpAny_throw$ h _ _ (λb o e=>Lv _ (Lv _ e)) ?_;exact#[_,LB _ Z,Z]
theorem JZ{S:η}(H:bY s.heap I f i S n c)
  (h:π (χ prog w) A.in1 (ea.«set_iterator.__next__» #[[.ref I],[]]) (λF a=>∃v,F= .done (.ret v)/\Q (δ v) a) (λe a=>a.TypeIs e "StopIteration"/\Q θ a) s):
  π (χ prog w) A (pyNext$ .ref I) Q E s:=by
 unfold pyNext;refine Lr$ Nx$ Mj (name:=Str.ofString "__next__") H.is j8$ Mg j8 H.is JE ?_$ JS _;refine Mp h (λF a q=>?_) λe a q=>?_
 .let⟨v,e,q⟩:=q;exact#[v,e,Lu q]
 .exact Lr$ Nz (T:="StopIteration") (b:=ν) q.1 Pq$ Lu q.2
theorem QJ{I:η}{f:ζ}{i:Nat}{S:η}{n a:Nat}{o:ge}{v:Array ζ}(H:s.heap.get? I=δ o)(b:o.cls= .type "set_iterator")(h:o.data= .fields v)(k:Nat)(x:ζ)
  (e:v.setIfInBounds k x=(ε [f,.int i 0,.ref S,.int n 0,.int a 0])):bY (s.heap.update I$ gb (·.setIfInBounds k x)) I f i S n a:=
 #[_,Mi _ H$ MN$ Mf h _,(N9 ..).trans b,by rw[Mf h,e]]
theorem YD{I S P:η}{i:Nat}{O j:ge}{e:Array (Int×ζ)}{a:Nat}{t:SetTable}{k:Array ζ}{c p:Nat}{hx:Int}{x:ζ}{Q:Option ζ->ι->Prop}
  (h:bY s.heap I (.ref P) i S e.size a) (l:s.heap.get? S=δ O) (H:O.data= .set e a t) (m:t.fits e.size=ν) (n:s.heap.get? P=δ j) (b:j.data= .seq k c)
  (q:k[i]?=δ (.int p 0)) (r:e[p]?=δ (hx,x)) (u:∀d,bY d I (.ref P) (i+1) S e.size a->fv I s.heap d->Q (δ x) { s with heap:=d }):
  π (χ prog w) A (pyNext$ .ref I) Q E s:=by
 refine JZ h ?_;let⟨o,f,v,g⟩:=h;show π _ _ (fieldsOf (.ref I) >>= _) _ _ s;refine Lr$ Po f g ?_;dsimp only;refine Lr$ N4 l H m ?_;simp only[MY,LG,↓reduceIte];refine Lr$ Mz n b ?_;simp only[Mx,q];unfold setNextDrawn;refine Lr$ Lr$ Nc l H m ?_;simp only[MY,LG,↓reduceIte,r];refine Lu ?_;refine Lr$ Ms f g UL$ Lu #[x,Z,u _ ?_$ M9 ..];exact QJ f v g _ _ (by simp [rawInt])
theorem KR(q:A.handled=θ){I S P:η}{i:Nat}{O l:ge}{d:Array (Int×ζ)}{m:Nat}{t:SetTable}{p:Array ζ}{c:Nat}{Q:Option ζ->ι->Prop}
  (h:bY s.heap I (.ref P) i S d.size m) (r:s.heap.get? S=δ O) (f:O.data= .set d m t) (u:t.fits d.size=ν) (v:s.heap.get? P=δ l) (g:l.data= .seq p c)
  (x:p[i]?=θ) (y:∀H,(∀b o,b≠I->s.heap.get? b=δ o->H.get? b=δ o)->Q θ { s with heap:=H }):
  π (χ prog w) A (pyNext$ .ref I) Q E s:=by
 refine JZ h ?_;let⟨o,j,B,a⟩:=h;show π _ _ (fieldsOf (.ref I) >>= _) _ _ s;refine Lr$ Po j a ?_;dsimp only;refine Lr$ N4 r f u ?_;simp only[MY,LG,↓reduceIte];refine Lr$ Mz v g ?_;simp only[Mx,x];refine Lr$ Ms j a UL ?_;refine Lr$ Ms (Mi _ j$ MN$ Mf a _) (Mf a _) UL ?_;refine JY (s:={ s with heap:=_ }) (by simpa using q) λH e k T=>#[T,y H λb o n z=>k b o ?_];exact(LO _ _$ Me n).trans ((LO _ _$ Me n).trans z)
end
section
variable {prog:ψ}{w:bU}{A:bS}{E:ζ->ι->Prop}{s:ι}
theorem QK{I S:η}{i j nx:Nat}{O:ge}{e:Array (Int×ζ)}{a:Nat}{t:SetTable}{x:ζ}{Q:Option ζ->ι->Prop}
  (h:bY s.heap I (.int j 0) i S e.size a) (f:s.heap.get? S=δ O) (b:O.data= .set e a t) (k:t.fits e.size=ν)
  (l:∀(q:Option (ζ×Nat)->ι->Prop) m,q (δ (x,nx)) s->π (χ prog w) A.in1 (setNext S j i a) q m s)
  (n:∀c,bY c I (.int nx 0) (i+1) S e.size a->fv I s.heap c->Q (δ x) { s with heap:=c }):
  π (χ prog w) A (pyNext$ .ref I) Q E s:=by
 refine JZ h ?_;let⟨o,d,p,H⟩:=h;show π _ _ (fieldsOf (.ref I) >>= _) _ _ s;refine Lr$ Po d H ?_;dsimp only;refine Lr$ N4 f b k ?_;simp only[MY,LG,↓reduceIte];simp only[Mx];refine Lr$ l _ _ ?_;dsimp only;refine Lr$ Ms d H UL ?_;let g:=Mi (gb (·.setIfInBounds 0 (rawInt nx))) d (MN$ Mf H _);let D:=Mf H (·.setIfInBounds 0 (rawInt nx));refine Lr$ Ms g D UL$ Lu #[x,Z,n _ ?_ ((M9 ..).trans$ M9 ..)];exact QJ (s:={ s with heap:=_ }) g ((N9 ..).trans p) D _ _ (by simp [rawInt])
theorem qL(l:A.handled=θ){I S:η}{i j:Nat}{O:ge}{a:Array (Int×ζ)}{c:Nat}{t:SetTable}{Q:Option ζ->ι->Prop}
  (h:bY s.heap I (.int j 0) i S a.size c) (m:s.heap.get? S=δ O) (d:O.data= .set a c t) (n:t.fits a.size=ν)
  (p:∀(q:Option (ζ×Nat)->ι->Prop) r,q θ s->π (χ prog w) A.in1 (setNext S j i c) q r s)
  (u:∀H,(∀b o,b≠I->s.heap.get? b=δ o->H.get? b=δ o)->Q θ { s with heap:=H }):
  π (χ prog w) A (pyNext$ .ref I) Q E s:=by
 refine JZ h ?_;let⟨o,f,y,g⟩:=h;show π _ _ (fieldsOf (.ref I) >>= _) _ _ s;refine Lr$ Po f g ?_;dsimp only;refine Lr$ N4 m d n ?_;simp only[MY,LG,↓reduceIte];simp only[Mx];refine Lr$ p _ _ ?_;dsimp only;refine Lr$ Ms f g UL ?_;refine JY (s:={ s with heap:=_ }) (by simpa using l) λH e k T=>#[T,u H λb o v x=>k b o ?_];exact(LO _ _$ Me v).trans x
theorem Jo(a:w.params.followText "set-order"=ν){S:η}(b:s.heap.get? S=δ o)(H:o.data= .set c d t)
  (f:t.fits c.size=ν) {Q:Option (ζ×Nat)->ι->Prop} (h:Q (((pickOrder (w.params.setOrder S d) c)[i]?).map λe=>(e.2,j)) s):
  π (χ prog w) A (setNext S j i d) Q E s:=by
 unfold setNext;refine Lr$ Nc b H f ?_;dsimp only;unfold setsByText;refine Lr$ Lr$ NW$ Lu ?_;dsimp only;rw[show(χ prog w).w.params.followText "set-order"=_ from a];simp only[↓reduceIte,MY,LG];unfold setWalk;refine Lr$ Lr$ Nc b H f ?_;dsimp only;unfold setsByText;refine Lr$ Lr$ NW$ Lu ?_;dsimp only;rw[show(χ prog w).w.params.followText "set-order"=_ from a];simp only[↓reduceIte];exact Lr$ NW$ Lu$ Lu h
theorem JM(a:w.params.followText "set-order"=μ){S:η}(b:s.heap.get? S=δ o)(H:o.data= .set e c t)
  (d:t.fits e.size=ν) (f:t.led=ν) (l:e.size<=1) {Q:Option (ζ×Nat)->ι->Prop}
  (h:Q (match e[SetTable.below t.place j]?,t.place[SetTable.below t.place j]? with |some (_,x),δ k=>δ (x,k+1) |_,_=>θ) s):
  π (χ prog w) A (setNext S j i c) Q E s:=by
 unfold setNext;refine Lr$ Nc b H d ?_;dsimp only;unfold setsByText;refine Lr$ Lr$ NW$ Lu ?_;dsimp only;rw[show(χ prog w).w.params.followText "set-order"=_ from a];simp only[LG,↓reduceIte];split
 .rename_i z
  let g:(!t.plain&&decide (e.size > 1))=ν:=z;simp only[MJ,decide_eq_true_eq]at g;omega
 .refine Lr ?_;show π _ _ (if (!t.led&&!e.isEmpty)=ν then _ else _) _ _ _;rw[f];simp only[Od,Tt,LG,↓reduceIte];exact Lu$ Lu h
end
theorem X2{a:Type}(f:Nat->Nat):∀(n k:Nat) (l:List a) (o:Array a),l.length=n->(pickOrder.go f n k l o).toList.Perm (o.toList++l):=by
 intro n;induction n with
 |zero=>intro k l o h;rw[List.length_eq_zero_iff.mp h];unfold pickOrder.go;simp
 |succ n i=>intro k l o h;unfold pickOrder.go;let H:f k % l.length < l.length:=UF _ UK;rw[Ls H];dsimp only;refine(i _ _ _ (by rw[Rj H,h];rfl)).trans ?_;rw[Ss,PH,List.singleton_append];refine List.Perm.append_left _ ?_;rw[PM];refine List.perm_middle.symm.trans ?_;rw[OY,O8]
theorem kB{a:Type}(f:Nat->Nat)(x:Array a):(pickOrder f x).toList.Perm x.toList:=by let h:=X2 f x.size 0 x.toList (ε []) (LU ..);simpa [pickOrder] using h
theorem Ji{a:Type}(x:Array a)(d:a):(fr x.size).map (λp=>(x[p]?).getD d)=x.toList:=by
 refine PV UL λi b h=>?_;let H:i < x.size:=by simpa using h
 simp [H]
def nY(ord:List (Int×ζ))(i:Nat)(v:ζ):Prop:=∃e,ord[i]?=δ e/\v=e.2
section
variable {prog:ψ}{w:bU}{A:bS}{E:ζ->ι->Prop}{s:ι}
theorem qV{S:η}(H:bY s.heap I f i S n e){Q:ζ->ι->Prop}(h:Q (.ref I) s):π (χ prog w) A (pyIter$ .ref I) Q E s:=by refine P9 H.is qm$ Mg qm H.is JF ?_$ JT _;show π _ _ (ret$ .ref I) _ _ s;exact Lu #[_,Z,"set_iterator",_,H.is,j8.lookup,h]
theorem YE(D:A.handled=θ)(I S P:η)(l:S≠I)(m:P≠I){O oP:ge}{y:List Nat}{c:Nat}(f:O.data= .set d G t)
  (u:t.fits d.size=ν) (g:oP.data= .seq (y.map λ(i:Nat)=>rawInt i).toArray c) (n:y.Perm (fr d.size)):
  WalksS prog w A I [I,S,P] [I] (λa b=>b=a) d.size (nY$ y.map λp=>(d[p]?).getD (0,.none))
   (λi s=>bY s.heap I (.ref P) i S d.size G/\s.heap.get? S=δ O/\s.heap.get? P=δ oP) where
 sub:=λb H=>by simp at H;simp [H]
 grefl:=λ_=>Z
 gtrans:=λ_ _ _ F J=>J.trans F
 frame:=λi s v T st _ k=>#[st.1.at λo e=>k I UL o e,k S UL _ st.2.1,k P UL _ st.2.2]
 item:=λi s Q E K st j=>by
  let B:y.length=d.size:=by rw[n.length_eq,Ou]
  let h:i < y.length:=by omega
  let C:y[i] < d.size:=rb.mp (n.mem_iff.mp$ Ob h);refine YD (p:=y[i]) (hx:=(d[y[i]]).1) (x:=(d[y[i]]).2) st.1 st.2.1 f u st.2.2 g (by simp [h,rawInt]) (by simp [C]) λv q r=>?_;refine j _ _ #[d[y[i]],by simp [h,C],Z] #[q,?_,?_] #[λb o H e=>?_,Z,Z,Z,Lx _]
  .rw[r.2 S l];exact st.2.1
  .rw[r.2 P m];exact st.2.2
  .rw[r.2 b (λz=>H (by simp [z]))];exact e
 done:=λs Q E st j=>by
  let B:y.length=d.size:=by rw[n.length_eq,Ou]
  refine KR D st.1 st.2.1 f u st.2.2 g (by simp [B]) λv k=>j _ #[λb o H e=>k b o (λz=>H (by simp [z])) e,Z,Z,Z,Lx _]
 self:=λ_ _ _ _ st j=>qV st.1 j
theorem sg(r:A.handled=θ)(m:w.params.followText "set-order"=ν)(I S:η)(l:S≠I){O:ge}(h:O.data= .set c d t)
  (j:t.fits c.size=ν):
  WalksS prog w A I [I,S] [I] (λa b=>b=a) c.size (nY (pickOrder (w.params.setOrder S d) c).toList)
   (λi s=>bY s.heap I (.int (0:Nat) 0) i S c.size d/\s.heap.get? S=δ O) where
 sub:=λb H=>by simp at H;simp [H]
 grefl:=λ_=>Z
 gtrans:=λ_ _ _ u v=>v.trans u
 frame:=λi s n T st _ k=>#[st.1.at λo e=>k I UL o e,k S UL _ st.2]
 item:=λi s Q E D st f=>by
  let y:(pickOrder (w.params.setOrder S d) c).size=c.size:=by rw[<- LU,(kB _ _).length_eq,LU]
  let g:i < (pickOrder (w.params.setOrder S d) c).size:=by omega
  refine QK (x:=(pickOrder (w.params.setOrder S d) c)[i].2) (nx:=0) st.1 st.2 h j (λB C q=>Jo m st.2 h j (by rw[Np g];exact q)) λn q p=>?_;refine f _ _ #[(pickOrder (w.params.setOrder S d) c)[i],by rw[M4];exact Np g,Z] #[q,?_] #[λb o H e=>?_,Z,Z,Z,Lx _]
  .rw[p.2 S l];exact st.2
  .rw[p.2 b (λz=>H (by simp [z]))];exact e
 done:=λs Q E st f=>by
  let y:(pickOrder (w.params.setOrder S d) c).size=c.size:=by rw[<- LU,(kB _ _).length_eq,LU]
  refine qL r st.1 st.2 h j (λB C q=>Jo m st.2 h j (by rw[OR UK];exact q)) λn k=>f _ #[λb o H e=>k b o (λz=>H (by simp [z])) e,Z,Z,Z,Lx _]
 self:=λ_ _ _ _ st f=>qV st.1 f
theorem YF(p:Nat):SetTable.below (ε [p]) 0=0:=by simp [SetTable.below,SetTable.below.go]
theorem YG(p:Nat):SetTable.below (ε [p]) (p+1)=1:=by simp [SetTable.below,SetTable.below.go]
theorem wH(G:A.handled=θ)(u:w.params.followText "set-order"=μ)(I S:η)(n:S≠I){O:ge}(h:O.data= .set c L t)
  (g:t.fits c.size=ν) (v:t.led=ν) (y:c.size<=1):
  WalksS prog w A I [I,S] [I] (λa b=>b=a) c.size (nY c.toList)
   (λi s=>(∃j:Nat,bY s.heap I (.int j 0) i S c.size L/\(i=0->j=0)/\(i=1->∃p,t.place=(ε [p])/\j=p+1))/\s.heap.get? S=δ O) where
 sub:=λb d=>by simp at d;simp [d]
 grefl:=λ_=>Z
 gtrans:=λ_ _ _ K M=>M.trans K
 frame:=λi s B W st _ k=>#[let #[j,a,r]:=st.1;#[j,a.at λo e=>k I UL o e,r],k S UL _ st.2]
 item:=λi s Q E X st l=>by
  obtain⟨⟨j,H,J,C⟩,f⟩:=st;let N:i=0:=by omega
  subst N;cases J Z;let D:c.size=1:=by omega
  let P:t.place.size=1:=by simp only[SetTable.fits,MJ,beq_iff_eq]at g;omega
  let⟨p,m⟩:=Array.size_eq_one_iff.mp P;refine QK (x:=(c[0]'UK).2) (nx:=p+1) H f h g (λR T q=>JM u f h g v y (by rw[m,YF,Np UK];exact q)) λB q F=>?_;refine l _ _ #[c[0]'UK,by rw[M4];exact Np UK,Z] #[#[_,q,λz=>by omega,λ_=>#[p,m,Z]],?_] #[λb o d e=>?_,Z,Z,Z,Lx _]
  .rw[F.2 S n];exact f
  .rw[F.2 b (λz=>d (by simp [z]))];exact e
 done:=λs Q E st l=>by
  obtain⟨⟨j,H,J,C⟩,f⟩:=st;refine qL G H f h g (λR T q=>JM u f h g v y ?_) λB k=>l _ #[λb o d e=>k b o (λz=>d (by simp [z])) e,Z,Z,Z,Lx _];by_cases z:c.size=0
  .rw[OR (show c.size<=_ by omega)];exact q
  .let D:c.size=1:=by omega
   let⟨p,U,V⟩:=C D;subst V;rw[U,YG,OR (show c.size<=1 by omega)];exact q
 self:=λ_ _ _ _ st l=>let #[#[_,a,_],_]:=st;qV a l
end
theorem qk{prog:ψ}{w:bU}(h:ElemsOf (de prog w) E)(i:Nat)(v:ζ)(b:nY E i v):∃x t,(E.map λe=>mM e.2)[i]?=δ x/\v= .str x t:=by let⟨e,H,rfl⟩:=b;obtain⟨⟨k,c,_⟩,_⟩:=h e (LS H);let⟨t,a⟩:=Of c;exact#[k,t,by rw[LK,H];show δ (mM e.2)=_;rw[a];rfl,a]
def BG(p:ψ)(w:bU)(s c:ι)(S I:η)(L:List ρ):Prop:=
 ∃(f:List η) (d:List ρ) (P:Nat->ζ->Prop) (St:Nat->ι->Prop),(∀b o,s.heap.get? b=δ o->c.heap.get? b=δ o)/\c.gens=s.gens/\c.os=s.os/\s.toks<=c.toks/\
  s.heap.objs.size<=I/\I < c.heap.objs.size/\c.TypeIs (.ref I) "set_iterator"/\(∀b∈f,b=S∨s.heap.objs.size<=b)/\(∀A:bS,A.handled=θ->WalksS p w A I f [I] (λa b=>b=a) d.length P St)/\St 0 c/\
  (∀i v,P i v->∃x t,d[i]?=δ x/\v= .str x t)/\d.Perm L
section
variable {prog:ψ}{w:bU}{A:bS}{E:ζ->ι->Prop}{s:ι}
theorem YH{S:η}(V:cw prog w s.heap S L){Q:ζ->ι->Prop}(h:∀f I,BG prog w s f S I L->Q (.ref I) f):π (χ prog w) A (pyIter$ .ref S) Q E s:=by
 let⟨o,a,x,t,H,W,m,n,M,X,r,u,Y,N⟩:=V;let P:s.TypeIs (.ref S) "set":=#[o,H,W.1];let v:S < s.heap.objs.size:=Lz H;refine P9 P Rx$ Mg Rx P JR ?_$ PySem.F.args_set_iter_1 _;unfold ea.«frozenset.__iter__»;show π _ _ (Builtin.Frozenset.sizeOf S >>= _) _ _ s;unfold Builtin.Frozenset.sizeOf;refine Lr$ Lr$ N4 H m u$ Lu ?_;unfold setDrawn;refine Lr$ Lr$ Nc H m u ?_;dsimp only;unfold setsByText;refine Lr$ Lr$ NW$ Lu$ Lu ?_;split
 .rename_i z
  let B:(!(w.params.followText "set-order")&&(!t.plain&&decide (a.size > 1)))=ν:=z;simp only[MJ,decide_eq_true_eq]at B;refine Lr$ XZ a.size (fr a.size) s UL λy d G=>?_;let C:y.length=a.size:=by rw[G.length_eq,Ou]
  let O:((y.map λ(i:Nat)=>rawInt i).length)<=υ:=by rw[Lw,C];exact OX r
  refine Lr$ Oc (s:={ s with drawn:=d }) ?_ O;refine Lr ?_;unfold setEpoch;refine Lr$ Nc (Lv _ H) m u$ Lu ?_;refine Lr$ Mm$ Lu #[_,Z,"set_iterator",_,#[_,LB _ Z,Z],j8.lookup,h _ _ ?_];generalize J:s.heap.push { cls:=.type "tuple",data:=.seq (y.map λ(i:Nat)=>rawInt i).toArray }=g;let R:g.objs.size=s.heap.objs.size+1:=by rw[<- J,Mr]
  let gP:g.get? s.heap.objs.size=δ { cls:=.type "tuple",data:=.seq (y.map λ(i:Nat)=>rawInt i).toArray }:=by rw[<- J];exact LB _ Z
  let gS:g.get? S=δ o:=by rw[<- J];exact Lv _ H
  refine#[[g.objs.size,S,s.heap.objs.size],(y.map λp=>(a[p]?).getD (0,.none)).map λe=>mM e.2,nY$ y.map λp=>(a[p]?).getD (0,.none),
   (λi f=>bY f.heap g.objs.size (.ref s.heap.objs.size) i S a.size x/\f.heap.get? S=δ o/\f.heap.get? s.heap.objs.size=δ { cls:=.type "tuple",data:=.seq (y.map λ(i:Nat)=>rawInt i).toArray }),λb o e=>?_,Z,Z,Lx _,?_,?_,#[_,LB _ Z,Z],λb r=>?_,
   λT D=>?_,#[#[_,LB _ Z,Z,Z],Lv _ gS,Lv _ gP],?_,?_]
  .exact Lv _ (by rw[<- J];exact Lv _ e)
  .show s.heap.objs.size<=g.objs.size;omega
  .show g.objs.size < (g.push _).objs.size;rw[Mr];exact MQ _
  .simp only[M8,Ma,Oj]at r;rcases r with e |e |e
   .subst e;exact .inr UK
   .exact .inl e
   .rw[e];exact .inr (Lx _)
  .let q:=YE (prog:=prog) (w:=w) D g.objs.size S s.heap.objs.size (LC (by rw[R];exact Nu v)) (LC (by rw[R];exact MQ _)) m u (oP:={ cls:=.type "tuple",data:=.seq (y.map λ(i:Nat)=>rawInt i).toArray }) (c:=0) Z G;simpa [C] using q
  .refine qk (prog:=prog) (w:=w)$ n.perm ?_;let q:=G.map λp=>(a[p]?).getD ((0:Int),Ψ);rwa [Ji]at q
  .let q:=G.map λp=>(a[p]?).getD ((0:Int),Ψ);rw[Ji]at q;exact(q.map _).trans M
 .rename_i z
  let B:¬(!(w.params.followText "set-order")&&(!t.plain&&decide (a.size > 1)))=ν:=z;refine Lr$ Lu ?_;refine Lr ?_;unfold setEpoch;refine Lr$ Nc H m u$ Lu ?_;refine Lr$ Mm$ Lu #[_,Z,"set_iterator",_,#[_,LB _ Z,Z],j8.lookup,h _ _ ?_];let k:∀b∈[s.heap.objs.size,S],b=S∨s.heap.objs.size<=b:=λb r=>by
   simp only[M8,Ma,Oj]at r;rcases r with e |e
   .subst e;exact .inr (Lx _)
   .exact .inl e
  let l:∀U:ge,s.heap.objs.size < (s.heap.push U).objs.size:=λU=>by rw[Mr];exact MQ _
  cases K:w.params.followText "set-order" with
  |true=>
   let pl:(pickOrder (w.params.setOrder S x) a).toList.length=a.size:=by rw[(kB _ _).length_eq,LU]
   refine#[[s.heap.objs.size,S],(pickOrder (w.params.setOrder S x) a).toList.map λe=>mM e.2,nY (pickOrder (w.params.setOrder S x) a).toList,
    (λi f=>bY f.heap s.heap.objs.size (.int (0:Nat) 0) i S a.size x/\f.heap.get? S=δ o),λb o e=>Lv _ e,Z,Z,Lx _,Lx _,l _,#[_,LB _ Z,Z],k,
    λT D=>?_,#[#[_,LB _ Z,Z,Z],Lv _ H],?_,?_]
   .let q:=sg (prog:=prog) (w:=w) D K s.heap.objs.size S (LC v) m u;rw[Lw,pl];exact q
   .exact qk (prog:=prog) (w:=w)$ n.perm$ kB _ _
   .exact((kB _ _).map _).trans M
  |false=>
   let hs:a.size<=1:=by
    rw[K]at B;rcases N with e |e
    .rw[e]at B;simp at B;exact B
    .omega
   refine#[[s.heap.objs.size,S],a.toList.map λe=>mM e.2,nY a.toList,
    (λi f=>(∃j:Nat,bY f.heap s.heap.objs.size (.int j 0) i S a.size x/\(i=0->j=0)/\(i=1->∃p,t.place=(ε [p])/\j=p+1))/\f.heap.get? S=δ o),λb o e=>Lv _ e,Z,Z,Lx _,Lx _,l _,#[_,LB _ Z,Z],k,
    λT D=>?_,#[#[0,#[_,LB _ Z,Z,Z],λ_=>Z,λz=>by cases z],Lv _ H],?_,?_]
   .let q:=wH (prog:=prog) (w:=w) D K s.heap.objs.size S (LC v) m u (by rw[Y,K];rfl) hs;rw[Lw,LU];exact q
   .exact qk (prog:=prog) (w:=w) n
   .exact M
theorem qM:∀(V:List ζ) (S:List ρ),V.length=S.length->(∀(i:Nat) (v:ζ),V[i]?=δ v->∃x t,S[i]?=δ x/\v=kw x t)->StrsAre V S
 | [],[],_,_=>.nil
 | [],_::_,h,_=>by cases h
 |_::_,[],h,_=>by cases h
 |v::V,y::S,h,k=>by let⟨x,t,e,rfl⟩:=k 0 v Z;cases e;exact .cons y t$ qM V S (by simpa using h) λi u H=>k (i+1) u (by simpa using H)
theorem Qb{S:η}(hh:A.handled=θ)(y:cw prog w s.heap S L){Q:List ζ->ι->Prop}
  (h:∀a V g,s.heap.objs.size<=a.heap.objs.size->(∀b o,s.heap.get? b=δ o->a.heap.get? b=δ o)->a.gens=s.gens->a.os=s.os->s.toks<=a.toks->StrsAre V g->g.Perm L->Q V a):π (χ prog w) A (collect$ .ref S) Q E s:=by
 let n:L.length < scanBound:=by let⟨o,es,ep,t,j,M,hd,h0,u,h1,k,hf,hl,h2⟩:=y;rw[<- u.length_eq,Lw,LU];exact k
 unfold collect;refine Lr$ RO$ MX PU ?_;rw[My PR];show π _ A.in1 (newList [] >>= λl=>again (.builtin "list.__iadd__" #[[l,.ref S],[]])) _ _ s;refine Lr$ Mm$ Lu #[Ny NT _,MX Rh ?_];rw[My NT];show π _ A.in1 (gs (.ref s.heap.objs.size) (.ref S)$ .ref s.heap.objs.size) _ _ _;unfold gs;let p:S < s.heap.objs.size:=by let⟨o,_,_,_,j,_⟩:=y;exact Lz j
 generalize x:s.heap.push { cls:=.type "list",data:=.seq ([]:List ζ).toArray }=H;let gl:H.get? s.heap.objs.size=δ { cls:=.type "list",data:=.seq ([]:List ζ).toArray }:=by rw[<- x];exact LB _ Z
 let R:cw prog w H S L:=y.at λo e=>by rw[<- x];exact Lv _ e
 let gk:∀b o,s.heap.get? b=δ o->H.get? b=δ o:=λb o e=>by rw[<- x];exact Lv _ e
 let T:Shared.TypeIs { s with heap:=H } (.ref S) "set":=by let⟨o,_,_,_,j,M,_⟩:=R;exact#[o,j,M.1]
 refine Lr$ Nn T ?_;let n1:ey (.ref s.heap.objs.size) (.ref S)=μ:=by simp only[ey,beq_eq_false_iff_ne];exact Mv p
 let n2:(eT "set"==eT "list")=μ:=by decide
 let n3:(eT "set"==eT "tuple")=μ:=by decide
 simp only[n1,n2,n3,RB,LG,MT];refine Lr$ YH (s:={ s with heap:=H }) R λr I B=>?_;let⟨fp,g,P,St,K,kg,ko,kt,C,h3,h4,D,W,st,hv,u⟩:=B;let G:H.objs.size=s.heap.objs.size+1:=by rw[<- x,Mr]
 let f:r.TypeIs (.ref S) "set":=by let⟨o,j,hc⟩:=T;exact#[o,K _ _ j,hc]
 refine Lr$ LI ?_;unfold ir;refine Lr$ Ng f PySem.F.slot_set_len.lookup ?_
 wp_delta
 refine Lr$ Nz (b:=ν) f sub_set_self ?_;show π _ A.in1 (typeOf (ω S) >>= _) _ _ _;refine Lr$ Nn f$ Lu ?_;rw[LP UJ];refine Lr$ Nh ?_;let U:=K _ _ gl;refine Lr ?_;show π _ A.in1 (updateSeq s.heap.objs.size (·.push .none) >>= λ_=>updateSeq s.heap.objs.size (·.pop)) _ _ _;refine Lr$ Ph U Z ?_;let X:=Mi (ab (·.push Ψ)) U Z;refine Ph X Z ?_;let g3:=Mi (ab (·.pop)) X Z;let N:¬s.heap.objs.size∈fp:=λm=>by
  rcases D _ m with e |e
  .exact absurd p (by rw[<- e];exact ML _)
  .let e':H.objs.size<=s.heap.objs.size:=e;omega
 let O:∀b o,b≠s.heap.objs.size->r.heap.get? b=δ o->((r.heap.update s.heap.objs.size$ ab (·.push Ψ)).update s.heap.objs.size$ ab (·.pop)).get? b=δ o:=
  λb o k e=>(LO _ _$ Me k).trans ((LO _ _$ Me k).trans e)
 let Y:=W A.in1 (by simpa using hh);let hn:g.length<=υ:=by rw[u.length_eq];exact OX n
 refine Lu #[Ny PZ _,S0 Y hn _ N _ g.length 0 _ _ _ Z (LF _) (Y.frame 0 r _ r.toks st (Lx _) λb k o e=>O b o (λz=>N (z▸k)) e) g3 (To P) λa J c m gS d=>?_];show π _ A (load s.heap.objs.size >>= _) _ _ a;refine Lr$ Tu gS$ Lu$ h a J.toList g (NA$ Lz gS) (λb o e=>?_) ?_ ?_ ?_ ?_ u
 .let ne:b≠s.heap.objs.size:=LC (Lz e);refine m.heap b o ?_$ O b o ne$ K b o$ gk b o e;simp only[M8,Ma,Oj,not_or];refine#[ne,λz=>?_];let q:s.heap.objs.size+1<=I:=G▸C;let q2:=Lz e;rw[z]at q2;exact absurd (LH (Nu q2) q)$ ML _
 .exact m.gens.trans kg
 .exact m.os.trans ko
 .exact LJ kt m.toks
 .refine qM _ _ (by rw[LU,d.1]) λi v e=>hv i v (d.2 i v (by rwa [M4]at e))
end
section
variable {prog:ψ}{w:bU}{A:bS}{E:ζ->ι->Prop}{s:ι}
theorem Xd{S:η}(z:A.handled=θ)(B:cw prog w s.heap S L)(j:L.length < 64){Q:ζ->ι->Prop}
  (h:∀f a c v i,s.heap.objs.size<=a->(∀b o,s.heap.get? b=δ o->f.heap.get? b=δ o)->f.gens=s.gens->f.os=s.os->f.heap.get? a=δ (seqObj "list" v c)->StrsAre v.toList i->i.Perm L->sortedS i=ν->Q (.ref a) f):
  π (χ prog w) A (call (.builtin "sorted") [.ref S]) Q E s:=by
 refine NN Rt P' Ra (Rb _) ?_;unfold ea.«sorted»;refine Lr (m:=checkCount "sorted" 1 1 _)$ Lu ?_;refine Lr$ Qb (by simpa using z) B λd v i K k C D P H r=>?_;let F:v.length < 64:=by rw[<- _L.StrsAre.len H,r.length_eq];exact j
 refine Lr$ N6 ?_ (by let q:υ=1000000000∨64<=υ:=.inr UJ;omega);let g:=LB d.heap (o:=seqObj "list" v.toArray 0) Z;refine Lr$ LI$ Mg Pp #[_,g,Z] Pj (list_sort_treeK strKind_oneLt g H.keysOf (λV t R e=>keyKind_strs (by rw[<- e];exact H)) F λl G I=>#[_,Z,?_]) (Pu _);let⟨n,u,J,M⟩:=sorted_out_str H G I;generalize (arrOf l).map (·.2)=out at u ⊢;let⟨c,N⟩:=sortedHeap_at (out:=out) g;let O:∀b o,s.heap.get? b=δ o->(sortedHeap (d.heap.push$ seqObj "list" v.toArray 0) d.heap.objs.size v out).get? b=δ o:=by
  intro b o e;let x:=k b o e;let y:b < d.heap.objs.size:=Lz x;let p:b < (d.heap.push$ seqObj "list" v.toArray 0).objs.size:=by rw[RS];exact Nu y
  rw[sortedHeap_old (LC y) p];exact Lv _ x
 exact Lu #[_,Z,h { d with heap:=sortedHeap (d.heap.push$ seqObj "list" v.toArray 0) d.heap.objs.size v out } d.heap.objs.size c out n K O C D N u (J.trans r) M]
end
theorem Jp(h:StrsAre v s):ax (s.map ri) v:=by
 induction h with
 |nil=>exact .nil
 |cons y t _ i=>exact .cons #[t,Z] i
noncomputable def Hd(P:ψ)(w:bU)(a:η)(L:List ρ):HO:=.ext λh=>cw P w h a L
section
variable {X:Cx}
theorem ql(i:X.calm=ν):cQ X (.builtin "sorted") (λx H Q=>∃(p:η) (L:List ρ),x=[.ref p]/\H p=δ (Hd X.prog X.w p L)/\L.length < 64/\
  ∀l S,H l=θ->S.Perm L->L.Nodup->sortedS S=ν->Q (.ref l) (af H l$ .lst$ S.map ri)):=by
 intro P s B H x U Q I r h;let⟨p,L,rfl,j,d,q⟩:=h;let⟨u,rfl,R⟩:=dY r;cases R;let⟨f,_,_⟩:=I.hok p _ j;let b:L.Nodup:=by let⟨_,_,_,_,_,_,_,_,_,b,_⟩:=f;exact b
 refine Xd (I.ok.hd i) f d λm a c v S e k K o t y g A=>?_;let len:(S.map ri).length<=υ:=by rw[Lw,g.length_eq];exact LJ (NA d) UJ
 let n:aM X.prog X.w (af H a$ .lst$ S.map ri) m.heap a (.lst$ S.map ri):=#[len,v.toList,c,Jp y,t];refine#[.ref a,_,I.call' (ch:=[]) o (Un.laid k e$ I.hok.fresh e) (I.hok.laid k e n) (by rw[K];exact I.bare) (λ_ z=>nomatch z),Z,q _ _ (I.hok.fresh e) g b A]
theorem Xe:cQ X (.builtin "sorted") (λx H Q=>∃(p:η) (a:List ρ),x=[.ref p]/\aJ X.K H p (a.map ri)/\a.length < 64/\
  ∀l S,H l=θ->S.Perm a->sortedS S=ν->Q (.ref l) (af H l$ .lst$ S.map ri)):=by
 intro P s v H x U Q I r h;let⟨p,a,rfl,f,b,q⟩:=h;let⟨u,rfl,R⟩:=dY r;cases R;let⟨i,g,j,y⟩:=I.list f;let d:=qi g;let k:i.length=a.length:=(_L.StrsAre.len d).symm;refine sorted_strs j.isList d (by rw[k];exact b) λo S m A n=>?_;let⟨c,t⟩:=sortedAll_at s.heap i o;let len:(S.map ri).length<=υ:=by rw[Lw,A.length_eq];exact LJ (NA b) UJ
 refine#[.ref$ s.heap.objs.size+1,_,I.laid (t':=s.toks) (λ_ _ e=>sortedAll_old e) (MZ _) (show aM X.prog X.w _ _ _ (.lst$ S.map ri) from #[len,o.toList,c,Jp m,t]),Z,q _ _ (I.hok.fresh$ MZ _) A n]
end
theorem Zh:mroOf (.type "reversed")=pure [.type "reversed",.type "object"]:=by rw[mroOf_type];kernel_rfl
theorem KS:typeLookup (.type "reversed") "__new__"=pure (δ$ .builtin "reversed.__new__"):=by rw[MW,Mq];kernel_rfl
theorem Qc:Slot "reversed" "__init__" "object.__init__":=by
 refine .of (owner:="object") (n:="__init__") ?_ UM UM UM ?_ ?_
 .rw[MW,Mq];kernel_rfl
 .first |exact .inl UM |exact .inr UM
 .rw[Nb];kernel_rfl
theorem YI:TypeCalled "reversed" "reversed.__new__" "object.__init__":=by refine#[UM,UM,#[_,_,Zh],madeBy_type Zh KS UM,UM,?_,Qc];rw[Nb];kernel_rfl
theorem Xf(a:ζ):checkTypeCall "reversed" #[[a],[]]=pure ():=by kernel_rfl
theorem X3(a:ζ):checkBuiltinCall "reversed.__new__" #[[.type "reversed",a],[]]=pure ():=by kernel_rfl
theorem Qd:entryFor table "reversed.__new__"=δ ea.«reversed.__new__»:=Pb (by kernel_rfl)
theorem Al:isSubtype (.type "reversed") (.type "reversed")=pure ν:=by rw[Nb];kernel_rfl
theorem Xg:typeLookup (.type "tuple") "__reversed__"=pure θ:=by rw[MW,Mq];kernel_rfl
theorem KU:isSubtype (.type "tuple") (.type "dict")=pure μ:=by rw[Nb];kernel_rfl
noncomputable def revObj(t:η)(n:Int):ge:={ cls:=.type "reversed",data:=.fields (ε [.ref t,.int (n - 1) 0]) }
section
variable {prog:ψ}{w:bU}{A:bS}{E:ζ->ι->Prop}{s:ι}
theorem sF{Q:ζ->ι->Prop}(H:IsTup s.heap t i)(c:(i.size:Int) < 2 ^ 63)
  (h:Q (.ref s.heap.objs.size) { s with heap:=s.heap.push (revObj t i.size),toks:=s.toks+1+1 }):π (χ prog w) A (call (.type "reversed") [.ref t]) Q E s:=by
 refine SA (S:=λ_ R a=>a=s/\R (.ok$ .ret$ .ref s.heap.objs.size) { s with heap:=s.heap.push (revObj t i.size),toks:=s.toks+1+1 }) YI UJ (Xf _) (X3 _) (λo=>Oh o _) Qd
  (.of_wp λp W f R a d=>?_) #[Z,#[_,LB _ Z,Z],h]
 let⟨rfl,e⟩:=d;unfold ea.«reversed.__new__» Builtin.SmallTypes.newClass;refine Lr ?_;dsimp only;refine Lr$ Lu ?_;simp only[Od,LG,MT];refine Lr$ OU Al ?_;simp only[Od,LG,MT];refine Lu ?_;refine Lr (m:=Builtin.SmallTypes.refuseKeywords _ _ _)$ Lu ?_;refine Lr (m:=checkCount "reversed" 1 1 _)$ Lu ?_;dsimp only;refine Lr$ Ng H.typeIs Xg ?_;dsimp only;refine Lr ?_;show π _ _ (isInstance (.ref t) (.type "dict") >>= _) _ _ _;refine Lr$ Nz (b:=μ) H.typeIs KU ?_;simp only[LG,MT];refine Lr$ Ng H.typeIs PyProof.Rows.slot_tuple_getitem.lookup ?_;dsimp only;rw[LP UM];refine Lu ?_;simp only[Od,LG,MT];refine Lr$ len_tuple H c ?_;refine Lr (m:=asInt? _)$ Lu ?_;dsimp only;show π _ _ (newObj (.type "reversed") (.fields [ω t,rawInt ((i.size:Int) - 1)].toArray) >>= _) _ _ _;exact Lr$ Mm$ Lu #[_,Z,e]
end
theorem zP:Slot "reversed" "__next__" "reversed.__next__":=by
 refine .of (owner:="reversed") (n:="__next__") ?_ UM UM UM ?_ ?_
 .rw[MW,Mq];kernel_rfl
 .first |exact .inl UM |exact .inr UM
 .rw[Nb];kernel_rfl
theorem qN:Slot "reversed" "__iter__" "reversed.__iter__":=by
 refine .of (owner:="reversed") (n:="__iter__") ?_ UM UM UM ?_ ?_
 .rw[MW,Mq];kernel_rfl
 .first |exact .inl UM |exact .inr UM
 .rw[Nb];kernel_rfl
theorem KW:entryFor table "reversed.__next__"=δ ea.«reversed.__next__»:=Pb (by kernel_rfl)
theorem KY:entryFor table "reversed.__iter__"=δ ea.«dict_keyiterator.__iter__»:=by refine Pr (id':="dict_keyiterator.__iter__") ?_ Z UM ?_<;>kernel_rfl
theorem Qe(a:ζ):argsOk "reversed.__next__" #[[a],[]]:=by unfold argsOk;kernel_rfl
theorem Qg(a:ζ):argsOk "reversed.__iter__" #[[a],[]]:=by unfold argsOk;kernel_rfl
def dH(h:cJ)(I t:η)(k:Int):Prop:=∃o,h.get? I=δ o/\o.cls= .type "reversed"/\o.data= .fields (ε [.ref t,.int k 0])
theorem dH.at{H:cJ}(x:dH h I t k)(e:∀o,h.get? I=δ o->H.get? I=δ o):dH H I t k:=let #[o,a,r]:=x;#[o,e o a,r]
theorem dH.is{s:ι}(x:dH s.heap I t k):s.TypeIs (.ref I) "reversed":=let #[o,h,H,_]:=x;#[o,h,H]
section
variable {prog:ψ}{w:bU}{A:bS}{E:ζ->ι->Prop}{s:ι}
theorem Xv(H:dH s.heap I t k)
  (h:π (χ prog w) A.in1 (ea.«reversed.__next__» #[[.ref I],[]]) (λf S=>∃v,f= .done (.ret v)/\Q (δ v) S) (λe S=>S.TypeIs e "StopIteration"/\Q θ S) s):
  π (χ prog w) A (pyNext$ .ref I) Q E s:=by
 unfold pyNext;refine Lr$ Nx$ Mj (name:=Str.ofString "__next__") H.is zP$ Mg zP H.is KW ?_$ Qe _;refine Mp h (λf S q=>?_) λe S q=>?_
 .let⟨v,e,q⟩:=q;exact#[v,e,Lu q]
 .exact Lr$ Nz (T:="StopIteration") (b:=ν) q.1 Pq$ Lu q.2
theorem Ft{I t:η}{k:Nat}{items:Array ζ}{x:ζ}{Q:Option ζ->ι->Prop}(H:dH s.heap I t k)(c:IsTup s.heap t items)(d:items[k]?=δ x)(e:(items.size:Int) < 2 ^ 63)
  (f:∀b,dH b I t ((k:Int) - 1)->fv I s.heap b->Q (δ x) { s with heap:=b,toks:=s.toks+1 }):π (χ prog w) A (pyNext$ .ref I) Q E s:=by
 refine Xv H ?_;let⟨o,a,g,h⟩:=H;let i:k < items.size:=(bm.mp d).1;show π _ _ (field (.ref I) 0 >>= _) _ _ s;refine Lr$ LY a h (x:=.ref t) Z$ Lr$ LY a h (x:=.int k 0) Z ?_;dsimp only;rw[LV UK];refine Lr$ Ng c.typeIs PyProof.Rows.slot_tuple_getitem.lookup ?_;simp only[RZ,LG,MT];refine Lr$ wpAny_mkInt$ Lr$ Nx ?_;refine getItem_tuple (s:={ s with toks:=s.toks+1 }) c UK UK (j:=k) ?_ d ?_
 .unfold seqIndex?;simp;omega
 refine Lr$ LY (s:={ s with toks:=s.toks+1 }) a h (x:=.int k 0) Z ?_;dsimp only;refine Lr$ Ms a h UL$ Lu #[x,Z,f _ ?_$ M9 ..];exact#[_,Mi _ a$ MN$ Mf h _,(N9 ..).trans g,by rw[Mf h];simp [rawInt]]
theorem rB(f:A.handled=θ){Q:Option ζ->ι->Prop}(h:dH s.heap I t (-1))
  (g:∀a,(∀b o,b≠I->s.heap.get? b=δ o->a.get? b=δ o)->Q θ { s with heap:=a }):π (χ prog w) A (pyNext$ .ref I) Q E s:=by
 refine Xv h ?_;let⟨o,c,j,H⟩:=h;show π _ _ (field (.ref I) 0 >>= _) _ _ s;refine Lr$ LY c H (x:=.ref t) Z$ Lr$ LY c H (x:=.int (-1) 0) Z ?_;dsimp only;rw[LP UJ];refine Lr$ Nh$ Lr ?_;show π _ _ (setField (.ref I) 1 (rawInt (-1)) >>= λ_=>setField (.ref I) 0 .none) _ _ _;refine Lr$ Ms c H UL ?_;refine Ms (Mi _ c$ MN$ Mf H _) (Mf H _) UL ?_;refine Lr ?_;refine JY (s:={ s with heap:=_ }) (by simpa using f) λa e k T=>#[T,g a λb o d i=>k b o ?_];exact(LO _ _$ Me d).trans ((LO _ _$ Me d).trans i)
theorem A4(H:dH s.heap I t k){Q:ζ->ι->Prop}(h:Q (.ref I) s):π (χ prog w) A (pyIter$ .ref I) Q E s:=by refine P9 H.is qN$ Mg qN H.is KY ?_$ Qg _;show π _ _ (ret$ .ref I) _ _ s;exact Lu #[_,Z,"reversed",_,H.is,zP.lookup,h]
end
theorem JN:entryFor table "dict.update.loop"=δ ea.«dict.update.loop»:=Pb (by kernel_rfl)
theorem zL:plainId "dict.update.loop"=ν:=by decide+kernel
section
variable {X:Cx}{o lo hi:dr}{to tl th:TE}{pos p2:Pos}
inductive Fh(v:V)(h:St)(Q:St->Hp->Prop)(e a c:V)(d:Hp):Prop
 |mk(l b f g i j:_)(_:e= .ref l)(_:v= .ref b)(_:a= .int i)(_:c= .int j)(_:d l=δ (.lst f))(_:d b=δ (.lst g))(_:l≠b)(_:0<=i)(_:i<=j)(_:j<=(f.length:Int))(_:f.length+g.length<=υ)(_:Q h (af d l (.lst (f.take i.toNat++g++f.drop j.toNat))))
def I9(to tl th:TE):TG:=λv b H Q=>to b H λO h=>tl b h λa c=>th b c (Fh v b Q O a)
theorem uG(n:PE X o to)(t:PE X lo tl)(w:PE X hi th)
  (A:∀v,assign (.Subscript o (.Slice (δ lo) (δ hi) θ p2) pos) X.env v=(do
   let O <- iv [v] (eval o X.env)
   let c <- iv [v,O] (eval (.Slice (δ lo) (δ hi) θ p2) X.env)
   standAt pos
   iv [v,O,c] (setItem O c v)
   release [c,v,O] []):=by intro _;rfl):PG X (.Subscript o (.Slice (δ lo) (δ hi) θ p2) pos) (I9 to tl th):=by
 intro p s a H v u Q I r h;rw[A];refine Lr$ LI$ aU (n p s a H _ I h) λO B d=>?_;let⟨x,C,D,R,E⟩:=d;refine Lr$ LI ?_;refine wpAny_Slice$ aU (t p B a C _ D E) λV F #[y,G,J,K,L]=>aU (w p F a G _ J L) λm S f=>?_;let⟨z,M,N,P,l,b,xs,ys,i,j,T,U,W,Y,h1,h2,g,h0,k,hj,hz,q⟩:=f;subst T U W Y;cases (show O=ω l from R);cases (show u=ω b from r);refine Lu ?_;let I4:au X p a M { S with heap:=S.heap.push { cls:=.type "slice",data:=.fields (ε [V,m,.none]) } }:=N.kept (t':=S.toks) λb o e=>Lv _ e;refine Lr$ Nw$ Lr$ LI ?_;exact ZY I4 h1 h2 g (P7 S.heap V m .none) K P h0 k hj hz λs5 I5=>wpAny_release #[a,_,I5,q]
end
end _L
namespace _L
open PySem PySem.Spec PyProof.Rows Builtin Builtin.Str
section
variable {prog:ψ}{w:bU}{A:bS}{E:ζ->ι->Prop}{s:ι}
theorem Jr{lo:Option Int}{Q:ζ->ι->Prop}(H:IsTup s.heap t i)(d:s.heap.IsSliceOf e v j .none)(p:IsPart v lo)(P:IsPart j f)
  (g:HT.sIx i.size 0 lo=0/\HT.sIx i.size i.size f=i.size) (h:Q (.ref t) s):π (χ prog w) A (getItem (.ref t)$ .ref e) Q E s:=by
 let⟨os,a,b,k⟩:=id d;let c:s.TypeIs (.ref e) "slice":=#[os,a,b];unfold getItem;try with_reducible refine LI ?_
 first |refine Lr (Lu ?_) |skip
 refine Lr$ P8 H.typeIs UJ ?_;refine Lr (Mj (name:=Str.ofString "__getitem__") H.typeIs No
  (Mg No H.typeIs Ut ?_$ Uy _ _))
 show π _ _ (nz (.ref t) >>= _) _ _ s;refine Lr$ Ur H ?_;refine Lr$ Nn c ?_;rw[LP UJ];refine Lr$ HT.sliceApplied_gen d p P ?_;show π _ _ (if (((HT.sIx i.size 0 lo:Nat):Int)==0&&(1:Int)==1&&(HT.sIx i.size i.size f - HT.sIx i.size 0 lo)==i.size)=ν then _ else _) _ _ s;rw[g.1,g.2,LP UL];unfold Builtin.Tuple.tupleIsExact;refine Lr$ Lr$ Nn H.typeIs$ Lu ?_;rw[LP UJ];first
  |exact Nh (Lu #[_,Z,Lu h])
  |exact Lr (Nh (Lu #[_,Z,Lu h]))
  |exact Lr (Lu (Lu #[_,Z,Lu h]))
end
section
variable {X:Cx}
inductive uQ(x y:V)(H:Hp)(Q:VK):Prop
 |mk(a b c d:_)(_:x= .ref a)(_:y= .ref b)(_:H a=δ (.tup c))(_:H b=δ (.tup d))(_:c.length+d.length<=υ)(_:∀r H',H' r=δ (.tup (c++d))->ae H H'->Q (.ref r) H')
theorem j4:eW X (binaryOp .Add) uQ:=by
 intro P s G H x y v u Q I r R h;let⟨a,b,m,Y,rfl,rfl,d,f,J,q⟩:=h;let t:=aC.of (K:=X.K) d;let w:=aC.of (K:=X.K) f;by_cases z:m=[]
 .subst z;cases r;cases R;let⟨l,L,M,_⟩:=I.tuple t;let⟨i,r2,N,_⟩:=I.tuple w;let O:l=[]:=L.nil_iff.mpr Z;subst O;obtain⟨⟨T,U,A,V⟩,B,C,n,E⟩:=id M;obtain⟨⟨F,D,data2,S⟩,g,j,W,k⟩:=id N;simp only at C E j k;subst C E j k;exact Sy #[_,B,Z] #[_,g,Z] Rm Sa OF Oq (Op _ _)
   (tuple_addW0 a b ([]:List ζ).toArray i.toArray n W U D V S Z) #[B,g,.ref b,H,I,Z,q b H f$ ae.refl H]
 .refine yy P s G H _ _ v u Q I r R #[a,b,m,Y,Z,Z,t,w,z,J,λe=>?_,λ_ p np=>?_]
  .subst e;exact q a H (by rw[P6];exact d)$ ae.refl H
  .exact q p _ jc λc o e=>by rw[ji$ jl e np];exact e
inductive DA(x:V)(c b:Option Int)(H:Hp)(Q:VK):Prop
 |mk(a d:_)(_:x= .ref a)(_:H a=δ (.tup d))(_:∀r H',H' r=δ (.tup (aS d c b))->ae H H'->Q (.ref r) H')
theorem kO:Hc X DA:=by
 intro P s u H x v V w lo j S Q I R k l m h;let⟨a,b,rfl,d,q⟩:=h;let n:=aC.of (K:=X.K) d;by_cases g:HT.sIx b.length 0 lo=0/\HT.sIx b.length b.length j=b.length
 .cases R;let⟨i,r,t,y⟩:=I.tuple n;let f:i.toArray.size=b.length:=by rw[LA];exact r.length.symm
  refine#["tuple",_,PyProof.Rows.slot_tuple_getitem.lookup,t.typeIs,?_];refine Jr t k l m (by rw[f];exact g) #[.ref a,H,I,Z,q a H ?_$ ae.refl H];rw[d];unfold aS;rw[g.1,g.2,Tk,PJ,MG]
 .exact DX P s u H _ v V w lo j S Q I R k l m #[a,b,Z,n,g,λp N=>q p _ jc λc o e=>by rw[ji$ jl e N];exact e]
end
end _L
namespace _L
open PySem PySem.Spec PyProof.Rows
theorem AE{G:Bool->Hp->Prop}(y:G ν H)(n:b=μ->G b H):G b H:=by
 cases b
 .exact n Z
 .exact y
theorem aT{A:Prop}(h:∀G:Prop,(A->G)->G):A:=h A λz=>z
section
variable {t u:TS}{D:a7}{σ:St}{H:Hp}
theorem fg(h:∀E:a7,(∀a b,u D a b->E.nx a b)->t E σ H):dy t u D σ H:=h { D with nx:=u D } λ_ _ h=>h
theorem aj(h:∀F:St->Hp->Prop,(∀a b,u D a b->F a b)->t { D with nx:=F } σ H):dy t u D σ H:=h _ λ_ _ h=>h
theorem om{c:TT}(h:∀F:Bool->Hp->Prop,(∀b a,(if b=ν then t D σ a else u D σ a)->F b a)->c σ H F):i5 c t u D σ H:=h _ λ_ _ x=>x
theorem oR{c:TT}(h:∀F:Bool->Hp->Prop,(∀a,t D σ a->F ν a)->(∀a,u D σ a->F μ a)->c σ H F):i5 c t u D σ H:=by
 refine h _ (λa x=>?_) λa x=>?_
 .show if ν=ν then _ else _;rw[LP Z];exact x
 .show if μ=ν then _ else _;rw[LV UJ];exact x
theorem dF(R:St->Hp->Prop)(c:∀E:a7,E.rt=D.rt->(∀a b,R a b->E.nx a b)->t E σ H)(d:∀a b,R a b->D.nx a b):GK t D σ H:=#[R,c { D with nx:=R } Z λ_ _ h=>h,d]
theorem oM{c:TT}{T:TS}(W:Nat->St->Hp->Prop)(d:Nat)(e:W d σ H)
  (f:∀m σ H,∀E:a7,E.rt=D.rt->(∀M a b,M < m->W M a b->E.nx a b)->∀F:Bool->Hp->Prop,(∀b,T E σ b->F ν b)->(∀b,D.nx σ b->F μ b)->∀G:Prop,(c σ H F->G)->W m σ H->G):ww c T D σ H:=by
 refine#[W,#[d,e],λm σ H w=>?_];refine f m σ H { D with nx:=λa b=>∃M,M < m/\W M a b,ct:=λa b=>∃M,M < m/\W M a b,bk:=D.nx } Z (λM a b l g=>#[M,l,g]) _ (λb x=>?_) (λb x=>?_) _ (λz=>z) w
 .show if ν=ν then _ else _;rw[LP Z];exact#[_,λ_ _ h=>h,x]
 .show if μ=ν then _ else _;rw[LV UJ];exact x
def pU(J:It)(g:TG)(T:TS)(D:a7)(σ:St)(H:Hp):Prop:=∃W:Nat->Nat->St->Hp->Prop,(∃m,W 0 m σ H)/\∀i m σ H,W i m σ H->
 (J.stop i H/\D.nx σ H)∨(J.go i H/\∃N:St->Hp->Prop,(∀a h,N a h->∃M,M < m/\W (i+1) M a h)/\∀x h,J.yld i H x h->g x σ h λb c=>T { D with nx:=N,ct:=N,bk:=D.nx } b c)
theorem eQ{w:TI}(h:∀F:It->Hp->Prop,(∀J a,pU J g T D σ a->F J a)->w σ H F):D7 w g T D σ H:=h _ λ_ _ z=>z
theorem Li{g:TG}{Q:St->Hp->Prop}(h:∀F:St->Hp->Prop,(∀a b,Q a b->F a b)->g x σ H F):g x σ H Q:=h _ λ_ _ z=>z
theorem kX{lo:Int}{g:TG}{T:TS}{D:a7}{σ:St}{H:Hp}(Pv:Nat->St->Hp->Prop)(d:Pv 0 σ H)
  (e:∀E:a7,E.rt=D.rt->∀i σ H,i < n->(∀a c,Pv (i+1) a c->E.nx a c)->∀G:Prop,((g (.int$ lo+i) σ H λb f=>T E b f)->G)->Pv i σ H->G) (j:∀σ H,Pv n σ H->D.nx σ H):pU (wM lo n) g T D σ H:=
 Qv Pv d (λi σ H k p=>e { D with nx:=Pv (i+1),ct:=Pv (i+1),bk:=D.nx } Z i σ H k (λ_ _ h=>h) _ (λz=>z) p) j
theorem QL{K:β}{a:η}{xs:List V}{g:TG}{T:TS}{D:a7}{σ:St}{H:Hp}(Pv:Nat->St->Hp->Prop)(e:Pv 0 σ H)(f:∀i σ H,i<=xs.length->Pv i σ H->aJ K H a xs)
  (j:∀E:a7,E.rt=D.rt->∀i x σ H,xs[i]?=δ x->(∀b d,Pv (i+1) b d->E.nx b d)->∀G:Prop,((g x σ H λc k=>T E c k)->G)->Pv i σ H->G) (l:∀σ H,Pv xs.length σ H->D.nx σ H):pU (wW K a) g T D σ H:=
 tq Pv e f (λi x σ H m p=>j { D with nx:=Pv (i+1),ct:=Pv (i+1),bk:=D.nx } Z i x σ H m (λ_ _ h=>h) _ (λz=>z) p) l
theorem Jj{K:β}{a:η}{xs:List V}{g:TG}{T:TS}{D:a7}{σ:St}{H:Hp}(Pv:Nat->St->Hp->Prop)(e:Pv 0 σ H)(f:∀i σ H,i<=xs.length->Pv i σ H->aC K H a xs)
  (j:∀E:a7,E.rt=D.rt->∀i x σ H,xs[i]?=δ x->(∀b d,Pv (i+1) b d->E.nx b d)->∀G:Prop,((g x σ H λc k=>T E c k)->G)->Pv i σ H->G) (l:∀σ H,Pv xs.length σ H->D.nx σ H):pU (wX K a) g T D σ H:=
 xJ Pv e f (λi x σ H m p=>j { D with nx:=Pv (i+1),ct:=Pv (i+1),bk:=D.nx } Z i x σ H m (λ_ _ h=>h) _ (λz=>z) p) l
end
end _L
namespace _L
open PySem PySem.Spec PyProof.Rows PySem.SeqAt
section
variable {prog:ψ}{w:bU}{A:bS}{E:ζ->ι->Prop}{s:ι}
theorem YJ{P:Fin->ι->Prop}(H:s.heap.get? a=δ (seqObj "list" [v].toArray n))
  (h:P (.done$ .ret .none) { s with heap:=sortedHeap s.heap a [v] (ε [v]) }):π (χ prog w) A (ea.«list.sort» #[[.ref a],[]]) P E s:=by
 rw[RC];refine Lr$ Sx H Z ?_;refine Lr$ Ol H Z ?_;obtain⟨e,b⟩:∃e,(s.heap.update a$ ab λ_=>(ε [])).get? a=δ (seqObj "list" (ε []) e):=#[_,RD H (λ_=>(ε []))];refine Lr$ OV b Z ?_;refine Lr$ Oc ?_;refine Lr$ N6 ?_;refine LI ?_;let g:(((s.heap.update a$ ab λ_=>(ε [])).push$ seqObj "tuple" [v].toArray 0).push$ seqObj "list" (ε []) 0).get? a=δ (seqObj "list" (ε []) e):=Lv _ (Lv _ b);show π (χ prog w) A _ P E { s with heap:=((s.heap.update a$ ab λ_=>(ε [])).push$ seqObj "tuple" [v].toArray 0).push (seqObj "list" (ε []) 0) };dsimp only;let S:[v].toArray.size < 2:=by show 1 < 2;decide
 rw[LP S,LP S];refine Lr$ Lu ?_;rw[SD];refine Lr$ Lu ?_;dsimp only;refine Lr$ OV g Z ?_;let c:(arrOf$ SortSt.mk' general' ([v].toArray.zip [v].toArray) (ε []) 7 θ).map (·.2)=(ε [v]):=by show([v].toArray.zip [v].toArray).map (·.2)=(ε [v]);simp
 rw[c];refine Lr$ Ol g Z ?_ (hsz2:=by show 1<=υ+1;omega);simp only[MY,LG,MT];exact Lu h
theorem Ag{Q:ζ->ι->Prop}(H:s.heap.IsList l [v].toArray)
  (h:Q (.ref$ s.heap.objs.size+1) { s with heap:=sortedAll s.heap [v] (ε [v]) }):π (χ prog w) A (call (.builtin "sorted") [.ref l]) Q E s:=by
 refine NN Rt P' Ra (Rb _) ?_;unfold ea.«sorted»;refine Lr (m:=checkCount "sorted" 1 1 _)$ Lu ?_;refine Lr$ Sz H ?_;refine Lr$ N6 ?_;let z:((s.heap.push$ seqObj "list" (ε []) 0).update s.heap.objs.size$ ab (·++[v].toArray)).objs.size=s.heap.objs.size+1:=by rw[PX,RS]
 let g:(((s.heap.push$ seqObj "list" (ε []) 0).update s.heap.objs.size$ ab (·++[v].toArray)).push$ seqObj "list" [v].toArray 0).get? (s.heap.objs.size+1)=δ (seqObj "list" [v].toArray 0):=by rw[<- z];exact LB _ Z
 show π _ _ _ _ _ { s with heap:=((s.heap.push$ seqObj "list" (ε []) 0).update s.heap.objs.size$ ab (·++[v].toArray)).push (seqObj "list" [v].toArray 0) };rw[z];refine Lr$ LI$ Mg Pp #[_,g,Z] Pj (YJ g #[_,Z,?_]) (Pu _);exact Lu #[_,Z,h]
end
inductive Tr where
 |lf (v:V) |tp (l:Tr) |nil |cons (h t:Tr)
noncomputable def Tr.dep:Tr->Nat
 | .lf _=>0
 | .tp l=>l.dep+1
 | .nil=>0
 | .cons h t=>max h.dep t.dep
noncomputable def Tr.isL:Tr->Bool
 | .nil=>ν
 | .cons _ _=>ν
 |_=>μ
noncomputable def Lb:V->Bool
 | .byt _=>μ
 | .flt _=>μ
 |_=>ν
end _L
namespace _L
open PySem PySem.Spec PyProof.Rows
noncomputable def Ho(K:β)(a:η)(n:Nat):It:=
 #[λi H=>∃X x,aC K H a X/\X.length=n/\X.reverse[i]?=δ x,λi H x h=>h=H/\∀X,aC K H a X->X.reverse[i]?=δ x,λi H=>∃X,aC K H a X/\X.length=n/\i=n]
theorem wB{P:ψ}{K:β}(a f:η)(n:Nat):oh P w K tg (Ho K a n) [f] f (λi h=>dH h f a ((n:Int) - 1 - i)) where
 mem:=by simp
 obj:=λi h st b j=>by
  let e:b=f:=by simpa using j
  subst e;let⟨o,e,c,d⟩:=st;exact#[o,e,λv z=>by rw[d]at z;cases z]
 keep:=λi h q st k=>st.at λo e=>k f UL o e
 item:=by
  intro X y A B O i g s Q H E I t st C;subst y A B;let⟨l,x,D,T,m⟩:=C;let⟨r,R,p,hz⟩:=I.tuple D;let hl:=R.length;let U:=eF;let V:i < l.length:=by
   rcases O2 i l.length with z |z
   .exact z
   .rw[MM (by simpa using z)]at m;cases m
  let F:l[l.length - 1 - i]?=δ x:=by rw[Oa V]at m;exact m
  let⟨u,W,Y⟩:=R.get F;let⟨G,J,f2,L,M,N⟩:=t f UL;let e:((n:Int) - 1 - i)=((l.length - 1 - i:Nat):Int):=by omega
  rw[e]at st;refine Ft (items:=r.toArray) st (show IsTup s.heap a r.toArray from p) (x:=u) (by simpa using W) (by simp only[LA];omega) λq S sb=>?_;let I1:au X g Q H { s with heap:=q,toks:=s.toks+1 }:=I.turned (t':=s.toks+1) (λb o j e=>(sb.2 b j).trans e) G J L M N;let⟨o,e',c,d⟩:=id S;refine#[u,Z,Y2 (s:={ s with heap:=q,toks:=s.toks+1 }) e' c d UJ #[x,H,I1,Y,#[Z,λys hy=>by rw[I.tuple_inj hy D];exact m],?_,λb j=>(t b j).1]];let e2:((n:Int) - 1 - ((i+1:Nat):Int))=((l.length - 1 - i:Nat):Int) - 1:=by omega
  show dH q f a ((n:Int) - 1 - ((i+1:Nat):Int));rw[e2];exact S
 done:=by
  intro X y A B O i g s Q H E I t st C;subst y A B;let⟨l,D,T,m⟩:=C;let⟨G,J,f2,L,M,N⟩:=t f UL;let e:((n:Int) - 1 - (i:Int))= -1:=by omega
  rw[e]at st;exact rB (I.ok.hd O) st λq eb=>#[Z,I.turned (t':=s.toks) (λb o j e=>eb b o j e) G J L M N]
 self:=λ_ _ _ _ _ st h=>A4 st h
section
variable {X:Cx}{tg:dr}
inductive AZ(K:β)(R:It->Hp->Prop)(x:V)(b:Hp):Prop
 |mk(a c:_)(_:x= .ref a)(_:aC K b a c)(_:R (Ho K a c.length) b)
def HU(K:β)(t:TE):TI:=λa H R=>t a H (AZ K R)
theorem uI{e:dr}{t:TE}{c:ρ}{p P:Pos}(j:Gl X c)(k:X.mg c=θ)(l:bootBuiltins c=δ (.type "reversed"))(y:PE X e t)(m:c≠"__name__":=by decide)(n:(c==("__debug__":ρ))=μ:=by decide)
  (r:Θ [e] X.env=(μ,eval e X.env)::Θ [] X.env:=by rfl) (A:(fx P$ Θ [] X.env).any (·.1)=μ:=by rfl):PI X tg (.Call (.Name c p) [e] [] P) (HU X.K t):=by
 intro d s B H R I h;refine Mt$ zu I j k l ?_ m n;refine Mn ?_ r A;rw[r];show π _ _ (spliced ((μ,eval e X.env)::fx P (Θ [] X.env))) _ _ s;refine Nk$ aU (y d s B H _ I h) λu S z=>?_;let⟨x,C,g,D,a,v,E,F,q⟩:=z;subst E;cases (show u=ω a from D);let⟨i,G,J,N⟩:=g.tuple F;let f:=G.length;let L:=eF;refine NG$ sF (show IsTup S.heap a i.toArray from J) (by simp only[LA];omega) ?_;let w:dH (S.heap.push$ revObj a i.toArray.size) S.heap.objs.size a ((v.length:Int) - 1 - ((0:Nat):Int)):=#[_,LB _ Z,Z,by rw[LA,<- f];simp [revObj]];refine A4 (s:={ S with heap:=S.heap.push (revObj a i.toArray.size),toks:=S.toks+1+1 }) w ?_;refine#[S.heap.objs.size,[S.heap.objs.size],_,_,C,Z,g.kept (t':=S.toks+1+1) λb o e=>Lv _ e,wB a _ v.length,w,λb M=>?_,q];let e:b=S.heap.objs.size:=by simpa using M
 subst e;exact g.fpOk (Lx _)$ g.hok.fresh$ Lx _
end
theorem Xw{K:β}{xs:List V}{g:TG}{t:TS}{D:a7}(Pv:Nat->St->Hp->Prop)(k:Pv 0 b H)(l:∀i b H,i<=xs.length->Pv i b H->aC K H a xs)
  (n:∀E:a7,E.rt=D.rt->∀i x b H,xs.reverse[i]?=δ x->(∀c f,Pv (i+1) c f->E.nx c f)->∀G:Prop,((g x b H λj o=>t E j o)->G)->Pv i b H->G) (r:∀b H,Pv xs.length b H->D.nx b H):pU (Ho K a xs.length) g t D b H:=by
 refine#[λi m b H=>m=xs.length - i/\i<=xs.length/\Pv i b H,#[xs.length,UL,LF _,k],?_];rintro i m b H ⟨rfl,s,p⟩;let q:=l i b H s p;by_cases d:i < xs.length
 .refine .inr #[#[xs,_,q,Z,Ls (by simpa using d)],Pv$ i+1,λc f P=>#[xs.length - (i+1),UK,Z,d,P],λx f y=>?_];let⟨e,y⟩:=y;subst e;exact n { D with nx:=Pv (i+1),ct:=Pv (i+1),bk:=D.nx } Z i x b _ (y xs q) (λ_ _ h=>h) _ (λz=>z) p
 .let e:i=xs.length:=by omega
  subst e;exact .inl #[#[xs,q,Z,Z],r b H p]
theorem vX:Slot "list_reverseiterator" "__length_hint__" "list_reverseiterator.__length_hint__":=by refine Slot.of (owner:="list_reverseiterator") (n:="__length_hint__") (by rw[MW,Mq];kernel_rfl) UM UM UM ?_ (by rw[Nb];kernel_rfl);first |exact .inl UM |exact .inr UM
theorem rE:typeLookup (.type "list_reverseiterator") "__len__"=pure θ:=by rw[MW,Mq];kernel_rfl
theorem D2:isSubtype (.type "list_reverseiterator") (.type "list_reverseiterator")=pure ν:=by rw[Nb];kernel_rfl
section
variable {prog:ψ}{w:bU}{A:bS}{E:ζ->ι->Prop}{s:ι}
theorem Cp(H:s.heap.IsRevIter I t k){Q:Bool->ι->Prop}(h:Q μ s):π (χ prog w) A (ir$ .ref I) Q E s:=by
 unfold ir;refine Lr$ Ng H.typeIs rE ?_;show π _ A (specialOf (ω I) (Str.ofString "__length_hint__") >>= _) _ _ _;refine Lr$ Ng H.typeIs vX.lookup ?_;let e:splitId "list_reverseiterator.__length_hint__"=δ ("list_reverseiterator","__length_hint__"):=by decide+kernel
 dsimp only;rw[e];dsimp only;refine Lr$ Nz (b:=ν) H.typeIs D2 ?_;simp only[Od,LG,MT];rw[LP UM,LV UM];exact Lu h
theorem pY{a:Array ζ}{Q:List ζ->ι->Prop}(z:A.handled=θ)(f:s.heap.IsRevIter I t ((a.size:Int) - 1))(r:s.heap.IsList t a)(B:t≠I)(C:a.size<=υ)
  (D:∀S,(∀b o,b≠I->s.heap.get? b=δ o->S.heap.get? b=δ o)->s.heap.objs.size<=S.heap.objs.size->S.gens=s.gens->S.os=s.os->Q a.toList.reverse S):π (χ prog w) A (collect$ .ref I) Q E s:=by
 let j:I < s.heap.objs.size:=by let⟨o,k,_⟩:=f;exact Lz k
 let n:t < s.heap.objs.size:=by let⟨o,k,_⟩:=r;exact Lz k
 let u:I≠s.heap.objs.size:=LC j;let F:t≠s.heap.objs.size:=LC n;unfold collect;refine Lr (RO (MX PU (by
  rw[My PR _];show π _ A.in1 (newList [] >>= λl=>again (.builtin "list.__iadd__" #[[l,.ref I],[]])) _ _ s;refine Lr$ Mm$ Lu #[Ny NT _,MX Rh ?_];rw[My NT _];generalize v:s.heap.push { cls:=.type "list",data:=.seq ([]:List ζ).toArray }=H;let J:H.get? s.heap.objs.size=δ { cls:=.type "list",data:=.seq (ε []) }:=by rw[<- v];exact LB _ Z
  let G:∀b o,s.heap.get? b=δ o->H.get? b=δ o:=λb o e=>by rw[<- v];exact Lv _ e
  let h:H.IsRevIter I t ((a.size:Int) - 1):=f.at λo e=>G I o e;let p:H.IsList t a:=r.at λo e=>G t o e;show π _ A.in1 (gs (.ref s.heap.objs.size) (.ref I)$ .ref s.heap.objs.size) _ _ { s with heap:=H };unfold gs;refine Lr$ Nn (s:={ s with heap:=H }) h.typeIs ?_;let K:ey (.ref s.heap.objs.size) (.ref I)=μ:=by simp only[ey,beq_eq_false_iff_ne];exact Me u
  let L:(eT "list_reverseiterator"==eT "list")=μ:=by decide
  let M:(eT "list_reverseiterator"==eT "tuple")=μ:=by decide
  simp only[K,L,M,RB,LG,MT];refine Lr$ wpAny_pyIter_revIter (s:={ s with heap:=H }) h$ Lr$ LI$ Cp (s:={ s with heap:=H }) h ?_;let N:¬s.heap.objs.size∈[I,t]:=by simp only[M8,Ma,Oj,not_or];exact#[Me u,Me F]
  rw[LV UM];refine Lu #[Ny PZ _,?_];let W:=(Walks.listRev (prog:=prog) (w:=w) (A:=A.in1) (by simpa using z) I t B a).toS;refine S0 W C _ N _ a.size 0 _ (ε []) _ Z (LF _) #[LF _,by simpa using h,p] J (To _) λS d U m x c=>?_;let O:d=a.toList.reverse.toArray:=by
   apply Array.ext';refine List.ext_getElem? λi=>?_;by_cases y:i < a.size
   .let g:i < d.size:=by rw[c.1];exact y
    let q:=c.2 i d[i] (by simp [g]);rw[M4,Np g,<- q];show a[a.size - 1 - i]?=a.toList.reverse[i]?;rw[Oa (by simpa using y)];simp
   .rw[MM (by rw[LU,c.1];omega),MM (by simp;omega)]
  subst O;show π _ A (load s.heap.objs.size >>= _) _ _ S;refine Lr$ Tu x$ Lu ?_;let P:a.toList.reverse.toArray.toList=a.toList.reverse:=by simp
  rw[P];refine D S (λb o R e=>?_) ?_ m.gens m.os
  .let T:b≠s.heap.objs.size:=LC (Lz e);exact m.heap b o (by simp only[M8,Ma,Oj,not_or];exact#[T,R])$ G b o e
  .exact NA$ Lz x)))
end
section
variable {prog:ψ}{w:bU}{A:bS}{E:ζ->ι->Prop}{s:ι}
theorem Xh{i:Array ζ}{Q:ζ->ι->Prop}(f:A.handled=θ)(H:s.heap.IsRevIter I t ((i.size:Int) - 1))(g:s.heap.IsList t i)(j:t≠I)(d:i.size<=υ)
  (h:∀S:ι,(∀b o,b≠I->s.heap.get? b=δ o->S.heap.get? b=δ o)->s.heap.objs.size<=S.heap.objs.size->S.gens=s.gens->S.os=s.os->
   Q (.ref S.heap.objs.size) { S with heap:=S.heap.push { cls:=.type "tuple",data:=.seq i.toList.reverse.toArray } }):
  hY (χ prog w) A (.call (.builtin "tuple.__new__") #[[.type "tuple",.ref I],[]]) (wants Q E) s:=by
 refine RE (show π _ A.in1 (do checkBuiltinCall "tuple.__new__" #[[.type "tuple",.ref I],[]];again (.builtin "tuple.__new__" #[[.type "tuple",.ref I],[]])) _ _ s from ?_);refine Lr (OU (PySem.F.newCall_tuple_1 _) (Lu #[Ny Rg _,MX PySem.F.entry_tuple_new (by
  rw[My Rg _];let e:=sub_tuple_self;let a:=init_tuple_lookup;let l:=madeHere_tuple;let c:=H.typeIs;wp_walk using Nn c,pY (by simpa using f) H g j d;intro S k z m n;show π _ _ (ef i.toList.reverse.toArray >>= λv=>ret v) _ _ _;unfold ef;exact Lr$ Mm (Lu$ h S k z m n) (by show i.toList.reverse.toArray.size<=υ;simpa using d))]))
theorem Xi{items:Array ζ}{Q:ζ->ι->Prop}(d:A.handled=θ)(c:s.heap.IsRevIter I t ((items.size:Int) - 1))(e:s.heap.IsList t items)(f:t≠I)(g:items.size<=υ)
  (h:∀a:ι,(∀b o,b≠I->s.heap.get? b=δ o->a.heap.get? b=δ o)->s.heap.objs.size<=a.heap.objs.size->a.gens=s.gens->a.os=s.os->
   Q (.ref a.heap.objs.size) { a with heap:=a.heap.push { cls:=.type "tuple",data:=.seq items.toList.reverse.toArray } }):π (χ prog w) A (call (.type "tuple") [.ref I]) Q E s:=by
 refine UA (Q₁:=λO S=>S.TypeIs O "tuple"/\Q O S) mI (PySem.F.typeCall_tuple_1 _) PySem.F.entry_object_init (Xh (by simpa using d) c e f g λa k z i j=>#[#[_,LB _ Z,Z],h a k z i j]) λO S H=>?_;exact#[H.1,Oh O _,object_init_meets mI.init.lookup mI.made UJ prog w A.in1 _ S #[H.1,Z,H.2]]
end
section
variable {X:Cx}{e:dr}{te:TE}{xl xr:ρ}{p p2 pos pos2:Pos}
inductive nO(K:β)(Q:VK)(x:V)(b:Hp):Prop
 |mk(a c:_)(_:x= .ref a)(_:aJ K b a c)(_:∀l,b l=θ->Q (.ref l) (af b l (.tup c.reverse)))
def Ap(K:β)(te:TE):TE:=λa H Q=>te a H (nO K Q)
theorem rV(M:X.calm=ν)(g:Gl X xl)(j:X.mg xl=θ)(l:bootBuiltins xl=δ (.type "tuple"))(m:Gl X xr)(n:X.mg xr=θ)(r:bootBuiltins xr=δ (.type "reversed"))(O:PE X e te)
  (t:xl≠"__name__":=by decide) (v:(xl==("__debug__":ρ))=μ:=by decide) (y:xr≠"__name__":=by decide) (A:(xr==("__debug__":ρ))=μ:=by decide)
  (E:Θ [.Call (.Name xr p2) [e] [] pos2] X.env=(μ,eval (.Call (.Name xr p2) [e] [] pos2) X.env)::Θ [] X.env:=by rfl) (T:(fx pos$ Θ [] X.env).any (·.1)=μ:=by rfl)
  (F:Θ [e] X.env=(μ,eval e X.env)::Θ [] X.env:=by rfl) (U:(fx pos2$ Θ [] X.env).any (·.1)=μ:=by rfl):
  PE X (.Call (.Name xl p) [.Call (.Name xr p2) [e] [] pos2] [] pos) (Ap X.K te):=by
 intro P s V H Q I h;refine Mt$ zu I g j l ?_ t v;refine Mn ?_ E T;rw[E];show π _ _ (spliced ((μ,eval (.Call (.Name xr p2) [e] [] pos2) X.env)::fx pos (Θ [] X.env))) _ _ s;refine Nk ?_;refine Mt$ zu I m n r ?_ y A;refine Mn ?_ F U;rw[F];show π _ _ (spliced ((μ,eval e X.env)::fx pos2 (Θ [] X.env))) _ _ s;refine Nk$ aU (O P s V H _ I h) λu d B=>?_;let⟨x,W,f,Y,a,G,ex,hq,q⟩:=B;subst ex;cases (show u=ω a from Y);let⟨i,R,C,hz⟩:=f.list hq;let J:=R.length;refine NG$ call_reversed_list C.isList$ NG ?_;let D:a < d.heap.objs.size:=by let⟨o,ho,_⟩:=C.isList;exact Lz ho
 refine Xi (s:={ d with heap:=d.heap.push (PySem.revObj a ((i.toArray.size:Int) - 1)) }) (items:=i.toArray) (I.ok.hd M) #[_,LB _ Z,Z,Z] (C.isList.at λo e=>Lv _ e) (LC D)
  (by simp only[LA];omega) λS k hl kg ko=>?_
 let c:d.heap.objs.size<=S.heap.objs.size:=LJ (by show _<=(d.heap.push _).objs.size;rw[Mr];exact MZ _) hl;let L:∀b o,d.heap.get? b=δ o->(S.heap.push { cls:=.type "tuple",data:=.seq i.toArray.toList.reverse.toArray }).get? b=δ o:=λb o e=>Lv _ (k b o (LC$ Lz e)$ Lv _ e);let hg:(S.heap.push { cls:=.type "tuple",data:=.seq i.toArray.toList.reverse.toArray }).get? S.heap.objs.size=δ { cls:=.type "tuple",data:=.seq i.toArray.toList.reverse.toArray }:=LB _ Z;let N:aM X.prog X.w (af W S.heap.objs.size$ .tup G.reverse) (S.heap.push { cls:=.type "tuple",data:=.seq i.toArray.toList.reverse.toArray }) S.heap.objs.size (.tup G.reverse):=by
  refine#[by rw[Sd];exact hz,i.reverse,ax.reverse R,?_];let ee:i.toArray.toList.reverse.toArray=i.reverse.toArray:=by simp
  rw[<- ee];exact#[_,hg,Z,_,Z]
 exact#[.ref S.heap.objs.size,_,f.call' (ch:=[]) ko (Un.laid L c$ f.hok.fresh c) (f.hok.laid L c N) (by show AllBare S.gens;rw[kg];exact f.bare) (λ_ z=>nomatch z),Z,q _$ f.hok.fresh c]
end
section
variable {prog:ψ}{w:bU}{A:bS}{E:ζ->ι->Prop}{s:ι}
theorem KM{x:ζ}{Q:ζ->ι->Prop}(a:s.heap.IsTupleIter J T i)(e:s.heap.IsTuple T I)(f:I[i]?=δ x)
  (q:∀b,b.IsTupleIter J T (i+1)->fv J s.heap b->Q x { s with heap:=b }):π (χ prog w) A (Ω$ .ref J) Q E s:=by
 let⟨o,H,g,h⟩:=id a;let⟨O,c,_,n,d⟩:=e;unfold Ω;refine Lr$ Mj (name:=Str.ofString "__next__") a.typeIs MK$ Mg MK a.typeIs NY (show π _ _ (field (.ref J) 0 >>= _) _ _ s from ?_)$ NR _;refine Lr$ LY H h (x:=.ref T) Z (show π _ _ (if (ω T==Ψ)=ν then _ else _) _ _ s from ?_);rw[LV (show ¬((ω T==Ψ)=ν) from LD)];refine(show π _ _ (field (.ref J) 1 >>= _) _ _ s from Lr$ LY H h (x:=.int i 0) Z (show π _ _ (seqItems? (.ref T) >>= _) _ _ s from Lr$ Mz c d ?_));simp only[Mx,f];refine Lr$ Ms H h UL$ Lu #[x,Z,Lu$ q _ #[_,Mi _ H$ MN$ Mf h _,(N9 ..).trans g,by rw[Mf h];simp [rawInt]] (M9 ..)]
theorem rC(g:A.handled=θ)(H:s.heap.IsTupleIter J T i)(j:s.heap.IsTuple T I)(l:I[i]?=θ)
  (q:∀h e,mL J s.heap h->Shared.TypeIs { s with heap:=h } e "StopIteration"->E e { s with heap:=h }):π (χ prog w) A (Ω$ .ref J) Q E s:=by
 let⟨o,a,p,c⟩:=id H;let⟨O,d,_,N,f⟩:=j;unfold Ω;refine Lr$ Mj (name:=Str.ofString "__next__") H.typeIs MK$ Mg MK H.typeIs NY (show π _ _ (field (.ref J) 0 >>= _) _ _ s from ?_)$ NR _;refine Lr$ LY a c (x:=.ref T) Z (show π _ _ (if (ω T==Ψ)=ν then _ else _) _ _ s from ?_);rw[LV (show ¬((ω T==Ψ)=ν) from LD)];refine(show π _ _ (field (.ref J) 1 >>= _) _ _ s from Lr$ LY a c (x:=.int i 0) Z (show π _ _ (seqItems? (.ref T) >>= _) _ _ s from Lr$ Mz d f ?_));simp only[Mx,l];refine Lr$ Nh$ Lr$ Ms a c UL ?_;refine JY (by simpa using g) λh e k t=>q h e (λb o m n=>k b o ?_) t;exact(LO _ _$ Me m).trans n
end
def gZ(b:Bool)(h:cJ)(i l:η)(k:Nat):Prop:=match b with
 |true=>h.IsListIter i l k
 |false=>h.IsTupleIter i l k
def i7(b:Bool)(h:cJ)(l:η)(x:Array ζ):Prop:=match b with
 |true=>h.IsList l x
 |false=>h.IsTuple l x
noncomputable def fX:Bool->String
 |true=>"list_iterator"
 |false=>"tuple_iterator"
theorem gZ.kp{b:Bool}{H:cJ}(x:gZ b h i l k)(e:∀o,h.get? i=δ o->H.get? i=δ o):gZ b H i l k:=by
 cases b
 .exact Tq x e
 .let⟨o,a,r⟩:=x;exact#[o,e o a,r]
theorem i7.kp{b:Bool}{H:cJ}{xs:Array ζ}(x:i7 b h l xs)(e:∀o,h.get? l=δ o->H.get? l=δ o):i7 b H l xs:=by
 cases b
 .let⟨o,a,r⟩:=x;exact#[o,e o a,r]
 .exact UH x e
theorem gZ.ob(x:gZ b h i l k):∃o,h.get? i=δ o/\o.cls= .type (fX b)/\∀v,o.data≠ .cell v:=by
 cases b
 .let⟨o,H,c,d⟩:=x;exact#[o,H,c,λv z=>by rw[d]at z;cases z]
 .let⟨o,H,c,d⟩:=x;exact#[o,H,c,λv z=>by rw[d]at z;cases z]
section
variable {prog:ψ}{w:bU}{A:bS}{E:ζ->ι->Prop}{s:ι}
theorem qj{Q:ζ->ι->Prop}(H:gZ b s.heap J T i)(a:i7 b s.heap T I)(c:I[i]?=δ x)
  (q:∀h,gZ b h J T (i+1)->fv J s.heap h->Q x { s with heap:=h }):π (χ prog w) A (Ω$ .ref J) Q E s:=by
 cases b
 .exact KM H a c q
 .exact wpAny_nextOf_list_item H a c q
theorem QM(H:A.handled=θ)(a:gZ b s.heap J T i)(c:i7 b s.heap T I)(d:I[i]?=θ)
  (q:∀h e,mL J s.heap h->Shared.TypeIs { s with heap:=h } e "StopIteration"->E e { s with heap:=h }):π (χ prog w) A (Ω$ .ref J) Q E s:=by
 cases b
 .exact rC H a c d q
 .exact wpAny_nextOf_list_end H a c d λh e k #[o,f,g]=>q h (.ref e) k #[o,f,g]
theorem A6{Q:ζ->ι->Prop}(h:i7 b s.heap T i)
  (q:Q (.ref s.heap.objs.size) { s with heap:=s.heap.push { cls:=.type (fX b),data:=.fields (ε [.ref T,.int 0 0]) } }):π (χ prog w) A (pyIter$ .ref T) Q E s:=by
 cases b
 .exact N8 h q
 .exact OT h q
structure xg(z u v c d a b:η):Prop where
 uz:u≠z
 vz:v≠z
 cz:c≠z
 dz:d≠z
 uv:u≠v
 uc:u≠c
 ud:u≠d
 vc:v≠c
 vd:v≠d
 cd:c≠d
 az:a≠z
 av:a≠v
 ac:a≠c
 ad:a≠d
 bz:b≠z
 bv:b≠v
 bc:b≠c
 bd:b≠d
theorem Av{Q:Option ζ->ι->Prop}(D:xg z u v c d a b)
  (H:IsZip s.heap z u v .none) (hu:IsPair s.heap u (.ref c) (.ref d)) (hv:IsPair s.heap v p q) (h1:gZ B s.heap c a k) (h2:gZ C s.heap d b k) (g1:i7 B s.heap a xs) (g2:i7 C s.heap b ys) (hx:xs[k]?=δ x) (hy:ys[k]?=δ y)
  (hQ:∀h,IsZip h z u v (rawInt s.heap.objs.size)->IsPair h v x y->gZ B h c a (k+1)->gZ C h d b (k+1)->IsPair h s.heap.objs.size x y->h.objs.size=s.heap.objs.size+1->
   (∀e o,e≠z->e≠v->e≠c->e≠d->s.heap.get? e=δ o->h.get? e=δ o)->Q (δ$ .ref s.heap.objs.size) { s with heap:=h }):π (χ prog w) A (pyNext$ .ref z) Q E s:=by
 let W:s.TypeIs (.ref z) "zip":=#[_,H,Z];unfold pyNext;refine Lr$ Nx$ Mj (name:=Str.ofString "__next__") W MS$ Mg MS W N5 (show π _ _ (field (.ref z) 2 >>= _) _ _ _ from ?_)$ NV _;refine Lr$ LY H Z (x:=.bool μ) Z (show π _ _ (field (.ref z) 3 >>= _) _ _ _ from Lr$ LY H Z (x:=.ref u) Z$ Lr$ Mz hu Z ?_);refine(show π _ _ (bF (.ref z) >>= _) _ _ _ from Lr ?_);unfold bF;refine Lr$ LY H Z (x:=.none) Z$ Lu ?_;simp only[On];refine Lr$ Nh$ Lr$ LY H Z (x:=.ref v) Z$ Lr$ NH H UL λX F S=>?_;replace F:IsZip X z u v .ellipsis:=F;refine Lr ?_;simp only[SO,Tb,NC,Oo];refine Lr$ Lr$ PQ (show π _ _ (Ω (.ref c) >>= _) _ _ _ from ?_);refine Lr$ qj (s:={ s with heap:=X }) (h1.kp λo e=>S.extBut _ _ D.cz e) (g1.kp λo e=>S.extBut _ _ D.az e) hx λG i2 l=>Lu ?_;let Y:IsPair G v p q:=l.extBut _ _ D.vc (S.extBut _ _ D.vz hv);refine Lr$ Mz (s:={ s with heap:=G }) Y Z$ Lr$ SV (s:={ s with heap:=G }) Y λI J r=>?_;replace J:IsPair I v x q:=J;refine Lr$ SX$ Lu$ Lr$ Lr$ PQ (show π _ _ (Ω (.ref d) >>= _) _ _ _ from ?_);let K:∀e o,e≠z->e≠c->e≠v->s.heap.get? e=δ o->I.get? e=δ o:=λe o N f g w=>r.extBut _ _ g (l.extBut _ _ f$ S.extBut _ _ N w);refine Lr$ qj (s:={ s with heap:=I }) (h2.kp λo e=>K _ _ D.dz D.cd.symm D.vd.symm e) (g2.kp λo e=>K _ _ D.bz D.bc D.bv e) hy λL i4 i=>Lu ?_;let v4:IsPair L v x q:=i.extBut _ _ D.vd J;refine Lr$ Mz (s:={ s with heap:=L }) v4 Z$ Lr$ SV (s:={ s with heap:=L }) v4 λm V j=>?_;replace V:IsPair m v x y:=V;refine Lr$ SX$ Lu$ Lu$ Lr$ Mz (s:={ s with heap:=m }) V Z$ Lr$ Oc ?_;let e5:m.objs.size=s.heap.objs.size:=by rw[j.1,i.1,r.1,l.1,S.1]
 let k5:∀e o,e≠z->e≠v->e≠c->e≠d->s.heap.get? e=δ o->m.get? e=δ o:=λe o N f g O w=>j.extBut _ _ f (i.extBut _ _ O$ K e o N g f w);let z5:IsZip m z u v .ellipsis:=j.extBut _ _ D.vz.symm (i.extBut _ _ D.dz.symm$ r.extBut _ _ D.vz.symm$ l.extBut _ _ D.cz.symm F);let j1:gZ B m c a (k+1):=i2.kp λo e=>j.extBut _ _ D.vc.symm (i.extBut _ _ D.cd$ r.extBut _ _ D.vc.symm e);let j2:gZ C m d b (k+1):=i4.kp λo e=>j.extBut _ _ D.vd.symm e;let lz:z < m.objs.size:=Lz z5;refine(show π _ _ (lq (.ref z) (.ref m.objs.size) >>= _) _ _ _ from Lr ?_);unfold lq;let z6:IsZip (m.push { cls:=.type "tuple",data:=.seq (ε [x,y]) }) z u v .ellipsis:=Lv _ z5;refine Lr$ NH z6 UL λm7 P R=>?_;replace P:IsZip m7 z u v (rawInt m.objs.size):=P;refine NH P UL λM t T=>?_;replace t:IsZip M z u v (rawInt m.objs.size):=t;let U:∀e o,e≠z->m.get? e=δ o->M.get? e=δ o:=λe o n w=>T.extBut _ _ n (R.extBut _ _ n$ Lv _ w);let t8:IsPair M m.objs.size x y:=T.extBut _ _ (Mv lz) (R.extBut _ _ (Mv lz)$ LB _ Z);let e8:M.objs.size=m.objs.size+1:=by rw[T.1,R.1,Mr]
 rw[e5]at t t8 e8;refine Lu #[_,Z,Lu ?_];show Q (δ$ .ref m.objs.size) _;rw[e5];exact hQ M t (U _ _ D.vz V) (j1.kp λo e=>U _ o D.cz e) (j2.kp λo e=>U _ o D.dz e) t8 e8 λe o N f g O w=>U e o N (k5 e o N f g O w)
theorem Eh{b2:Bool}{ys:Array ζ}{p q:ζ}{Q:Option ζ->ι->Prop}(C:A.handled=θ)(D:xg z u v c d a b)
  (h:IsZip s.heap z u v .none) (F:IsPair s.heap u (.ref c) (.ref d)) (G:gZ I s.heap c a k) (J:i7 I s.heap a L) (K:L[k]?=θ)
  (O:∀H,(∀e o,e≠z->e≠v->e≠c->e≠d->s.heap.get? e=δ o->H.get? e=δ o)->Q θ { s with heap:=H }):π (χ prog w) A (pyNext$ .ref z) Q E s:=by
 let g:s.TypeIs (.ref z) "zip":=#[_,h,Z];unfold pyNext;refine Lr$ Nx$ Mj (name:=Str.ofString "__next__") g MS$ Mg MS g N5 (show π _ _ (field (.ref z) 2 >>= _) _ _ _ from ?_)$ NV _;refine Lr$ LY h Z (x:=.bool μ) Z (show π _ _ (field (.ref z) 3 >>= _) _ _ _ from Lr$ LY h Z (x:=.ref u) Z$ Lr$ Mz F Z ?_);refine(show π _ _ (bF (.ref z) >>= _) _ _ _ from Lr ?_);unfold bF;refine Lr$ LY h Z (x:=.none) Z$ Lu ?_;simp only[On];refine Lr$ Nh$ Lr$ LY h Z (x:=.ref v) Z$ Lr$ NH h UL λm f S=>?_;replace f:IsZip m z u v .ellipsis:=f;refine Lr ?_;simp only[SO,Tb,NC,Oo];refine Lr$ Lr$ PQ (show π _ _ (Ω (.ref c) >>= _) _ _ _ from ?_);refine Lr$ QM (s:={ s with heap:=m }) (by simpa using C) (G.kp λo e=>S.extBut _ _ D.cz e) (J.kp λo e=>S.extBut _ _ D.az e) K λM e i j=>?_;let l:IsZip M z u v .ellipsis:=i _ _ D.cz.symm f;refine NH (s:={ s with heap:=M }) l UL λn U r=>?_;let t:Shared.TypeIs { s with heap:=n } e "StopIteration":=by
  cases e with
  |ref x=>
   let⟨o,y,B⟩:=j;let P:x≠z:=λw=>by subst w;let:=y.symm.trans l;cases this;injection B with w;exact absurd w UJ
   exact#[o,r.extBut _ _ P y,B]
  |_=>exact j
 exact Lr$ Nz (T:="StopIteration") (b:=ν) t Pq$ Lu$ O n λe o N V R W w=>r.extBut _ _ N (i _ _ R$ S.extBut _ _ N w)
theorem Ei{b1 b2:Bool}{xs ys:Array ζ}{Q:ζ->ι->Prop}(J:i7 b1 s.heap a xs)(L:i7 b2 s.heap b ys)
  (h:∀H,IsZip H (s.heap.objs.size+4) (s.heap.objs.size+2) (s.heap.objs.size+3) .none->IsPair H (s.heap.objs.size+2) (.ref s.heap.objs.size) (.ref$ s.heap.objs.size+1)->
   IsPair H (s.heap.objs.size+3) .none .none->gZ b1 H s.heap.objs.size a 0->gZ b2 H (s.heap.objs.size+1) b 0->(∀e o,s.heap.get? e=δ o->H.get? e=δ o)->Q (.ref$ s.heap.objs.size+4) { s with heap:=H }):
  π (χ prog w) A (call (.type "zip") [.ref a,.ref b]) Q E s:=by
 refine SA (S:=λ_ R c=>c=s/\R (.ok$ .ret$ .ref$ s.heap.objs.size+4) { s with heap:=((((s.heap.push { cls:=.type (fX b1),data:=.fields (ε [.ref a,.int 0 0]) }).push { cls:=.type (fX b2),data:=.fields (ε [.ref b,.int 0 0]) }).push { cls:=.type "tuple",data:=.seq (ε [.ref s.heap.objs.size,.ref$ s.heap.objs.size+1]) }).push { cls:=.type "tuple",data:=.seq (ε [.none,.none]) }).push { cls:=.type "zip",data:=.fields (ε [.none,.bool μ,.bool μ,.ref$ s.heap.objs.size+2,.ref$ s.heap.objs.size+3]) } })
  PySem.F.called_zip UJ (PySem.F.typeCall_zip_2 _ _) (PySem.F.newCall_zip_2 _ _) (λO=>PySem.F.args_object_init_3 O _ _) PySem.F.entry_zip_new (.of_wp λp w' A' R c P=>?_) #[Z,?_]
 .let⟨rfl,q⟩:=P;let⟨r,g,D,t,os⟩:=c;let u:=sub_zip;let T:i7 b1 (Shared.heap #[r,g,D,t,os]) a xs:=J;let _L:i7 b2 (Shared.heap #[r.push { cls:=.type (fX b1),data:=.fields (ε [.ref a,.int 0 0]) },g,D,t,os]) b ys:=L.kp λo e=>Lv _ e;wp_walk using A6 T,A6 _L;refine#[_,Z,?_];simp only[Mr]at q ⊢;exact q
 .let z (h:cJ) (o:ge):(h.push o).objs.size=h.objs.size+1:=Mr ..;generalize d:s.heap.push { cls:=.type (fX b1),data:=.fields (ε [.ref a,.int 0 0]) }=M;generalize f:M.push { cls:=.type (fX b2),data:=.fields (ε [.ref b,.int 0 0]) }=i;generalize j:i.push { cls:=.type "tuple",data:=.seq (ε [.ref s.heap.objs.size,.ref$ s.heap.objs.size+1]) }=k;generalize l:k.push { cls:=.type "tuple",data:=.seq (ε [.none,.none]) }=n;generalize v:n.push { cls:=.type "zip",data:=.fields (ε [.none,.bool μ,.bool μ,.ref$ s.heap.objs.size+2,.ref$ s.heap.objs.size+3]) }=m;let N:M.objs.size=s.heap.objs.size+1:=by rw[<- d,z]
  let x:i.objs.size=s.heap.objs.size+2:=by rw[<- f,z,N]
  let y:k.objs.size=s.heap.objs.size+3:=by rw[<- j,z,x]
  let U:n.objs.size=s.heap.objs.size+4:=by rw[<- l,z,y]
  let K:∀e o,n.get? e=δ o->m.get? e=δ o:=λe o w=>by rw[<- v];exact Lv _ w
  let B:∀e o,k.get? e=δ o->m.get? e=δ o:=λe o w=>K e o (by rw[<- l];exact Lv _ w);let C:∀e o,i.get? e=δ o->m.get? e=δ o:=λe o w=>B e o (by rw[<- j];exact Lv _ w);let G:∀e o,M.get? e=δ o->m.get? e=δ o:=λe o w=>C e o (by rw[<- f];exact Lv _ w);let V:∀e o,s.heap.get? e=δ o->m.get? e=δ o:=λe o w=>G e o (by rw[<- d];exact Lv _ w);let I:IsZip m (s.heap.objs.size+4) (s.heap.objs.size+2) (s.heap.objs.size+3) .none:=by rw[<- U,<- v];exact LB _ Z
  let W:IsPair m (s.heap.objs.size+3) .none .none:=K _ _ (by rw[<- y,<- l];exact LB _ Z);let X:IsPair m (s.heap.objs.size+2) (.ref s.heap.objs.size) (.ref$ s.heap.objs.size+1):=B _ _ (by rw[<- x,<- j];exact LB _ Z);let Y:m.get? (s.heap.objs.size+1)=δ { cls:=.type (fX b2),data:=.fields (ε [.ref b,.int 0 0]) }:=C _ _ (by rw[<- N,<- f];exact LB _ Z);let q1:m.get? s.heap.objs.size=δ { cls:=.type (fX b1),data:=.fields (ε [.ref a,.int 0 0]) }:=G _ _ (by rw[<- d];exact LB _ Z);refine#[#[_,I,Z],h m I X W ?_ ?_ V]
  .cases b1<;>exact#[_,q1,Z,Z]
  .cases b2<;>exact#[_,Y,Z,Z]
end
theorem Aw(n a b:Nat)(h:a < n)(H:b < n):xg (n+4) (n+2) (n+3) n (n+1) a b:=by refine#[?_,?_,?_,?_,?_,?_,?_,?_,?_,?_,?_,?_,?_,?_,?_,?_,?_,?_]<;>(show(_:Nat)≠_;omega)
section
variable {prog:ψ}{w:bU}{A:bS}{E:ζ->ι->Prop}
theorem AF(h:l≠J):∀(n i:Nat) (s:ι) (Q:List ζ->ι->Prop),s.heap.IsListIter J l i->s.heap.IsList l I->i+n<=I.size->
  (∀a,a.IsListIter J l (i+n)->fv J s.heap a->Q ((I.toList.drop i).take n) { s with heap:=a })->π (χ prog w) A (draw (.ref J) n) Q E s
 |0,i,s,Q,b,_,_,q=>show π _ _ (pure []) Q E s from Lu (by simpa using q s.heap b (Rr ..))
 |n+1,i,s,Q,b,c,d,q=>by
  let H:i < I.size:=by omega
  refine(show π _ _ (pyNext (.ref J) >>= _) Q E s from Lr$ Su b c (x:=I[i]) (by simp [H]) λm j S=>?_);refine Lr$ LI$ AF h n (i+1) _ _ j (c.extBut S.extBut h) UK λf g k=>Lu ?_;let e:=q f (by rw[show i+(n+1)=i+1+n by omega];exact g) (S.trans k);rwa [show I.toList.drop i=I[i]::I.toList.drop (i+1) by simp [Rq,H],List.take_succ_cons]at e
theorem Aq{s:ι}{Q:List ζ->ι->Prop}(f:A.handled=θ)(h:s.heap.IsList l i)(a:i.size=n)
  (q:∀c,mL s.heap.objs.size s.heap c->Q i.toList { s with heap:=c }):π (χ prog w) A (unpackItems (.ref l) n θ) Q E s:=by
 let H:l≠s.heap.objs.size:=by let⟨o,g,_⟩:=h;exact LC$ Lz g
 unfold unpackItems;refine Lr ?_;unfold notIterableAtAll;refine Lr$ Ng h.typeIs slot_list_iter.lookup ?_;refine Lu ?_;simp only[LG,MT];refine Lr$ LI$ OT h ?_;let I:(s.heap.push { cls:=.type "list_iterator",data:=.fields (ε [.ref l,.int 0 0]) }).IsListIter s.heap.objs.size l 0:=#[_,LB _ Z,Z,Z];refine Lr$ LI$ AF H n 0 _ _ I (h.push _) UK λj J S=>?_;let k:(i.toList.drop 0).take n=i.toList:=by rw[Tk,MP (by simp [a])]
 rw[k,LV (by simp [a])];let L:j.IsList l i:=(h.push _).extBut S.extBut H;refine Lr$ LI$ SJ f J L (by simp [a]) λm p=>?_;simp only[Option.isSome_none,LG,MT];exact Lu$ q m λb o d e=>p b o d (S.extBut b o d$ Lv _ e)
end
section
variable {X:Cx}{pos:Pos}
inductive HS(K:β)(n:Nat)(t:xf)(v:V)(c:St)(H:Hp)(Q:St->Hp->Prop):Prop
 |mk(a b:_)(_:v= .ref a)(_:aJ K H a b)(_:b.length=n)(_:t b c H Q)
theorem Zi{E:List dr}{k n:Nat}{t:xf}(g:X.calm=ν)(h:En X E t)
  (i:(assignEach E X.env).length=n:=by rfl) (c:(assignEach E X.env).findIdx? (·.1)=θ:=by rfl):PG X (.Tuple E k pos) (HS X.K n t):=by
 intro P s f H v u Q I r d;let⟨a,x,j,l,m,d⟩:=d;subst j;cases r;let⟨q,R,p,A⟩:=I.list l;rw[assign_Tuple];refine Lr$ Nw ?_;unfold unpack;rw[i,c];refine Lr$ LI$ Aq (I.ok.hd g) p.isList (by simp [<- m,R.length]) λw y=>?_;let z:au X P f H { s with heap:=w }:=I.kept (t':=s.toks) λb o e=>y b o (LC$ Lz e) e;exact h P _ f H x _ Q z (by simpa using R) d
inductive wf(K:β)(i j k:Nat)(D:a7)(f:St)(x:V)(b:Hp):Prop
 |mk(a c d e:_)(_:x= .ref a)(_:aC K b a [c,d,e])(_:D.nx (((f.set k (δ e)).set j (δ d)).set i (δ c)) b)
def Br(K:β)(t:TE)(i j k:Nat):TS:=λD a H=>t a H (wf K i j k D a)
theorem yH{t e:dr}{T:TE}{x y z:ρ}{i j k:Nat}(n:X.calm=ν)(c:X.N.Nodup)(w:X.N[i]?=δ x)(A:X.N[j]?=δ y)(B:X.N[k]?=δ z)(L:pW X.env.scope x)(C:pW X.env.scope y)(E:pW X.env.scope z)(F:PE X e T)
  (G:X.fn x=ν∨X.env.scope.names.lookup x=δ .local:=by first |exact .inl Z |exact .inr Z) (J:X.fn y=ν∨X.env.scope.names.lookup y=δ .local:=by first |exact .inl Z |exact .inr Z) (M:X.fn z=ν∨X.env.scope.names.lookup z=δ .local:=by first |exact .inl Z |exact .inr Z)
  (O:swapsWithSole [t] e pos.line X.env=pure μ:=by rfl) (P:swappedStores [t] e X.env=pure (δ [x,y,z]):=by rfl):PS X (.Assign [t] e pos) (Br X.K T i j k):=by
 intro p s f H D I h;rw[Ua];refine Lr$ Nw ?_;rw[O];refine Lr$ Lu ?_;rw[LV UJ];refine Lr$ aU (F p s f H _ I h) λv S d=>?_;let⟨xv,g,l,R,a,v1,v2,v3,Q,V,q⟩:=d;rw[P];refine Lr$ Lu ?_;subst Q;cases R;let⟨W,r,Y,hz⟩:=l.tuple V;cases r with
 |cons q1 r=>
  cases r with
  |cons q2 r=>
   cases r with
   |cons q3 r=>
    cases r
    rename_i u U m
    unfold assignStores;refine Lr$ Nh$ Lr$ Sf (items:=(ε [u,U,m])) (I.ok.hd n) Y λh' hx=>?_;let I2:au X p f g { S with heap:=h' }:=l.kept (t':=S.toks) λb o e=>hx b o (LC$ Lz e) e;refine Lr ?_;show π _ _ (assignInOrder [λv=>bindName X.env z v,λv=>bindName X.env y v,λv=>bindName X.env x v] [m,U,u]) _ _ _;refine Lr$ LI$ OB$ kn I2 c B E q3 (λs2 I3=>?_) M;refine Lr$ LI$ OB$ kn I3 c A C q2 (λs3 I4=>?_) J;refine Lr$ LI$ OB$ kn I4 c w L q1 (λs4 I5=>?_) G;exact Lu$ Lu #[_,g,I5,q]
end
theorem xH(l b:η)(I i:Array ζ)(n N:Nat)(D:Option η)(S:Array (Option ζ))(e:¬(!I.isEmpty&&fJ (I.size+i.size))=ν)(W:I.size<=υ)(a:I.size+i.size<=υ+1):
  Meets (ea.«list.extend» #[[.ref l,.ref b],[]]) (λ_ R s=>s.heap.get? l=δ { cls:=.type "list",dict:=θ,data:=.seq I n,slots:=(ε []) }/\s.heap.get? b=δ #[.type "tuple",D,.seq i N,S]/\R (.ok$ .ret Ψ) { s with heap:=s.heap.update l (ab λx=>x++i),toks:=s.toks }):=by
 refine TJ λp w A R s h=>?_;let⟨f,g,d,t,os⟩:=s;let⟨H,c,h⟩:=h;let F:=AutoSeq1.idx_int;let j:=AutoSeq1.sub_tuple_tuple;let k:=AutoSeq1.sub_list_list;let m:=AutoSeq1.sub_tuple_list;let o:=AutoSeq1.sub_list_tuple;let hz:(I++i).size<=υ+1:=by rw[Pw];exact a
 wp_walk using (Ph H Z (hz:=W) (_hz':=hz)),M5 H,M5 c;exact#[_,Z,h]
section
variable {X:Cx}
inductive iD(K:β)(x:V)(a:List V)(H:Hp)(Q:VK):Prop
 |mk(l b c d:_)(_:x= .ref l)(_:a=[.ref b])(_:H l=δ (.lst c))(_:aC K H b d)(_:c.length+d.length<=υ)(_:Q .non (af H l (.lst (c++d))))
theorem YK:G7 X "list.extend" (iD X.K):=by
 intro p s A H x V v U Q I g j h;let⟨l,b,B,C,rfl,rfl,f,k,D,q⟩:=h;cases g;let⟨u,rfl,m⟩:=j.one;cases m;let⟨z,a,n,r,E,e⟩:=I.lstM f;let⟨i,R,P,F⟩:=I.tuple k;let o:=R.length;let d:a.toArray.size+i.toArray.size<=υ:=by rw[LA,LA];omega
 let c:¬(!a.toArray.isEmpty&&fJ (a.toArray.size+i.toArray.size))=ν:=by rw[f8 d,Pf];exact LD
 obtain⟨⟨G,O,J,S⟩,t,w,N,y⟩:=P;cases w;cases y;refine PY Te #[_,e,Z] SU (SG _ _) (xH l b a.toArray i.toArray n N O S c (by rw[LA];omega) UK) #[e,t,?_];refine#[.non,_,I.lset (its':=a++i) f e UL (r.append R) (by rw[Ly];omega),Z,q]
end
section
variable {prog:ψ}{w:bU}{A:bS}{E:ζ->ι->Prop}{s:ι}
theorem Js{R:Result->ι->Prop}{P:Nat->ζ->Prop}{St:Nat->ι->Prop}
  (W:WalksS prog w A.in1 I N j G n P St) (S:η) (H:¬S∈N) (c:List ρ) (O:c.length=n) (Q:∀i v,P i v->∃x t,c[i]?=δ x/\v= .str x t) (d:∀L:List ρ,L.Nodup->(∀x∈L,x∈c)->L.length+1 < scanBound):
  ∀(k i:Nat) (s:ι) (L:List ρ),n - i=k->i<=n->St i s->cw prog w s.heap S L->(∀x,x∈L↔x∈c.take i)->L.length<=i->
   (∀a l,Moved (S::j) G s a->cw prog w a.heap S l->(∀x,x∈l↔x∈c)->l.length<=n->R (.ok$ .ret .none) a)->
   hY (χ prog w) A (.builtin "set.update.loop" #[[.ref S,.ref I],[]]) R s:=by
 let f:¬S∈j:=λz=>H (W.sub _ z);let sub:∀b∈j,b∈S::j:=λb z=>LW _ z;intro k;induction k with
 |zero=>
  intro i s L T U st p q F r;let e:i=n:=by omega
  subst e;refine MX Ov ?_;rw[My NB];show π _ A.in1 (pyNext (.ref I) >>= _) _ _ s;refine Lr$ W.done s _ _ st λa m=>?_;show π _ A.in1 (ret Ψ) _ _ a;refine Lu$ r a L (m.mono sub) (p.at λo e=>m.heap S o f e) (λx=>?_) F;rw[q x,<- O,MG]
 |succ k V=>
  intro i s L T U st p q F r;let J:i < n:=by omega
  refine MX Ov ?_;rw[My NB];show π _ A.in1 (pyNext (.ref I) >>= _) _ _ s;refine Lr$ W.item i s _ _ J st λv a X u m=>?_;let⟨x,t,B,rfl⟩:=Q i v X;show π _ A.in1 (iv [kw x t] (setAdd S$ .str x t) >>= _) _ _ a;refine Lr$ LI ?_;let h:L.Nodup:=by let⟨_,_,_,_,_,_,_,_,_,h,_⟩:=p;exact h
  refine X0 (p.at λo e=>m.heap S o f e) (d L h λx B=>MD ((q x).mp B)) λb h' Y K S2 g=>?_;refine Lu #[Ny NB _,V (i+1) _ _ UK J (W.frame _ a _ _ u g λb d o e=>?_) S2 (λy=>?_) ?_ λC l M D q1 q2=>?_]
  .rw[K.2 b (λz:b=S=>H (by rw[<- z];exact d))];exact e
  .let tk:c.take (i+1)=c.take i++[x]:=by rw[NM,B];rfl
   rw[tk,NZ,Pm,<- q y];split
   .rename_i hm
    exact#[.inl,λz=>z.elim id λe=>e▸hm]
   .rw[NZ,Pm]
  .split
   .omega
   .rw[Ly,NF];omega
  .refine r C l (Moved.trans W.gtrans ((m.mono sub).then_heap g λb o d e=>?_) M) D q1 q2;rw[K.2 b (λz:b=S=>d (by rw[z];exact LN))];exact e
end
section
variable {prog:ψ}{w:bU}{A:bS}{E:ζ->ι->Prop}{s:ι}
set_option maxHeartbeats 3200000 in
theorem JU{Q:ζ->ι->Prop}
  (hh:A.handled=θ) (hl:s.heap.IsList l I) (hi:StrsAre I.toList n) (C:∀L:List ρ,L.Nodup->(∀x∈L,x∈n)->L.length+1 < scanBound)
  (h:∀(a:cJ) (t:Nat) L,cw prog w a s.heap.objs.size L->(∀x,x∈L↔x∈n)->L.length<=I.size->
   (∀b o,b < s.heap.objs.size->s.heap.get? b=δ o->a.get? b=δ o)->s.toks<=t->Q (.ref s.heap.objs.size) { s with heap:=a,toks:=t }):
  π (χ prog w) A (call (.type "set") [.ref l]) Q E s:=by
 let⟨c,tl,m1⟩:=PySem.F.called_set.mro;let m0:=PySem.F.called_set.made;let sb:=PySem.F.called_set.sub;refine OA$ RE ?_;show π _ _ (callAny (.type "set") _) _ _ _;refine Lu #[Code.quiet_builtin _ UM,MX PySem.F.entry_type_call ?_];rw[Around.under_plain (weight_type_call_type "set" [.ref l] []) Z];let n1:=PySem.F.called_set.notType;let n2:=PySem.F.called_set.canCreate;let ct:=PySem.F.typeCall_set_1 (.ref l);repeat (any_goals (first |assumption |wp_step))
 refine NJ (Qa (.ref l) (E:=E) (G:=λv S=>v= .ref s.heap.objs.size/\S={ s with heap:=s.heap.push (bp w) }) #[Z,Z]) λr S D=>?_;cases r with
 |error e=>exact D
 |ok fl=>
  cases fl with
  |ret o2=>
   let⟨rfl,rfl⟩:=D;let J:(s.heap.push$ bp w).get? s.heap.objs.size=δ (bp w):=LB _ Z;let hT:Shared.TypeIs { s with heap:=s.heap.push (bp w) } (.ref s.heap.objs.size) "set":=#[_,J,Z];let li:=PySem.F.called_set.init.lookup;let bi:=PySem.F.called_set.init.bind (.ref s.heap.objs.size);repeat (any_goals (first |assumption |wp_step))
   refine NJ (S3 (R:=wants (λr d=>r= .none/\∃a t L,d={ s with heap:=a,toks:=t }/\cw prog w a s.heap.objs.size L/\(∀x,x∈L↔x∈n)/\L.length<=I.size/\
     (∀b o,b < s.heap.objs.size->s.heap.get? b=δ o->a.get? b=δ o)/\s.toks<=t) E) PySem.F.called_set.init.plain PySem.F.entry_set_init (check_set_init_1 hT ?_)) λp d H=>?_
   .let⟨ol,q,u,nl,y⟩:=hl;let⟨o1,g,K,O⟩:=ol;simp only at u y;subst u;subst y;let f:(s.heap.push$ bp w).get? l=δ { cls:=.type "list",dict:=g,data:=.seq I nl,slots:=O }:=Lv _ q;let ns:=PySem.F.sub_list_set;let nf:=PySem.F.sub_list_frozenset;let ne:(eT "list"==eT "dict")=μ:=by decide
    let j:(s.heap.push$ bp w).IsList l I:=#[_,f,Z,nl,Z];unfold bp at J hT f j ⊢;unfold ea.«set.__init__» noKeywords Builtin.Frozenset.updateFrom;generalize M:pyIter=PI;wp_walk;subst M;refine OT j ?_;refine Lr$ RO ?_;let z:l < s.heap.objs.size:=Lz q;let h3:A.in1.in1.in1.handled=θ:=by simp [hh]
    let N:l≠(s.heap.push$ bp w).objs.size:=by rw[Mr];exact LC$ Nu z
    let P:¬s.heap.objs.size∈[(s.heap.push$ bp w).objs.size,l]:=by rw[Mr];simp only[M8,Ma,Oj,not_or];exact#[LC$ MQ _,Mv z]
    let B:n.length=I.size:=by rw[_L.StrsAre.len hi,LU]
    refine Js ((Walks.list h3 _ l N I).toS) s.heap.objs.size P n B (λi v hv=>StrsAre.at' hi i v (by rw[M4];exact hv)) C (I.size - 0) 0 _ [] UK (LF _)
     #[#[_,LB _ Z,Z,Z],j.push _] (X1$ Lv _ J) (λx=>by simp) (Lx _) λs' L m T U V=>?_
    let⟨a,g',d',W,X⟩:=s';let eg:g'=s.gens:=m.gens;let ed:d'=s.drawn:=m.drawn;let eo:X=s.os:=m.os;subst eg;subst ed;subst eo;show π _ _ _ _ _ _;refine Lu ?_;show π _ _ (ret Ψ) _ _ _;refine Lu #[Z,a,W,L,Z,T,U,V,λb o C e=>?_,m.toks];let b1:b≠s.heap.objs.size:=LC C;let b2:b≠(s.heap.push$ bp w).objs.size:=by rw[Mr];exact LC$ Nu C
    exact m.heap b o (by simp only[M8,Ma,Oj,not_or];exact#[b1,b2])$ Lv _$ Lv _ e
   .cases p with
    |error e=>exact H
    |ok k=>
     cases k with
     |ret r=>
      let⟨rfl,a,t,L,rfl,T,U,V,Y,q3⟩:=H;repeat (any_goals (first |assumption |wp_step))
      exact h _ _ _ T U V Y q3
     |_=>exact H.elim
  |_=>exact D.elim
end
section
variable {X:Cx}
theorem qW(m:X.calm=ν):cQ X (.type "set") (λg H Q=>∃(p:η) (S:List ρ),g=[.ref p]/\aJ X.K H p (S.map ri)/\(∀L:List ρ,L.Nodup->(∀x∈L,x∈S)->L.length+1 < scanBound)/\
  ∀l L,H l=θ->L.Nodup->(∀x,x∈L↔x∈S)->Q (.ref l) (af H l$ Hd X.prog X.w l L)):=by
 intro P s B H g U Q I r h;let⟨p,S,rfl,n,t,q⟩:=h;let⟨u,rfl,R⟩:=dY r;cases R;let⟨i,v,y,C⟩:=I.list n;let j:=qi v;let D:i.length=S.length:=(_L.StrsAre.len j).symm;refine JU (I.ok.hd m) y.isList (by simpa using j) t λc T L d z E k _=>?_;let a:L.Nodup:=by let⟨_,_,_,_,_,_,_,_,_,a,_⟩:=d;exact a
 let A:∀b o,s.heap.get? b=δ o->c.get? b=δ o:=λb o e=>k b o (Lz e) e;obtain⟨o,f⟩:∃o,c.get? s.heap.objs.size=δ o:=let #[o,_,_,_,f,_]:=d;#[o,f]
 exact#[.ref s.heap.objs.size,_,I.laid A (Lx _) (show aM X.prog X.w _ c _ (Hd X.prog X.w s.heap.objs.size L) from #[d,#[o,f],λF G x e=>cw.at x e]),Z,q _ _ (I.hok.fresh$ Lx _) a z]
end
section
variable {X:Cx}{CX:pR}{k:Nat}{f C:η}{fd:fy}{ps:List ρ}{sp:Sp}{dvs:List V}{ds:List ζ}{E:XK}{x m:ρ}{p pos apos:Pos}{e:dr}{es:List dr}{t:TA}
structure sw(K:β)(C:η)(m:ρ)(f:η):Prop where
 rd:PySem.W.readsIn K C (.type "type")=ν
 ga:specialIn K (.ref C) "__getattribute__"=δ (δ$ .builtin "type.__getattribute__")
 at_:PySem.W.findCls K (.ref C) (.type "type") m=δ (.val$ .ref f)
 kp:fz K (.ref f)=ν
theorem Zj{pl:Sem Bool}(j:Gl X x)(l:X.mg x=↑C)(M:sw X.K C m f)(F:ah X.prog X.w X.K X.mg X.base CX k f fd ps sp)(n:bo k X.A)(q:aw X.K fd ps ds)(u:ax dvs ds)(v:dC CX X E)(y:PA X (e::es) t)
  (a:(x==("__debug__":ρ))=μ:=by decide)
  (c:Θ (e::es) X.env=(μ,eval e X.env)::Θ es X.env:=by rfl) (d:(fx pos$ Θ es X.env).any (·.1)=μ:=by rfl)
  (z:eval (.Call (.Attribute (.Name x p) m apos) (e::es) [] pos) X.env=(do
   let O <- eval (.Name x p) X.env
   standAt apos.atName
   let (f,first) <- iv [O] (getMethod O m pl)
   callWith pos f first (fx pos$ Θ (e::es) X.env) (backToKw pos$ keywordEach [] X.env)):=by rfl):
  PE X (.Call (.Attribute (.Name x p) m apos) (e::es) [] pos) (dM sp dvs E t):=by
 intro P s g H Q I h;refine OJ (pl:=pl) (zJ I j l ?_ a) z;refine PySem.W.method_cls I.kIn M.ga$ PySem.W.cls_value I.kIn M.rd M.at_ Z ?_;let B:au X P g H { s with toks:=s.toks+1 }:=I.kept (h':=s.heap) λb o e=>e;refine Pg (h₀:=X.base) I.ok.mod.kin M.kp (aU (y pos P _ g H _ B h) λU S #[G,J,i,r,D]=>#[i.kIn,?_]) c d;exact QS F n q u v i r D
end
abbrev eZ(h:cJ)(z u v T:η)(f:Bool):Prop:=
 h.get? z=δ { cls:=.type "zip",dict:=θ,data:=.fields (ε [rawInt T,.bool f,.bool μ,.ref u,.ref v]),slots:=(ε []) }
section
variable {prog:ψ}{w:bU}{A:bS}{E:ζ->ι->Prop}{s:ι}
theorem sh{Q:Option ge->ι->Prop}(h:Q (s.heap.get? a) s):π M A (loadIfAlive a) Q E s:=λ_ _ _=>h
theorem EM{Q:Bool->ι->Prop}(H:eZ s.heap z u v T f)(a:∃o,s.heap.get? T=δ o)
  (q:∀h,eZ h z u v T ν->mL z s.heap h->h.objs.size=s.heap.objs.size->Q μ { s with heap:=h }):π (χ prog w) A (bF$ .ref z) Q E s:=by
 unfold bF;refine Lr$ LY H Z (x:=rawInt T) Z ?_;show π _ _ (loadIfAlive ((T:Int).toNat) >>= _) _ _ s;refine Lr$ sh ?_;let⟨o,c⟩:=a;rw[Mx,c];simp only[RZ,LG,MT];refine Lr$ LY H Z (x:=.bool f) Z ?_;cases f with
 |true=>simp only[MY,LG,MT];exact Lr$ Lu$ Lu$ q s.heap H (λb o _ e=>e) Z
 |false=>rw[LP UJ];refine Lr$ NH H UL λh d S=>Lu (q h d S.extBut S.1)
theorem Au{Q:Option ζ->ι->Prop}(D:xg z u v c d a b)
  (g:eZ s.heap z u v T f) (p:∃o,s.heap.get? T=δ o) (q:IsPair s.heap u (.ref c) (.ref d)) (r:gZ B s.heap c a k) (t:gZ l s.heap d b k) (G:i7 B s.heap a C) (F:i7 l s.heap b Y) (I:C[k]?=δ x) (J:Y[k]?=δ y)
  (L:∀h,eZ h z u v T ν->gZ B h c a (k+1)->gZ l h d b (k+1)->IsPair h s.heap.objs.size x y->h.objs.size=s.heap.objs.size+1->
   (∀e o,e≠z->e≠c->e≠d->s.heap.get? e=δ o->h.get? e=δ o)->Q (δ$ .ref s.heap.objs.size) { s with heap:=h }):π (χ prog w) A (pyNext$ .ref z) Q E s:=by
 let H:s.TypeIs (.ref z) "zip":=#[_,g,Z];unfold pyNext;refine Lr$ Nx$ Mj (name:=Str.ofString "__next__") H MS$ Mg MS H N5 (show π _ _ (field (.ref z) 2 >>= _) _ _ _ from ?_)$ NV _;refine Lr$ LY g Z (x:=.bool μ) Z (show π _ _ (field (.ref z) 3 >>= _) _ _ _ from Lr$ LY g Z (x:=.ref u) Z$ Lr$ Mz q Z ?_);refine(show π _ _ (bF (.ref z) >>= _) _ _ _ from Lr$ EM g p λO P i n=>?_);simp only[LG,MT];refine Lr ?_;simp only[Sn,NC,Oo];refine Lr$ Lr$ LI (show π _ _ (Ω (.ref c) >>= _) _ _ _ from ?_);refine Lr$ qj (s:={ s with heap:=O }) (r.kp λo e=>i _ _ D.cz e) (G.kp λo e=>i _ _ D.az e) I λM R j=>Lu (Lu ?_);refine Lr$ Lr$ LI (show π _ _ (Ω (.ref d) >>= _) _ _ _ from ?_);let K:∀e o,e≠z->e≠c->s.heap.get? e=δ o->M.get? e=δ o:=λe o n U w=>j.extBut _ _ U (i _ _ n w);refine Lr$ qj (s:={ s with heap:=M }) (t.kp λo e=>K _ _ D.dz D.cd.symm e) (F.kp λo e=>K _ _ D.bz D.bc e) J λm V S=>Lu (Lu$ Lu ?_);show π _ _ (newTuple [x,y] >>= _) _ _ _;refine Lr$ Oc$ Lu #[_,Z,Lu ?_];let N:m.objs.size=s.heap.objs.size:=by rw[S.1,j.1];exact n
 let W:eZ m z u v T ν:=S.extBut _ _ D.dz.symm (j.extBut _ _ D.cz.symm P);show Q (δ$ .ref m.objs.size) _;rw[N];refine L _ (Lv _ W) (R.kp λo e=>Lv _ (S.extBut _ _ D.cd e)) (V.kp λo e=>Lv _ e) (by rw[<- N];exact LB _ Z) (by rw[Mr,N]) λe o X a2 a3 w=>Lv _ (S.extBut _ _ a3$ K _ _ X a2 w)
theorem Eg{b2:Bool}{ys:Array ζ}{Q:Option ζ->ι->Prop}(j:A.handled=θ)(D:xg z u v c d a b)
  (H:eZ s.heap z u v T f) (l:∃o,s.heap.get? T=δ o) (m:IsPair s.heap u (.ref c) (.ref d)) (p:gZ B s.heap c a k) (G:i7 B s.heap a q) (r:q[k]?=θ)
  (t:∀i,(∀e o,e≠z->e≠c->e≠d->s.heap.get? e=δ o->i.get? e=δ o)->Q θ { s with heap:=i }):π (χ prog w) A (pyNext$ .ref z) Q E s:=by
 let h:s.TypeIs (.ref z) "zip":=#[_,H,Z];unfold pyNext;refine Lr$ Nx$ Mj (name:=Str.ofString "__next__") h MS$ Mg MS h N5 (show π _ _ (field (.ref z) 2 >>= _) _ _ _ from ?_)$ NV _;refine Lr$ LY H Z (x:=.bool μ) Z (show π _ _ (field (.ref z) 3 >>= _) _ _ _ from Lr$ LY H Z (x:=.ref u) Z$ Lr$ Mz m Z ?_);refine(show π _ _ (bF (.ref z) >>= _) _ _ _ from Lr$ EM H l λM F g n=>?_);simp only[LG,MT];refine Lr ?_;simp only[Sn,NC,Oo];refine Lr$ Lr$ LI (show π _ _ (Ω (.ref c) >>= _) _ _ _ from ?_);refine Lr$ QM (s:={ s with heap:=M }) (by simpa using j) (p.kp λo e=>g _ _ D.cz e) (G.kp λo e=>g _ _ D.az e) r λy e S C=>?_;exact Lr$ Nz (T:="StopIteration") (b:=ν) C Pq$ Lu$ t y λe o n N I w=>S _ _ N (g _ _ n w)
end
theorem JG:typeLookup (.type "zip") "__getattr__"=pure θ:=by rw[MW,Mq];kernel_rfl
theorem X4:typeLookup (.type "zip") "keys"=pure θ:=by rw[MW,Mq];kernel_rfl
theorem Xj:entryFor table "zip.__getattribute__"=δ ea.«object.__getattribute__»:=
 Pr (id':="object.__getattribute__") (by kernel_rfl) UM UM (by kernel_rfl)
theorem KZ(a:η)(x:Array ζ)(S:Array (Option ζ))(u:Tok):
  Meets (ea.«object.__getattribute__» #[[.ref a,.str "keys" u],[]]) (λA R s=>s.heap.get? a=δ { cls:=.type "zip",dict:=θ,data:=.fields x,slots:=S }/\raisesAttr (.ref a) "keys" A R s):=
 TJ λp w A R s H=>by
  let⟨c,g,d,t,os⟩:=s;let⟨e,H⟩:=H;let f:(#[c,g,d,t,os]:ι).TypeIs (.ref a) "zip":=#[_,e,Z];let b:=X4;let h:(["__module__","__name__","__qualname__","__doc__","__annotations__"]:List ρ).contains "keys"=μ:=by decide+kernel
  unfold ea.«object.__getattribute__»;repeat (any_goals (first |assumption |wp_step))
  try simp only[h,LG,MT]
  repeat (any_goals (first |assumption |wp_step))
  exact wpAny_raiseAttrError H.1 H.2$ attrMsg_fits UM (by size_fits)
section
variable {prog:ψ}{w:bU}{A:bS}{E:ζ->ι->Prop}{s:ι}
theorem ya{Q:Option ζ->ι->Prop}(f:s.heap.get? a=δ { cls:=.type "zip",dict:=θ,data:=.fields x,slots:=j })(k:A.handled=θ)
  (h:∀c T,(∀b o,s.heap.get? b=δ o->c.get? b=δ o)->Q θ { s with heap:=c,toks:=T }):π (χ prog w) A (getAttr? (.ref a) "keys") Q E s:=by
 let⟨l,g,d,T,os⟩:=s;let i:∀t,(#[l,g,d,t,os]:ι).TypeIs (.ref a) "zip":=λ_=>#[_,f,Z];let m:=sub_AttributeError;let n:=iu.lookup;let p:=iu.bind (.ref a);let q:=JG;unfold getAttr? getAttrBy? getAttrBy;repeat (any_goals (first |assumption |exact i _ | ((with_reducible show π _ _ (call (Value.builtin "zip.__getattribute__") _ _) _ _ _);refine PY iu (i _) Xj (PySem.F.args_zip_getattribute_2 _ _) (KZ a x j _) #[f,by simpa using k,λc t e H=>?_]) |wp_step))
 let⟨r,u,v⟩:=H.there;show π _ _ (getattributeRaised _ _ _ _ _ _ _) _ _ _;unfold getattributeRaised;repeat (any_goals (first |assumption |wp_step))
 exact h _ _ H.keeps
def BK(h:cJ)(z u v c d a b Dd:η)(x y:Array ζ)(i:Nat):Prop:=
 ((IsZip h z u v .none/\∃p q,IsPair h v p q)∨∃T f o,eZ h z u v T f/\h.get? T=δ o/\T≠z/\T≠c/\T≠d/\T≠Dd)/\IsPair h u (.ref c) (.ref d)/\gZ μ h c a i/\gZ μ h d b i/\i7 μ h a x/\i7 μ h b y
theorem Ax{Dd:η}{Q:Option ζ->ι->Prop}(D:xg z u v c d a b)(l:Dd < s.heap.objs.size)(S:BK s.heap z u v c d a b Dd J Y k)(L:J[k]?=δ x)(M:Y[k]?=δ y)
  (N:∀h,BK h z u v c d a b Dd J Y (k+1)->IsPair h s.heap.objs.size x y->h.objs.size=s.heap.objs.size+1->(∀e o,e≠z->e≠v->e≠c->e≠d->s.heap.get? e=δ o->h.get? e=δ o)->Q (δ$ .ref s.heap.objs.size) { s with heap:=h }):π (χ prog w) A (pyNext$ .ref z) Q E s:=by
 let⟨H,g,j,m,G,i⟩:=S;let⟨oc,n,_⟩:=j.ob;let⟨od,r,_⟩:=m.ob;rcases H with ⟨H,p,q,U⟩ | ⟨T,f,o,H,O,t,P,R,V⟩
 .refine Av D H g U j m G i L M λh B v1 I C t F K=>N h #[.inr #[s.heap.objs.size,μ,_,B,t,Mv$ Lz H,Mv$ Lz n,Mv$ Lz r,Mv l],K _ _ D.uz D.uv D.uc D.ud g,I,C,G.kp λo e=>K _ _ D.az D.av D.ac D.ad e,i.kp λo e=>K _ _ D.bz D.bv D.bc D.bd e] t F K
 .refine Au D H #[o,O] g j m G i L M λh B I C W F K=>N h #[.inr #[T,ν,o,B,K _ _ t P R O,t,P,R,V],K _ _ D.uz D.uc D.ud g,I,C,G.kp λo e=>K _ _ D.az D.ac D.ad e,i.kp λo e=>K _ _ D.bz D.bc D.bd e] W F λe o X n2 n3 n4 w=>K e o X n3 n4 w
theorem Ej{Dd:η}{Q:Option ζ->ι->Prop}(g:A.handled=θ)(D:xg z u v c d a b)(n:BK s.heap z u v c d a b Dd x ys k)(i:x[k]?=θ)
  (j:∀H,(∀e o,e≠z->e≠v->e≠c->e≠d->s.heap.get? e=δ o->H.get? e=δ o)->Q θ { s with heap:=H }):π (χ prog w) A (pyNext$ .ref z) Q E s:=by
 let⟨h,l,m,B,G,C⟩:=n;rcases h with ⟨h,p,q,F⟩ | ⟨T,f,o,h,r,I,J,L,M⟩
 .exact Eh (b2:=μ) (p:=p) (q:=q) (ys:=ys) g D h l m G i j
 .exact Eg (b2:=μ) (ys:=ys) g D h #[o,r] l m G i λH K=>j H λe o N O t y w=>K e o N t y w
structure Hn(D z u v c d a b:η):Prop where
 z:D≠z
 u:D≠u
 v:D≠v
 c:D≠c
 d:D≠d
 a:D≠a
 b:D≠b
theorem BK.keep{h j:cJ}{Dd:η}(F:Hn Dd z u v c d a b)(k:∀e o,e≠Dd->h.get? e=δ o->j.get? e=δ o)(st:BK h z u v c d a b Dd x y i):BK j z u v c d a b Dd x y i:=by
 let⟨H,l,m,n,G,r⟩:=st;refine#[?_,k _ _ F.u.symm l,m.kp λo e=>k _ _ F.c.symm e,n.kp λo e=>k _ _ F.d.symm e,G.kp λo e=>k _ _ F.a.symm e,r.kp λo e=>k _ _ F.b.symm e];rcases H with ⟨H,p,q,B⟩ | ⟨T,f,o,H,g,C,D,I,t⟩
 .exact .inl #[k _ _ F.z.symm H,p,q,k _ _ F.v.symm B]
 .exact .inr #[T,f,o,k _ _ F.z.symm H,k _ _ t g,C,D,I,t]
theorem K0{K:Type}[DecidableEq K]{knd:KeyKind prog w K}{R:Result->ι->Prop}{Dd:η}{x:Array ζ}(X:A.handled=θ)(D:xg z u v c d a b)(F:Hn Dd z u v c d a b)(m:List (K×ζ))(Y:m.length=x.size)(h0:x.size<=υ)
  (hP:∀(i:Nat),i < x.size->∃f V k,x[i]?=δ f/\ys[i]?=δ V/\knd.is k f=ν/\m[i]?=δ (k,V)):
  ∀(j i:Nat) (s:ι) (n:Int),x.size - i=j->i<=x.size->BK s.heap z u v c d a b Dd x ys i->s.heap.DictOf knd Dd (merged []$ m.take i)->
   (∀h T,(∀e o,e≠Dd->e≠z->e≠v->e≠c->e≠d->s.heap.get? e=δ o->h.get? e=δ o)->h.DictOf knd Dd (merged [] m)->R (.ok$ .ret .none) { s with heap:=h,toks:=T })->
   hY (χ prog w) A (.builtin "dict.update.loop" #[[.ref Dd,.ref z,.int n 0,.none],[]]) R s:=by
 intro j;induction j with
 |zero=>
  intro i s n hj hi st q C;let e:i=x.size:=by omega
  subst e;refine MX JN ?_;rw[My zL];show π _ A.in1 (pyNext (.ref z) >>= _) _ _ s;refine Lr$ Ej (by simpa using X) D st UL λh g=>?_;show π _ A.in1 (Builtin.Dict.addKeywords Dd [] >>= λ_=>ret Ψ) _ _ { s with heap:=h };refine Lr ?_;unfold Builtin.Dict.addKeywords;refine Lu$ Lu$ C h s.toks (λe o _ N t y B w=>g e o N t y B w) ?_;rw[<- Y,MG]at q;let⟨o,es,ep,ho,r⟩:=q;exact#[o,es,ep,g _ _ F.z F.v F.c F.d ho,r]
 |succ j ih=>
  intro i s n hj hi st q C;let M:i < x.size:=by omega
  let⟨f,V,k,hx,hy,O,hm⟩:=hP i M;refine MX JN ?_;rw[My zL];show π _ A.in1 (pyNext (.ref z) >>= _) _ _ s;let⟨oD,G,I,H,rD⟩:=id q;let L:Dd < s.heap.objs.size:=Lz H;refine Lr$ Ax D L st hx hy λl S P N g=>?_;let hb:Shared.TypeIs { s with heap:=l } (.ref s.heap.objs.size) "tuple":=#[_,P,Z];let J:l.DictOf knd Dd (merged []$ m.take i):=#[oD,G,I,g _ _ F.z F.v F.c F.d H,rD];dsimp only;refine Lr$ LI ?_;refine Lr$ wpAny_tryCatch ?_;unfold Builtin.Dict.pairItems;refine Lr$ Nn hb ?_;rw[LP UJ];refine Lr$ Mz P Z$ Lu ?_;show π _ A.in1 (iv [f,V]$ dictSet Dd f V) _ _ { s with heap:=l };unfold dictSet;refine LI$ LI$ Lr$ knd.pyHash O ?_;let Q:(merged ([]:List (K×ζ))$ m.take i).length<=i:=by let:=TR ([]:List (K×ζ)) (m.take i);rw[Mb]at this;simp only[P5]at this;omega
  refine wpAny_dictSetHashed_pairs (s:={ s with heap:=l,toks:=s.toks+1 }) O J (λh p sb=>?_) UK;rw[<- merged_take_succ [] m i (k,V) hm]at p;let U:∀e o,e≠Dd->l.get? e=δ o->h.get? e=δ o:=λe o ne w=>(sb.2 e ne).trans w;refine Lu #[Ny zL _,ih (i+1) _ (n+1) UK M (S.keep F U) p λh2 T k2 d2=>C h2 T (λe o W N t y B w=>k2 e o W N t y B (U _ _ W$ g e o N t y B w)) d2]
theorem Qh{K:Type}[DecidableEq K]{knd:KeyKind prog w K}{more:List (K×ζ)}{Q:ζ->ι->Prop}(N:A.handled=θ)(D:xg z u v c d a b)
  (j:IsZip s.heap z u v .none) (P:IsPair s.heap u (.ref c) (.ref d)) (m:∃p q,IsPair s.heap v p q) (U:gZ μ s.heap c a 0) (V:gZ μ s.heap d b 0) (W:i7 μ s.heap a x) (X:i7 μ s.heap b ys)
  (hn:more.length=x.size) (n:x.size<=υ) (hP:∀(i:Nat),i < x.size->∃Y vu k,x[i]?=δ Y/\ys[i]?=δ vu/\knd.is k Y=ν/\more[i]?=δ (k,vu))
  (h:∀l t,l.DictOf knd s.heap.objs.size (merged [] more)->(∀e o,e≠z->e≠v->e≠c->e≠d->s.heap.get? e=δ o->l.get? e=δ o)->Q (.ref s.heap.objs.size) { s with heap:=l,toks:=t }):
  π (χ prog w) A (call (.type "dict") [.ref z]) Q E s:=by
 refine UA (Q₁:=λO S=>O= .ref s.heap.objs.size/\S={ s with heap:=s.heap.push { cls:=.type "dict",data:=.dict (ε []) } }) PySem.F.kt_called_dict (PySem.F.kt_typeCall_dict_1 _) PySem.F.entry_dict_init (kt_code_dict_new _ #[Z,Z]) ?_;rintro O S ⟨rfl,rfl⟩;let f:(s.heap.push { cls:=.type "dict",data:=.dict (ε []) }).DictOf knd s.heap.objs.size []:=RM s.heap;refine#[f.typeIs,PySem.F.args_dict_init_2 _ _,?_];unfold ea.«dict.__init__»;refine Lr ?_;unfold Builtin.Dict.selfAndRest;refine Lr$ wpAny_notOrdered_dict f.typeIs ?_;show π _ _ (pure (s.heap.objs.size,[ω z])) _ _ _;refine Lu ?_;show π _ _ (Builtin.Dict.updateFrom "dict.__init__" s.heap.objs.size (.ref z) [] .none) _ _ _;unfold Builtin.Dict.updateFrom;generalize hH:s.heap.push { cls:=.type "dict",data:=.dict (ε []) }=H at f ⊢;let G:∀b o,s.heap.get? b=δ o->H.get? b=δ o:=λb o e=>by rw[<- hH];exact Lv _ e
 refine Lr$ Nn #[_,G _ _ j,Z] ?_;rw[LP UJ];refine Lr$ ya (s:={ s with heap:=H }) (G _ _ j) (by simpa using N) λM t k1=>?_;simp only[R0,On];refine Lr$ Nh ?_;let g:∀b o,s.heap.get? b=δ o->M.get? b=δ o:=λb o e=>k1 _ _ (G _ _ e);refine Lr$ wpAny_pyIter_zip (s:={ s with heap:=M,toks:=t }) (g _ _ j) ?_;let⟨oD,eD,y,B,rD⟩:=f;let⟨p,q,m⟩:=m;let⟨oc,C,_⟩:=U.ob;let⟨od,I,_⟩:=V.ob;let⟨oa,J,_⟩:=id W;let⟨ob,L,_⟩:=id X;let F:Hn s.heap.objs.size z u v c d a b:=#[Mv$ Lz j,Mv$ Lz P,Mv$ Lz m,Mv$ Lz C,Mv$ Lz I,Mv$ Lz J,Mv$ Lz L];refine Lu #[Ny zL _,NJ (K0 (knd:=knd) (A:=A.in1) (R:=λr s'=>r= .ok (.ret .none)/\Q (.ref s.heap.objs.size) s') (by simpa using N) D F more hn n hP x.size 0 { s with heap:=M,toks:=t } 0 Z (LF _)
  #[.inl #[g _ _ j,p,q,g _ _ m],g _ _ P,U.kp λo e=>g _ _ e,V.kp λo e=>g _ _ e,W.kp λo e=>g _ _ e,X.kp λo e=>g _ _ e] #[oD,eD,y,k1 _ _ B,rD] λl T k2 d2=>#[Z,?_]) λr s' q=>?_]
 .exact h l T d2 λe o n1 n2 n3 n4 w=>k2 e o (LC$ Lz w) n1 n2 n3 n4 (g _ _ w)
 .let⟨rfl,q⟩:=q;exact#[Z,q]
end
section
variable {X:Cx}{e1 e2:dr}{ta:TA}{p p2 pos pos2:Pos}
inductive GH(K:β)(Q:VK)(e:List V)(c:Hp):Prop
 |mk(a b:η)(d:List bM)(f:List V)(_:e=[.ref a,.ref b])(_:aC K c a (d.map kV))(_:aC K c b f)(_:d.length=f.length)(_:∀l,c l=θ->Q (.ref l) (af c l (.dK (dh [] (d.zip f)))))
def Ld(K:β)(ta:TA):TE:=λa H Q=>ta a H (GH K Q)
theorem Zk{P:ψ}{w:bU}:∀{K:List bM} {U:List ζ},ax (K.map kV) U->∀(i:Nat) (k:bM),K[i]?=δ k->∃u,U[i]?=δ u/\(a5 P w).is k u=ν
 | [],_,_,i,k,h=>by simp at h
 |k0::K,_,.cons (b:=u) h t,0,k,e=>by
  let E:k0=k:=by simpa using e
  subst E;exact#[u,Z,Qn h]
 |k0::K,_,.cons h t,i+1,k,e=>by simpa using Zk (P:=P) (w:=w) t i k (by simpa using e)
theorem tV:∀{K:List bM} {y:List V} {u:List ζ},ax y u->KV (K.zip y) (K.zip u)
 | [],_,_,_=>by simp only[List.zip_nil_left];exact .nil
 |_::_,_,_,.nil=>by simp only[List.zip_nil_right];exact .nil
 |k::K,_,_,.cons h t=>.cons #[Z,h] (tV t)
theorem Zl(m:Gl X "dict")(n:X.mg "dict"=θ)(t:Gl X "zip")(v:X.mg "zip"=θ)(N:X.calm=ν)(O:PA X [e1,e2] ta)
  (T:Θ [e1,e2] X.env=(μ,eval e1 X.env)::Θ [e2] X.env:=by rfl) (U:(fx pos2$ Θ [e2] X.env).any (·.1)=μ:=by rfl)
  (f:Θ [Expr.Call (.Name "zip" p2) [e1,e2] [] pos2] X.env=(μ,eval (.Call (.Name "zip" p2) [e1,e2] [] pos2) X.env)::Θ [] X.env:=by rfl) (x:(fx pos$ Θ [] X.env).any (·.1)=μ:=by rfl):
  PE X (.Call (.Name "dict" p) [.Call (.Name "zip" p2) [e1,e2] [] pos2] [] pos) (Ld X.K ta):=by
 intro P s V H Q I h;refine Mt$ zu I m n Ux ?_;refine Mn ?_ f x;rw[f];show π _ _ (spliced ((μ,eval _ X.env)::fx pos (Θ [] X.env))) _ _ s;refine Nk ?_;refine Mt$ zu I t v Uv ?_;refine Mn (aU (O pos2 P s V H _ I h) λus S z=>?_) T U;let⟨vs,H1,d,W,Y⟩:=z;let⟨a,b,c,ys,e,gx,gy,hl,q⟩:=Y;subst e;cases W with
 |cons r rr=>
  cases rr with
  |cons r' y=>
   cases y;cases r;cases r';let⟨A,F,G,z1⟩:=d.tuple gx;let⟨j,R,C,z2⟩:=d.tuple gy;let l1:=F.length;let l2:=R.length;rw[Lw]at l1 z1;let la:a < S.heap.objs.size:=by let⟨o,D,_⟩:=G;exact Lz D
   let lb:b < S.heap.objs.size:=by let⟨o,D,_⟩:=C;exact Lz D
   refine Ei (b1:=μ) (b2:=μ) (xs:=A.toArray) (ys:=j.toArray) G C λE J u' v' i1 i2 k=>?_;refine NG ?_;let Dz:=Aw S.heap.objs.size a b la lb;refine Qh (s:={ S with heap:=E }) (knd:=a5 X.prog X.w) (more:=c.zip j) (d.ok.hd N) Dz J u' #[_,_,v'] i1 i2 (i7.kp (b:=μ) G λo e=>k _ _ e) (i7.kp (b:=μ) C λo e=>k _ _ e) (by rw[P0,LA];omega) (by rw[LA];omega) (λi hi=>?_) λh2 tk dd k2=>?_
   .rw[LA]at hi;let L:i < c.length:=by omega
    let M:i < j.length:=by omega
    let⟨u,hu,ku⟩:=Zk F i _ (Ls L);refine#[u,j[i],c[i],by simpa using hu,by simp [M],ku,?_];rw[Rp];exact#[Ls L,Ls M]
   .let g:KV (dh []$ c.zip ys) (merged []$ c.zip j):=KV.merge (tV R) .nil;let zl:(dh []$ c.zip ys).length<=υ:=by rw[g.length];let:=TR ([]:List (bM×ζ)) (c.zip j);rw[P0]at this;simp only[P5]at this;omega
    let k3:∀e o,S.heap.get? e=δ o->h2.get? e=δ o:=λe o w=>by let l:=Lz w;exact k2 e o (LC$ LH l$ NQ _ _) (LC$ LH l$ NQ _ _) (LC l) (LC$ LH l$ NQ _ _)$ k _ _ w
    let B:S.heap.objs.size<=E.objs.size:=NA (M7 (NQ _ 4)$ Lz J);exact#[.ref E.objs.size,_,d.laid k3 B$ Ye zl (beq_eq_false_iff_ne.mpr$ Me$ LC$ LH d.big B) g dd,Z,q _$ d.hok.fresh B]
end
section
variable {X:Cx}{st:cv}{ss:List cv}{e:dr}{es:List dr}
def Lc:TS:=λ_ _ _=>False
theorem uL:mN X ss Lc:=λ_ _ _ _ _ _ h=>False.elim h
end
end _L
namespace _L
open PySem PySem.Spec PyProof.Rows PySem.SeqAt
inductive FX(K:β)(x y:V)(H:Hp)(Q:VK):Prop
 |mk(a b d e:_)(_:x= .ref a)(_:y= .ref b)(_:aC K H a d)(_:aC K H b e)(_:(d.all cR=ν/\e.all cR=ν/\Q (.bl (sU d e)) H)∨∃(w:ρ) (c:η) (zs:List V) (u:ρ) (i:Int),d=[.str w,.ref c]/\aC K H c zs/\e=[.str u,.int i]/\Q (.bl μ) H)
theorem Dk{X:Cx}(d:X.A.units+1 < cLine):eW X (compareOp .Eq) (FX X.K):=by
 intro p s m H x y v U Q I f g h;obtain⟨a,b,n,Y,rfl,rfl,k,l,h | ⟨w,c,M,u,i,rfl,o,rfl,q⟩⟩:=h
 .exact Dj (SN d) p s m H _ _ v U Q I f g #[a,b,n,Y,Z,Z,k,l,h]
 cases f;cases g;let⟨N,r,P,_⟩:=I.tuple k;let⟨O,R,t,_⟩:=I.tuple l;let⟨S,V,z,_⟩:=I.tuple o;cases r with
 |cons B r=>
  cases r with
  |cons C r=>
   cases r;cases R with
   |cons D R=>
    cases R with
    |cons E R=>
     cases R;let⟨T,rfl⟩:=B;cases C;let⟨F,rfl⟩:=D;let⟨G,rfl⟩:=E;refine eq_tupleAt (e:=λj=>if j=0 then w==u else μ) (show s.heap.IsTuple a _ from P) (show s.heap.IsTuple b _ from t) (SN d) (λj J L=>?_) ?_
     .match j,J,L with
      |0,_,_=>exact TM w T u F
      |1,_,_=>exact Ts i G (show s.heap.IsTuple c _ from z) (by simpa [Around.in1,Around.units] using d)
     .let e:((fr$ min 2 2).all (λj=>if j=0 then w==u else μ)&&(2:Nat)==2)=μ:=by show((if 0=0 then w==u else μ)&&((if 1=0 then w==u else μ)&&ν)&&ν)=μ;simp
      exact#[.bl μ,H,I,MO mS e,q]
end _L
namespace _L
open PySem PySem.Spec PyProof.Rows
theorem HG{K:β}(h:kitOne K t a=δ μ)(H:kitOne K t b=δ μ)(d:kitOne K t c=δ μ):kitAny K t [a,b,c]=δ μ:=by unfold kitAny;rw[h];show kitAny K t [b,c]=δ μ;unfold kitAny;rw[H];show kitAny K t [c]=δ μ;unfold kitAny;rw[d];rfl
theorem Xx:∀{C:List η} {u:List ζ},ax (C.map rs) u->u=C.map ω
 | [],_,h=>by rw[Py]at h;cases h;rfl
 |c::r,_,h=>by
  rw[MU]at h;cases h with
  |cons H a=>rw[show _=ω c from H,Xx a];rfl
theorem Qi{X:Cx}:cQ X (.builtin "isinstance") (λx H Q=>∃(a C:η) (f:List (ρ×V)) (t:η) (c:List η) (b:Bool),x=[.ref a,.ref t]/\H t=δ (.tup$ c.map rs)/\pT H a C f/\lQ X.K C/\kitAny X.K (.ref C) (c.map ω)=δ b/\Q (.bl b) H):=by intro p s B H x U Q I r h;let⟨a,C,f,t,c,b,rfl,d,E,g,e,q⟩:=h;let⟨u,w,rfl,R,j⟩:=pQ r;cases (show u=ω a from R);cases (show w=ω t from j);let⟨_,k,l,i⟩:=I.hok t _ d;rw[Xx l]at i;let⟨o,O,J,_⟩:=QI I E;obtain⟨⟨m,F,D,S⟩,v,y,n,A⟩:=i;cases (show m=_ from y);cases (show D=_ from A);exact PySem.W.kia_tup (Xs g) I.kIn #[o,O,J] v e (λz=>nomatch z) λT=>#[.bl b,H,I.tok T,Z,q]
theorem X5(l:η)(i:Array ζ)(n:Nat)(D:Option η)(S:Array (Option ζ)):
  Meets (ea.«enumerate.__new__» #[[.type "enumerate",.ref l],[]]) (λ_ R s=>s.heap.get? l=δ { cls:=.type "tuple",dict:=D,data:=.seq i n,slots:=S }/\
   R (.ok$ .ret$ .ref (s.heap.push { cls:=.type "tuple_iterator",data:=.fields (ε [.ref l,.int 0 0]) }).objs.size)
    { s with heap:=(s.heap.push { cls:=.type "tuple_iterator",data:=.fields (ε [.ref l,.int 0 0]) }).push { cls:=.type "enumerate",data:=.fields (ε [.none,.bool μ,.ref s.heap.objs.size,rawInt 0,.none,.none]) } }):=
 .of_wp λp w A R s h=>by
  let⟨e,g,d,t,os⟩:=s;let⟨H,h⟩:=h;let b:=sub_enumerate;let a:Heap.IsTuple (Shared.heap #[e,g,d,t,os]) l i:=#[_,H,Z,n,Z];wp_walk using M5 H;refine wpAny_stack_any λst=>Lu ?_;split
  .rename_i c _ _ _ _ _
   cases (c==eT "enumerate")
   .wp_walk using M5 H,N8 a;exact#[_,Z,h]
   .wp_walk using M5 H,N8 a;exact#[_,Z,h]
  .wp_walk using M5 H,N8 a;exact#[_,Z,h]
section
variable {prog:ψ}{w:bU}{A:bS}{E:ζ->ι->Prop}{s:ι}
theorem YL{Q:ζ->ι->Prop}(j:s.heap.IsTuple l i)
  (h:∀H,IsEnum H (s.heap.objs.size+1) s.heap.objs.size 0 .none->H.IsTupleIter s.heap.objs.size l 0->(∀b o,s.heap.get? b=δ o->H.get? b=δ o)->Q (.ref$ s.heap.objs.size+1) { s with heap:=H }):
  π (χ prog w) A (call (.type "enumerate") [.ref l]) Q E s:=by
 obtain⟨⟨c,d,D,S⟩,k,a,n,e⟩:=j;replace a:c= .type "tuple":=a;replace e:D= .seq i n:=e;subst a e;refine SA PySem.F.called_enumerate UJ (PySem.F.typeCall_enumerate_1 _) (PySem.F.newCall_enumerate_1 _) (λO=>Oh O _) PySem.F.entry_enumerate_new (X5 l i n d S) #[k,?_];let f:(s.heap.push { cls:=.type "tuple_iterator",data:=.fields (ε [.ref l,.int 0 0]) }).objs.size=s.heap.objs.size+1:=Mr ..;show _/\_;rw[f];let g:IsEnum ((s.heap.push { cls:=.type "tuple_iterator",data:=.fields (ε [.ref l,.int 0 0]) }).push { cls:=.type "enumerate",data:=.fields (ε [.none,.bool μ,.ref s.heap.objs.size,rawInt 0,.none,.none]) }) (s.heap.objs.size+1) s.heap.objs.size 0 .none:=by let:=LB (s.heap.push { cls:=.type "tuple_iterator",data:=.fields (ε [.ref l,.int 0 0]) }) (o:={ cls:=.type "enumerate",data:=.fields (ε [.none,.bool μ,.ref s.heap.objs.size,rawInt 0,.none,.none]) }) Z;rw[f]at this;exact this
 exact#[#[_,g,Z],h _ g #[_,Lv _$ LB _ Z,Z,Z] λb o x=>Lv _ (Lv _ x)]
theorem wK{c:Type}{Q:c->ι->Prop}(d:A.handled=θ)
  (h:∀H (e:η),(∀b o,s.heap.get? b=δ o->H.get? b=δ o)->Shared.TypeIs { s with heap:=H } (.ref e) "StopIteration"->E (.ref e) { s with heap:=H }):
  π (χ prog w) A (do raiseNew (<- newExc (.type "StopIteration") []):Sem c) Q E s:=by
 refine Lr ?_;simp only[newExc,newTuple];refine Lr$ Mm ?_ (by size_fits);refine Lr (m:=firstArgMember _ _)$ OU (a:=Ψ) ?_ ?_
 .first |rfl | (simp only[firstArgMember];rfl)
 refine Mm ?_ (by size_fits);simp only[raiseNew];refine Lr$ wpAny_handled ?_;rw[d];refine Lr$ Lu$ wpAny_throw$ h _ _ (λb o e=>Lv _ (Lv _ e)) ?_;exact#[_,LB _ Z,Z]
theorem KN{J T:η}{i:Nat}{I:Array ζ}{Q:ζ->ι->Prop}(g:A.handled=θ)(H:s.heap.IsTupleIter J T i)(j:s.heap.IsTuple T I)(l:I[i]?=θ)
  (q:∀h (e:η),mL J s.heap h->Shared.TypeIs { s with heap:=h } (.ref e) "StopIteration"->E (.ref e) { s with heap:=h }):π (χ prog w) A (Ω$ .ref J) Q E s:=by
 let⟨o,a,p,c⟩:=id H;let⟨O,d,_,N,f⟩:=j;unfold Ω;refine Lr$ Mj (name:=Str.ofString "__next__") H.typeIs MK$ Mg MK H.typeIs NY (show π _ _ (field (.ref J) 0 >>= _) _ _ s from ?_)$ NR _;refine Lr$ LY a c (x:=.ref T) Z (show π _ _ (if (ω T==Ψ)=ν then _ else _) _ _ s from ?_);rw[LV (show ¬((ω T==Ψ)=ν) from LD)];refine(show π _ _ (field (.ref J) 1 >>= _) _ _ s from Lr$ LY a c (x:=.int i 0) Z (show π _ _ (seqItems? (.ref T) >>= _) _ _ s from Lr$ Mz d f ?_));simp only[Mx,l];refine Lr$ Nh$ Lr$ Ms a c UL ?_;refine wK (by simpa using g) λh e k t=>q h e (λb o m n=>k b o ?_) t;exact(LO _ _$ Me m).trans n
theorem rf(m:A.handled=θ)(a l:η)(d:l≠a)(I:Array ζ):
  Draws prog w A a [a,l] I.size (λi v=>I[i]?=δ v) (λi h=>h.IsTupleIter a l i/\h.IsTuple l I) where
 live:=λ_ _ st=>let #[o,H,_]:=st.1;#[o,H]
 frame:=λ_ _ _ st g=>#[st.1.at λo e=>g a UL o e,let #[o,H,r]:=st.2;#[o,g l UL o H,r]]
 item:=λi s Q E j st n=>KM st.1 st.2 (x:=I[i]) (by simp [j]) λf b c=>n _ f s.toks (by simp [j]) #[b,let #[o,H,r]:=st.2;#[o,c.extBut l o d H,r]] c
 done:=λs Q E st p=>KN m st.1 st.2 UL λf e k t=>p f e k t
theorem YM(c:A.handled=θ)(a l:η)(I:Array ζ)(i:Nat)(d:I[i]?=θ):
  Draws prog w A a [a,l] i (λ_ _=>True) (λj h=>j=i/\h.IsTupleIter a l i/\h.IsTuple l I) where
 live:=λ_ _ st=>let #[o,H,_]:=st.2.1;#[o,H]
 frame:=λ_ _ _ st b=>#[st.1,st.2.1.at λo e=>b a UL o e,let #[o,H,r]:=st.2.2;#[o,b l UL o H,r]]
 item:=λj s Q E f st n=>absurd st.1 (LC f)
 done:=λs Q E st g=>KN c st.2.1 st.2.2 d λm e k t=>g m e k t
end
noncomputable def Bz(K:β)(a:η):It:=
 #[λi H=>∃X x,aC K H a X/\X[i]?=δ x,λi H x h=>∃p v,x= .ref p/\H p=θ/\h=af H p (.tup [.int i,v])/\∀X,aC K H a X->X[i]?=δ v,λi H=>∃X,aC K H a X/\X.length<=i]
theorem YN{P:ψ}{K:β}(a e g:η)(r:e≠g):oh P w K (.Tuple e0 kx tp) (Bz K a) [e,g] e (λi h=>(∃O,IsEnum h e g i O)/\h.IsTupleIter g a i) where
 mem:=by simp
 obj:=λi h st b hb=>by
  obtain⟨⟨O,j⟩,⟨o,ei,c,d⟩⟩:=st;rcases Ξ.mp hb with rfl |hb
  .exact#[_,j,λv z=>by cases (show Data.fields _=Data.cell v from z)]
  .let q:b=g:=by simpa using hb
   subst q;exact#[o,ei,λv z=>by rw[d]at z;cases z]
 keep:=λi h A st k=>#[let #[O,j]:=st.1;#[O,k e UL _ j],st.2.at λo q=>k g UL o q]
 item:=by
  intro X Q S T U i f s J H E I L st W;subst Q S T;obtain⟨⟨O,j⟩,l⟩:=st;let⟨xs,x,M,N⟩:=W;let⟨m,R,p,hz⟩:=I.tuple M;let⟨u,hu,ru⟩:=R.get N;let Y:e < s.heap.objs.size:=Lz j;let l0:g < s.heap.objs.size:=by let⟨_,q,_⟩:=l;exact Lz q
  let h0:a≠g:=λz=>by rw[z]at p;let⟨o1,e1,c1,_⟩:=l;let⟨o2,B,c2,_⟩:=p;rw[e1]at B;cases B;exact absurd (c1.symm.trans c2) UJ
  let h1:e∉[g,a]:=λz=>by
   rcases Ξ.mp z with z |z
   .exact r z
   .rw[τ.mp z]at j;let⟨o2,B,c2,_⟩:=p;unfold IsEnum at j;rw[j]at B;cases B;exact absurd (show eT "enumerate"=eT "tuple" from c2) UJ
  refine wpAny_pyNext_enum_itemD (rf (by simpa using I.ok.hd U) g a h0 m.toArray) j #[l,p] (by let:=R.length;let:=(ξ.mp N).1;simp;omega) r h1 λx' A t C ho y hT h4 hk=>#[_,Z,?_];let D:=y.1;let ex:u=x':=by
   let h2:m.toArray[i]?=δ u:=by simpa using hu
   rw[h2]at C;exact Mh C
  subst ex;let hn:H s.heap.objs.size=θ:=I.hok.fresh (Lx _);let I1:au X f J H { s with heap:=A,toks:=t+1 }:=I.turnedN L λb o hb q=>hk b o (λz=>hb (by simp [z])) (λz=>hb (by simp [z])) q;let r2:ax [rm i,x] [hL i t,u]:=.cons #[_,Z] (.cons ru .nil);let I2:au X f J (af H s.heap.objs.size$ .tup [.int i,x]) { s with heap:=A,toks:=t+1 }:=
   I1.track (I.fpOk (Lx _) hn) I.sz #[by show 2<=υ;decide,_,r2,_,hT,Z,_,Z]
  let F:∀b∈[e,g],fQ X f (af H s.heap.objs.size$ .tup [.int i,x]) b:=λb hb=>by
   let⟨f0,f1⟩:=L b hb;refine#[?_,f1];rw[ji]
   .exact f0
   .rcases Ξ.mp hb with rfl |hb
    .exact LC Y
    .let q:b=g:=by simpa using hb
     subst q;exact LC l0
  refine wpAny_letOwnedTupleGo_enum (s:={ s with heap:=A,toks:=t+1 }) ho λG h3 n=>?_;replace n:fv e A G:=n;let I3:au X f J (af H s.heap.objs.size$ .tup [.int i,x]) { s with heap:=G,toks:=t+1 }:=I2.turnedN F λb o hb q=>(n.2 b λz=>hb (by simp [z])).trans q;refine#[.ref s.heap.objs.size,_,I3,Z,#[_,x,Z,hn,Z,λys hy=>by rw[I.tuple_inj hy M];exact N],#[#[u,by simpa using h3],D.at λo q=>(n.2 g r.symm).trans q],λb hb=>(F b hb).1]
 done:=by intro X Q S T U i f s J H E I L st W;subst Q S T;obtain⟨⟨O,j⟩,l⟩:=st;let⟨xs,M,N⟩:=W;let⟨m,R,p,hz⟩:=I.tuple M;let hl:=R.length;refine wpAny_pyNext_enum_endD (YM (by simpa using I.ok.hd U) g a m.toArray i (by simp;omega)) j #[Z,l,p] λA eb=>#[Z,?_];exact I.turnedN (t':=s.toks) L λb o hb q=>eb b o (λz=>hb (by simp [z])) q
 self:=λ_ _ _ _ _ st h=>by obtain⟨⟨O,j⟩,_⟩:=st;exact Tz j h
section
variable {X:Cx}{elts:List dr}{kx:Nat}{tp:Pos}
inductive oQ(K:β)(R:It->Hp->Prop)(c:List V)(b:Hp):Prop
 |mk(a:_)(_:c=[.ref a])(_:∃xs,aC K b a xs)(_:R (Bz K a) b)
def Cq(K:β)(t:TA):TI:=λa H R=>t a H (oQ K R)
theorem uH(g:Gl X "enumerate")(j:X.mg "enumerate"=θ)(k:PA X [a] t)(m:Θ [a] X.env=[(μ,eval a X.env)]:=by rfl):PI X (.Tuple elts kx tp) (.Call (.Name "enumerate" p) [a] [] c) (Cq X.K t):=by
 intro P s n H R I h;refine Call_$ zu I g j Uw$ Mn (aU (k c P s n H _ I h) λU S z=>?_) m Z;let⟨V,o,i,u,Q⟩:=z;obtain⟨l,e,⟨A,v⟩,q⟩:=Q;subst e;cases u with
 |cons r w=>
  cases w;cases r;let⟨x,B,p,C⟩:=i.tuple v;refine YL p λD f d y=>?_;refine Tz f ?_;refine#[S.heap.objs.size+1,[S.heap.objs.size+1,S.heap.objs.size],_,_,o,Z,i.kept (t':=S.toks) y,YN l _ _$ Mv$ MQ _,#[#[_,f],d],λb hb=>?_,q];rcases Ξ.mp hb with rfl |hb
  .exact i.fpOk (MZ _)$ i.hok.fresh$ MZ _
  .let e:b=S.heap.objs.size:=by simpa using hb
   subst e;exact i.fpOk (Lx _)$ i.hok.fresh$ Lx _
end
theorem YO{K:β}{xs:List V}{g:TG}{t:TS}{D:a7}(Pv:Nat->St->Hp->Prop)(j:Pv 0 b H)(k:∀i b H,i<=xs.length->Pv i b H->aC K H a xs)
  (l:∀E:a7,E.rt=D.rt->∀i x p b H,xs[i]?=δ x->H p=θ->(∀c e,Pv (i+1) c e->E.nx c e)->∀G:Prop,((g (.ref p) b (af H p$ .tup [.int i,x]) λf n=>t E f n)->G)->Pv i b H->G) (o:∀b H,Pv xs.length b H->D.nx b H):pU (Bz K a) g t D b H:=by
 refine#[λi m b H=>m=xs.length - i/\i<=xs.length/\Pv i b H,#[xs.length,UL,LF _,j],?_];rintro i m b H ⟨rfl,s,p⟩;let q:=k i b H s p;by_cases d:i < xs.length
 .refine .inr #[#[xs,xs[i],q,Ls d],Pv$ i+1,λc e P=>#[xs.length - (i+1),UK,Z,d,P],λx e y=>?_];let⟨r,v,rfl,u,rfl,w⟩:=y;exact l { D with nx:=Pv (i+1),ct:=Pv (i+1),bk:=D.nx } Z i v r b H (w xs q) u (λ_ _ h=>h) _ (λz=>z) p
 .exact .inl #[#[xs,q,UK],o _ _ (by rw[show xs.length=i by omega];exact p)]
abbrev I8(K:β)(i j:Nat):TG:=rh K 2 (dA (bE i)$ dA (bE j) tH)
theorem Fo{t:St}(h:t.length=2):∃a b,t=[a,b]:=by
 cases t with
 |nil=>cases h
 |cons a r=>
  cases r with
  |nil=>cases h
  |cons b R=>
   cases R with
   |nil=>exact#[a,b,Z]
   |cons _ _=>cases h
theorem X6{K:β}{X:List V}{t:TE}{n:List V->Hp->Prop}(f:Nat->V)(u:X.length<=υ)(b:aJ K H a X)
  (p:∀(i:Nat) (x:V),X[i]?=δ x->∃q y z,x= .ref q/\aC K H q [y,z]/\∀Q:VK,Q (f i) H->t (δ y::δ z::c) H Q) (r:n ((fr X.length).map f) H):
  eU (wW K a) 2 c (I8 K 0 1) mJ t n H:=by
 refine#[λi m o d=>m=X.length - i/\i<=X.length/\o=(fr i).map f/\d=H,#[X.length,UL,LF _,UL,Z],?_];rintro i m o d ⟨rfl,w,rfl,rfl⟩;by_cases h:i < X.length
 .refine .inr #[#[X,X[i],b,Ls h],?_,λY g=>Y=(fr$ i+1).map f/\g=d,λY g #[P,s]=>#[X.length - (i+1),UK,Z,h,P,s],λv g T j y=>?_]
  .rw[Lw,Ou];omega
  let⟨e,y⟩:=y;subst e;let⟨q,A,B,rfl,k,l⟩:=p i v (y X b);let⟨C,D,rfl⟩:=Fo j;refine#[q,_,Z,k,Z,_,_,Z,_,_,Z,Z,#[[δ _,δ _],Z,Z],l _ #[?_,Z]];rw[List.range_succ,Mc];rfl
 .let e:i=X.length:=by omega
  subst e;exact .inl #[#[X,b,Lx _],r]
end _L
namespace _L
open PySem PySem.Spec PyProof.Rows PySem.SeqAt PySem.W
noncomputable def Es:List Int->List Int->Bool
 | [],[]=>μ
 | [],_::_=>ν
 |_::_,[]=>μ
 |a::p,b::q=>if a=b then Es p q else decide (a < b)
section
variable {prog:ψ}{w:bU}{A:bS}{E:ζ->ι->Prop}{s:ι}{Q:Bool->ι->Prop}
theorem rS(f:Bool)(h:Q (decide$ a < b) s):π (χ prog w) A (oneLt' f (.int a t)$ .int b u) Q E s:=by
 cases f with
 |true=>exact oneLt_int h
 |false=>exact kat_one _ _ (lt_int h)
theorem Xy:∀{p q:List Int} {U v:List ζ},ax (p.map rm) U->ax (q.map rm) v->∀i,f=decide (p.length < q.length)->Q (Es p q) s->KatLex prog w A b f Q (U.zip v) i s
 | [],[],_,_,.nil,.nil,_,e,h=>by subst e;exact h
 | [],_::_,_,_,.nil,.cons _ _,_,e,h=>by subst e;exact h
 |_::_,[],_,_,.cons _ _,.nil,_,e,h=>by subst e;exact h
 |x::p,y::q,_,_,.cons #[t,c] r,.cons #[u,d] R,i,e,h=>by
  subst c;subst d;let h:Q (if x=y then Es p q else decide (x < y)) s:=h;refine kat_cons$ TN x t y u prog w _ _ ?_;by_cases H:x=y
  .rw[LP H]at h;rw[beq_iff_eq.mpr H];refine kat_yes$ Xy r R (i+1) ?_ h;rw[e];show decide (p.length+1 < q.length+1)=_;by_cases a:p.length < q.length
   .rw[LX a,LX UK]
   .rw[LL a,LL UK]
  .rw[LV H]at h;rw[beq_eq_false_iff_ne.mpr H];exact kat_no$ rS _ h
def AD(h:cJ)(v:ζ)(p:List Int):Prop:=∃a o u n,v= .ref a/\h.get? a=δ o/\o.cls= .type "tuple"/\o.data= .seq u n/\ax (p.map rm) u.toList
theorem GN(c:AD s.heap x p)(d:AD s.heap y q)(h:Q (Es p q) s):π (χ prog w) A (keyLt' (tuples' b) x y) Q E s:=by let⟨a,o,U,n,rfl,e,_,f,H⟩:=c;let⟨i,O,u,N,rfl,K,_,g,k⟩:=d;refine kat_lt e f K g$ Xy H k 0 ?_ h;let l:=H.length;let L:=k.length;rw[Lw]at l L;rw[<- LU,<- LU,<- l,<- L]
def bQ(l:Nat->Nat->Bool)(n:Nat){b:Type}(R:b->Prop):KasT b->Prop
 | .ret a=>R a
 | .ask i j k=>i < n/\j < n/\bQ l n R (k (l i j))
theorem bQ.bind{b c:Type}{R:b->Prop}{S:c->Prop}{f:b->KasT c}(H:∀a,R a->bQ l n S (f a)):∀{t:KasT b},bQ l n R t->bQ l n S (t.bind f)
 | .ret _,h=>H _ h
 | .ask _ _ _,z=>by let⟨d,e,g⟩:=z;exact #[d,e,bQ.bind H g]
theorem bQ.wp{l:Nat->Nat->Bool}{n:Nat}{b:Type}{R:b->Prop}{c:Nat->Nat->(Bool->ι->Prop)->ι->Prop}(H:∀i j (C:Bool->ι->Prop),i < n->j < n->C (l i j) s->c i j C s){G:b->ι->Prop}(d:∀a,R a->G a s):∀{t:KasT b},bQ l n R t->t.kasWp c G s
 | .ret _,h=>d _ h
 | .ask i j _,z=>by let⟨e,f,g⟩:=z;exact H i j _ e f (bQ.wp H d g)
theorem Zm:∀{vs:List ζ} {ps:List (List Int)},vs.length=ps.length->(∀(i:Nat) (v:ζ) (p:List Int),vs[i]?=δ v->ps[i]?=δ p->AD h v p/\p≠[])->∃F:List ζ,F.length=vs.length/\(∀f∈F,∃i t,f= .int i t)/\KatTups h vs F
 | [],[],_,_=>#[[],Z,λ_ z=>(nomatch z),trivial]
 | [],_::_,e,_=>by cases e
 |_::_,[],e,_=>by cases e
 |v::vs,p::ps,e,k=>by
  let⟨F,g,j,l⟩:=Zm (vs:=vs) (ps:=ps) (by simpa using e) λi v p b c=>k (i+1) v p (by simpa using b) (by simpa using c);obtain⟨⟨a,o,U,n,rfl,b,c,m,H⟩,q⟩:=k 0 v p Z Z;cases p with
  |nil=>exact absurd Z q
  |cons i p=>
   cases d:U.toList with
   |nil=>rw[d]at H;cases H
   |cons u r=>
    rw[d]at H;cases H with
    |cons R y=>
     let⟨t,rfl⟩:=(show ∃t,u=hL i t from R);let x:U[0]?=δ (hL i t):=by rw[<- M4,d];rfl
     exact#[hL i t::F,by simp [g],λf hf=>by
      rcases Ξ.mp hf with rfl |hf
      .exact#[_,_,Z]
      .exact j f hf,KatTups.cons b c m x l]
theorem YQ{V:List ζ}{d:List (List Int)}{P:Fin->ι->Prop}(u:s.heap.get? a=δ (seqObj "list" V.toArray n))(I:V.length=d.length)(N:2<=V.length)(y:V.length < 64)
  (O:∀(i:Nat) (v:ζ) (p:List Int),V[i]?=δ v->d[i]?=δ p->AD s.heap v p/\p≠[]/\v≠ .ref a) {R:Array Nat->Prop} (U:bQ (λi j=>Es (d.getD i []) (d.getD j [])) d.length R (kas_sort d.length))
  (h:∀p,R p->P (.done$ .ret .none) { s with heap:=sortedHeap s.heap a V (p.toList.map λi=>V.getD i Ψ).toArray }):
  π (χ prog w) A (ea.«list.sort» #[[.ref a],[]]) P E s:=by
 rw[RC];let la:a < s.heap.objs.size:=Lz u;refine Lr$ Sx u Z ?_;refine Lr$ Ol u Z ?_;obtain⟨g,J⟩:∃g,(s.heap.update a$ ab λ_=>(ε [])).get? a=δ (seqObj "list" (ε []) g):=#[_,RD u (λ_=>(ε []))];refine Lr$ OV J Z ?_;refine Lr$ Oc ?_ (by show V.length<=_;rw[NE];omega);refine Lr$ N6 ?_;refine LI ?_;let K:(((s.heap.update a$ ab λ_=>(ε [])).push$ seqObj "tuple" V.toArray 0).push$ seqObj "list" (ε []) 0).get? a=δ (seqObj "list" (ε []) g):=Lv _ (Lv _ J);let k:∀c v,c≠a->s.heap.get? c=δ v->(((s.heap.update a$ ab λ_=>(ε [])).push$ seqObj "tuple" V.toArray 0).push$ seqObj "list" (ε []) 0).get? c=δ v:=λc v W e=>
  Lv _ (Lv _ (by rw[Se _ _ _ _ W];exact e))
 show π (χ prog w) A _ P E { s with heap:=((s.heap.update a$ ab λ_=>(ε [])).push$ seqObj "tuple" V.toArray 0).push (seqObj "list" (ε []) 0) };dsimp only;let H:∀(i:Nat) (v:ζ) (p:List Int),V[i]?=δ v->d[i]?=δ p->AD (((s.heap.update a$ ab λ_=>(ε [])).push$ seqObj "tuple" V.toArray 0).push$ seqObj "list" (ε []) 0) v p/\p≠[]:=λi v p B x=>by obtain⟨⟨b,o,X,m,rfl,Y,b2,b3,b4⟩,l,D⟩:=O i v p B x;exact#[#[b,o,X,m,Z,k _ _ (λz=>D (by rw[z])) Y,b2,b3,b4],l]
 let⟨fs,f1,f2,f3⟩:=Zm I H;let q:¬V.toArray.size < 2:=by rw[LA];omega
 rw[LV q,LV q];refine Lr$ kat_kind (T:=.type "int") f3 UK (λf hf=>?_) UJ ?_
 .let⟨i,t,rfl⟩:=f2 f hf;exact Ti Z
 refine Lr (Mp (kat_run (Q:=λS r=>r={ s with heap:=((s.heap.update a$ ab λ_=>(ε [])).push$ seqObj "tuple" V.toArray 0).push (seqObj "list" (ε []) 0) }/\∃p,R p/\(arrOf S).map (·.2)=(p.toList.map λi=>V.getD i Ψ).toArray/\failedOf S=θ/\(arrOf S).size=V.length)
  (G:=λp r=>r={ s with heap:=((s.heap.update a$ ab λ_=>(ε [])).push$ seqObj "tuple" V.toArray 0).push (seqObj "list" (ε []) 0) }/\R p) Z N y (λp S r B x a3 L=>#[L.1,p,L.2,?_,a3,?_]) (bQ.wp (n:=d.length) (R:=R) (λi j C F hj hC=>?_) (λp l=>#[Z,l]) (by rw[I];exact U))) ?_ λ_ _ e=>e)
 .rw[kat_snds Z x]
 .rw[x,Tf,B]
 .let M:∀i,i < d.length->AD (((s.heap.update a$ ab λ_=>(ε [])).push$ seqObj "tuple" V.toArray 0).push$ seqObj "list" (ε []) 0) (V.getD i Ψ) (d.getD i []):=λi F=>by
   let g:V[i]?=δ (V.getD i Ψ):=by rw[Mw,Ls (by omega:i < V.length)];rfl
   let e2:d[i]?=δ (d.getD i []):=by rw[Mw,Ls F];rfl
   exact(H i _ _ g e2).1
  exact GN (M i F) (M j hj) hC
 rintro ⟨⟨⟩,S⟩ r ⟨rfl,p,l,q1,q2,q3⟩;dsimp only;refine Lr$ OV K Z ?_;refine Lr$ Ol K Z ?_ (hsz2:=by rw[Tf,q3,NE];omega);rw[q2];simp only[MY,LG,MT];refine Lu ?_;rw[q1];exact h p l
end
section
variable {prog:ψ}{w:bU}{A:bS}{E:ζ->ι->Prop}{s:ι}
theorem YR{P:Fin->ι->Prop}(H:s.heap.get? a=δ (seqObj "list" ([]:List ζ).toArray n))
  (h:P (.done$ .ret .none) { s with heap:=sortedHeap s.heap a ([]:List ζ) (ε []) }):π (χ prog w) A (ea.«list.sort» #[[.ref a],[]]) P E s:=by
 rw[RC];refine Lr$ Sx H Z ?_;refine Lr$ Ol H Z ?_;obtain⟨e,b⟩:∃e,(s.heap.update a$ ab λ_=>(ε [])).get? a=δ (seqObj "list" (ε []) e):=#[_,RD H (λ_=>(ε []))];refine Lr$ OV b Z ?_;refine Lr$ Oc ?_;refine Lr$ N6 ?_;refine LI ?_;let g:(((s.heap.update a$ ab λ_=>(ε [])).push$ seqObj "tuple" ([]:List ζ).toArray 0).push$ seqObj "list" (ε []) 0).get? a=δ (seqObj "list" (ε []) e):=Lv _ (Lv _ b);show π (χ prog w) A _ P E { s with heap:=((s.heap.update a$ ab λ_=>(ε [])).push$ seqObj "tuple" ([]:List ζ).toArray 0).push (seqObj "list" (ε []) 0) };dsimp only;let S:([]:List ζ).toArray.size < 2:=by show 0 < 2;decide
 rw[LP S,LP S];refine Lr$ Lu ?_;rw[SD];refine Lr$ Lu ?_;dsimp only;refine Lr$ OV g Z ?_;let c:(arrOf$ SortSt.mk' general' (([]:List ζ).toArray.zip ([]:List ζ).toArray) (ε []) 7 θ).map (·.2)=(ε []):=by show(([]:List ζ).toArray.zip ([]:List ζ).toArray).map (·.2)=(ε []);simp
 rw[c];refine Lr$ Ol g Z ?_ (hsz2:=by show 0<=υ+1;omega);simp only[MY,LG,MT];exact Lu h
theorem Ah{vs:List ζ}{ps:List (List Int)}{Q:ζ->ι->Prop}(q:s.heap.IsList l vs.toArray)(H:vs.length=ps.length)(r:2<=vs.length)(b:vs.length < 64)
  (t:∀(i:Nat) (v:ζ) (p:List Int),vs[i]?=δ v->ps[i]?=δ p->AD s.heap v p/\p≠[]) {R:Array Nat->Prop} (u:bQ (λi j=>Es (ps.getD i []) (ps.getD j [])) ps.length R (kas_sort ps.length))
  (h:∀p,R p->Q (.ref$ s.heap.objs.size+1) { s with heap:=sortedAll s.heap vs (p.toList.map λi=>vs.getD i Ψ).toArray }):π (χ prog w) A (call (.builtin "sorted") [.ref l]) Q E s:=by
 refine NN Rt P' Ra (Rb _) ?_;unfold ea.«sorted»;refine Lr (m:=checkCount "sorted" 1 1 _)$ Lu ?_;refine Lr$ Sz q ?_ (by rw[NE];omega);refine Lr$ N6 ?_ (by rw[NE];omega);let f:((s.heap.push$ seqObj "list" (ε []) 0).update s.heap.objs.size$ ab (·++vs.toArray)).objs.size=s.heap.objs.size+1:=by rw[PX,RS]
 let g:(((s.heap.push$ seqObj "list" (ε []) 0).update s.heap.objs.size$ ab (·++vs.toArray)).push$ seqObj "list" vs.toArray 0).get? (s.heap.objs.size+1)=δ (seqObj "list" vs.toArray 0):=by rw[<- f];exact LB _ Z
 let k:∀c v,s.heap.get? c=δ v->(((s.heap.push$ seqObj "list" (ε []) 0).update s.heap.objs.size$ ab (·++vs.toArray)).push$ seqObj "list" vs.toArray 0).get? c=δ v:=λc v e=>
  Lv _ (by rw[Se _ _ _ _$ LC$ Lz e];exact Lv _ e)
 show π _ _ _ _ _ { s with heap:=((s.heap.push$ seqObj "list" (ε []) 0).update s.heap.objs.size$ ab (·++vs.toArray)).push (seqObj "list" vs.toArray 0) };rw[f];refine Lr$ LI$ Mg Pp #[_,g,Z] Pj (YQ g H r b (λi v p x y=>?_) u λp d=>#[_,Z,?_]) (Pu _)
 .obtain⟨⟨a,o,U,n,rfl,B,C,D,F⟩,d⟩:=t i v p x y;exact#[#[a,o,U,n,Z,k _ _ B,C,D,F],d,λz=>by injection z with z;exact absurd z$ LC$ Nu$ Lz B]
 .exact Lu #[_,Z,h p d]
theorem Af{Q:ζ->ι->Prop}(H:s.heap.IsList l ([]:List ζ).toArray)
  (h:Q (.ref$ s.heap.objs.size+1) { s with heap:=sortedAll s.heap [] (ε []) }):π (χ prog w) A (call (.builtin "sorted") [.ref l]) Q E s:=by
 refine NN Rt P' Ra (Rb _) ?_;unfold ea.«sorted»;refine Lr (m:=checkCount "sorted" 1 1 _)$ Lu ?_;refine Lr$ Sz H ?_;refine Lr$ N6 ?_;let z:((s.heap.push$ seqObj "list" (ε []) 0).update s.heap.objs.size$ ab (·++([]:List ζ).toArray)).objs.size=s.heap.objs.size+1:=by rw[PX,RS]
 let g:(((s.heap.push$ seqObj "list" (ε []) 0).update s.heap.objs.size$ ab (·++([]:List ζ).toArray)).push$ seqObj "list" ([]:List ζ).toArray 0).get? (s.heap.objs.size+1)=δ (seqObj "list" ([]:List ζ).toArray 0):=by rw[<- z];exact LB _ Z
 show π _ _ _ _ _ { s with heap:=((s.heap.push$ seqObj "list" (ε []) 0).update s.heap.objs.size$ ab (·++([]:List ζ).toArray)).push (seqObj "list" ([]:List ζ).toArray 0) };rw[z];refine Lr$ LI$ Mg Pp #[_,g,Z] Pj (YR g #[_,Z,?_]) (Pu _);exact Lu #[_,Z,h]
end
section
variable {X:Cx}
theorem Eb(I:au X b f H s){p:List Int}(h:H a=δ (.tup$ p.map rm)):AD s.heap (.ref a) p:=by let⟨i,r,P,_⟩:=I.tuple (aC.of (K:=X.K) h);let⟨o,c,d,n,e⟩:=P;exact#[a,o,i.toArray,n,Z,c,d,e,r]
end
end _L
namespace _L
open PySem PySem.W PySem.Spec PyProof.Rows
structure PB(n:Nat)(p:Array Nat):Prop where
 z:p.size=n
 m:∀x∈p.toList,x < n
theorem PB.get(h:PB n p)(a:0 < n)(i:Nat):p.getD i 0 < n:=by
 by_cases H:i < p.size
 .rw[show p.getD i 0=p[i] by simp [Array.getD,H]];exact h.m _ UL
 .rw[show p.getD i 0=0 by simp [Array.getD,H]];exact a
theorem PB.of{n:Nat}{q:Array Nat}(h:PB n p)(k:q.Perm p):PB n q:=#[k.size_eq.trans h.z,λx H=>h.m x (k.toList.mem_iff.mp H)]
theorem PB.rev(h:PB n p)(i j:Nat):PB n (kas_rev p i j):=h.of (mirror_perm _ _ _ _)
section
variable {lt:Nat->Nat->Bool}{n:Nat}
theorem zd{a:Type}{R:a->Prop}[Decidable c]{s t:KasT a}(h:bQ lt n R s)(k:bQ lt n R t):bQ lt n R (if c then s else t):=by
 split
 .exact h
 .exact k
theorem tI(h:0 < n)(H:PB n p):∀f m,bQ lt n (λ_=>True) (kas_asc p f m)
 |0,_=>trivial
 |f+1,m=>#[H.get h _,H.get h _,zd trivial (tI h H f (m+1))]
theorem QT(H:0 < n):∀f {p:Array Nat} (_:PB n p) m q,bQ lt n (λr=>PB n r.1) (kas_desc f p m q)
 |0,_,h,_,_=>h
 |f+1,p,h,m,q=>#[h.get H _,h.get H _,zd (zd (QT H f (h.rev _ _) _ _) (QT H f h _ _)) #[h.get H _,h.get H _,zd h (QT H f h _ _)]]
theorem tJ(H:0 < n)(h:PB n p)(m k:Nat):bQ lt n (λr:Nat×Array Nat=>PB n r.2) (kas_tail3 m k p):=by refine bQ.bind (R:=λ_=>True) (λr _=>?_)$ tI H (h.rev 0 m) _ _;exact h.rev 0 m
theorem Cj(h:0 < n)(a:PB n p)(m k:Nat):bQ lt n (λr:Nat×Array Nat=>PB n r.2) (kas_descPart m k p):=by refine bQ.bind (R:=λr:Array Nat×Nat×Nat=>PB n r.1) (λr H=>?_)$ QT h _ a _ _;exact zd (tJ h (H.rev _ _) _ _)$ tJ h H _ _
theorem xM(H:0 < n){p:Array Nat}(h:PB n p)(k:Nat):bQ lt n (λr:Nat×Array Nat=>PB n r.2) (kas_count k p):=by refine bQ.bind (R:=λ_=>True) (λr _=>?_)$ tI H h _ _;let part:=λ(q:Array Nat) (a:PB n q)=>Cj (lt:=lt) H a r k;exact zd (show bQ lt n _ (.ret (r,p)) from h)$ zd (show bQ lt n _ (.ask _ _ _) from #[h.get H _,h.get H _,zd (show bQ lt n _ (.ret (r,p)) from h)$ part _$ h.rev 0 r])$ part _ h
theorem Q4(h:0 < n)(H:PB n p)(k:Nat):∀f l r,bQ lt n (λ_=>True) (kas_place p k f l r)
 |0,_,_=>trivial
 |f+1,l,r=>zd trivial #[H.get h _,H.get h _,zd (Q4 h H k f _ _) (Q4 h H k f _ _)]
theorem AU(H:0 < n):∀f {p:Array Nat} (_:PB n p) k,bQ lt n (PB n) (kas_bin f p k)
 |0,_,h,_=>h
 |f+1,p,h,k=>by refine bQ.bind (R:=λ_=>True) (λl _=>?_)$ Q4 H h k _ _ _;exact AU H f (h.of$ bubble_perm _ _ _) _
theorem Ck(h:0 < n):bQ lt n (PB n) (kas_sort n):=by refine bQ.bind (R:=λr:Nat×Array Nat=>PB n r.2) (λr H=>?_)$ xM h (p:=ε (fr n)) #[UL,λx a=>by simpa using a] n;exact zd (AU h _ H _) (show bQ lt n _ (.ret r.2) from H)
end
section
variable {X:Cx}
theorem Zn{H:Hp}:∀{b:List V},(∀v∈b,∃(a:η) (p:List Int),v= .ref a/\H a=δ (.tup$ p.map rm)/\p≠[])->∃P:List (List Int),P.length=b.length/\∀(i:Nat) (v:V) (p:List Int),b[i]?=δ v->P[i]?=δ p->∃a,v= .ref a/\H a=δ (.tup$ p.map rm)/\p≠[]
 | [],_=>#[[],Z,λi v p h=>by simp at h]
 |x::b,d=>by
  let⟨P,e,h⟩:=Zn λv c=>d v (LW _ c);let⟨a,p,E,j,k⟩:=d x LN;refine#[p::P,by simp [e],λi v q f g=>?_];cases i with
  |zero=>cases f;cases g;exact#[a,E,j,k]
  |succ i=>exact h i v q (by simpa using f) (by simpa using g)
inductive uR(K:β)(c:List V)(H:Hp)(Q:VK):Prop
 |mk(l:η)(b:List V)(_:c=[.ref l])(_:aJ K H l b)(_:b.length < 64)(_:∀v∈b,∃(a:η) (p:List Int),v= .ref a/\H a=δ (.tup (p.map rm))/\p≠[])(_:∀(r:η) (ws:List V),H r=θ->Q (.ref r) (af H r (.lst ws)))
theorem Xk:cQ X (.builtin "sorted") (uR X.K):=by
 intro d s F H xs us Q I r h;let⟨l,vs,rfl,G,A,J,k⟩:=h;let⟨u,rfl,M⟩:=dY r;cases M;let⟨b,R,P,_⟩:=I.list G;let L:=R.length;let f:∀(o:List ζ) (W:List V),ax W o->W.length < 64->EP X d F Q (.ref$ s.heap.objs.size+1) { s with heap:=sortedAll s.heap b o.toArray }:=λo W rw lw=>by let⟨c,N⟩:=sortedAll_at s.heap b o.toArray;exact#[.ref$ s.heap.objs.size+1,_,I.laid (t':=s.toks) (λ_ _ e=>sortedAll_old e) (MZ _) (show aM X.prog X.w _ _ _ (.lst W) from #[by rw[NE];omega,o,c,rw,N]),Z,k _ W$ I.hok.fresh$ MZ _]
 let D:∀i,i < vs.length->∃v u,vs[i]?=δ v/\b[i]?=δ u/\aF v u:=λi g=>by let⟨U,j,q⟩:=R.get (Ls g);exact#[_,U,Ls g,j,q]
 let⟨ps,lp,t⟩:=Zn J;by_cases y:2<=b.length
 .refine Ah (vs:=b) (ps:=ps) P.isList UK y UK (λi v p E O=>?_) (Ck UK) λp t=>?_
  .let g:i < vs.length:=by let:=(ξ.mp E).1;omega
   let⟨S,U,j,q,B⟩:=D i g;rw[E]at q;cases q;let⟨a,T,Y,hn⟩:=t i S p j O;subst T;cases B;exact#[Eb I Y,hn]
  .refine f _ (p.toList.map λi=>vs.getD i .non) ?_ (by rw[Lw,LU,t.z];omega);let C:=t.m;generalize p.toList=l at C;clear f;induction l with
   |nil=>exact .nil
   |cons i l ih=>have g:=C i LN;let⟨v,u,j,q,B⟩:=D i UK;refine .cons ?_$ ih λx hx=>C x (LW _ hx);show aF (vs.getD i V.non) (b.getD i Ψ);rw[Mw,Mw,j,q];exact B
 .match b,R,P,L,f,y with
  | [],R,P,L,f,_=>exact Af (by simpa using P.isList) (f [] [] .nil UJ)
  | [v],R,P,L,f,_=>exact Ag (by simpa using P.isList) (f [v] vs R A)
  |v1::v2::n,R,P,L,f,y=>exact absurd (by show 2<=n.length+2;omega) y
end
end _L
namespace _L
open PySem PySem.Spec PyProof.Rows
structure gY(k:Nat)(A:bS):Prop where
 dp:A.depth+3*k+5 < recursionLimit
 un:A.units+16*k+200 < cLine
theorem bo.mkM(r:bo k A):gY k (A.mark e):=#[r.dp,r.un]
theorem gY.deeper(r:gY (k+1) A)(e:rc):gY k (A.deeper e):=
 #[by let:=r.dp;show A.depth+1+3*k+5 < _;omega,by let:=r.un;show A.units+3+16*k+200 < _;omega]
structure By(P:ψ)(w:bU)(K:β)(mg:ρ->Option ζ)(base:cJ)(k:Nat)(f:η)(fd:fy)(ps:List ρ)(sp:Sp):Prop where
 len:∀vs H Q E,sp vs H Q E->vs.length=ps.length
 run:∀(A:bS) (outer:List rc) (s:ι) (H:Hp) (args:Args) (us:List ζ) (vs:List V) (Q:VK) (E:XK),gY k A->lP P w K mg base A outer s H->BindsTo s fd args (ps.zip us)->ax vs us->sp vs H Q E->
  hY (χ P w) A (.call (.ref f) args) (CR aE outer P w H s Q E) s
noncomputable abbrev Ep(P:ψ)(w:bU)(K:β)(m:ρ->Option ζ)(b:cJ)(N:List ρ)(q:ρ)(S:hG)(f:η)(c:ζ)(A:bS)(o:List rc)(s:ι)(H:Hp)(E:XK):Cx:=
 { d9 aE P w K m b N q S f c A o s H E with calm:=μ }
theorem Fk{P:ψ}{K:β}{A:bS}
  (I:au (d9 aE P w K m b N q a f c i o s H E) p d h e) (g:(A.deeper$ envOfC q a s.heap.objs.size f c).frames=δ (envOfC q a s.heap.objs.size f c::o)):au (Ep P w K m b N q a f c A o s H E) p d h e:=
 #[#[I.ok.mod,I.ok.kind,I.ok.glob,I.ok.blt,I.ok.above,I.ok.inj,I.ok.has,I.ok.cab,(λz=>by cases z),g,I.ok.stk,I.ok.exf,I.ok.bs,I.ok.bsz,I.ok.noex,I.ok.exfs,I.ok.funs,I.ok.frf],I.os,I.bare,I.base,I.loc,I.cell,I.free,I.freeC,I.pin,I.hok,I.len]
theorem Ce{P:ψ}{K:β}{kV:ζ}
    {G:Sp} (lk:K.lookup f=δ #[oc,od,.func$ qs name c p i a dV kV L pm an C ct,o1]) (R:codeIn K C c=ν) (S:ak N T a)
  (len:∀g H Q E,G g H Q E->g.length=T.length)
  (l:∀(A:bS) (O:List rc) (s:ι) (H:Hp) (g:List V) (Q:VK) (E:XK),gY k (A.deeper$ envOfC c a s.heap.objs.size f C)->G g H Q E->
   ∃t,mN (Ep P w K M B N c a f C A O s H E) i t/\t { nx:=λ_ j=>Q .non j,rt:=Q } (dJ N g) H):
  By P w K M B (k+1) f (qs name c p i a dV kV L pm an C ct) T G:=by
 refine#[len,λA O s H a0 us g Q E hr d hb r D=>?_];let hl:=len _ _ _ _ D;let KX:K.In s.heap:=d.mod.kin.keeps λb o e=>(d.bs b o e).1;let U:s.heap.NoLimit:=d.mod.nolimit.keeps λb o e=>(d.bs b o e).1;let m:∀y∈T.zip us,a.names.lookup y.1=δ .local∨(a.names.lookup y.1=δ .cell/\((cellsFrom (s.heap.objs.size+1) a.names []).lookup y.1).isSome=ν):=λ#[n,v] hy=>by
  rcases S.par n (Og hy).1 with q |q
  .exact .inl q
  .exact .inr #[q,OE _ _ _$ .inl q]
 refine SM (by let:=hr.dp;omega) (KX _ _ lk) Z S.co S.gen Z (RU KX R)$ hb _ _ _ _ ?_;refine RP S.kind m λe1 he s1 x=>?_;subst he;refine#[U.keeps x.toInCall.keep,codeAny_func ?_];let⟨t,ht,hq⟩:=l A O s H g Q E (hr.deeper _) D;let W:lP P w K M B { A with handled:=θ } O s H:=#[d.frames,d.mod,d.bs,d.bsz,d.funs,d.frf,d.hok,d.bare];let I:au (Ep P w K M B N c a f C A O s H E) [] (dJ N g) H s1:=Fk (QB (A:={ A with handled:=θ }) (E:=E) S Z W hl r x) (RN d.frames);refine Mp (ht [] s1 (dJ N g) H _ I hq) (λfl X z=>?_) λe X z=>z;let F:∀{h:St} {j:Hp} {v:V} {u:ζ},au (Ep P w K M B N c a f C A O s H E) [] h j X->aF v u->Q v j->CE O P w H s Q u X:=
  λ{h j v u} J Y q=>#[v,j,J.os,J.bare,J.base,J.hok,Y,q]
 cases fl with
 |ret u=>let⟨v,h,j,J,Y,q⟩:=z;exact F J Y q
 |next=>let⟨h,j,J,q⟩:=z;exact F (v:=V.non) (u:=Ψ) J Z q
 |brk=>let⟨_,_,_,q⟩:=z;exact False.elim q
 |cont=>let⟨_,_,_,q⟩:=z;exact False.elim q
theorem aQ.okM{P:ψ}{K:β}{st:cv}{d:Sp}(F:aQ K x a st f i)(S:ak N p (aa st))(len:∀v H Q E,d v H Q E->v.length=p.length)
  (b:∀(c:ζ) (A:bS) (o:List rc) (s:ι) (H:Hp) (v:List V) (Q:VK) (E:XK),gY k (A.deeper$ envOfC a (aa st) s.heap.objs.size f c)->d v H Q E->
   ∃t,mN (Ep P w K m B N a (aa st) f c A o s H E).nox (ba st) t/\t { nx:=λ_ j=>Q .non j,rt:=Q } (dJ N v) H):By P w K m B (k+1) f i p d:=by
 let⟨n,r,kV,D,u,y,c,C,O,rfl,lk,e⟩:=F.ex;refine Ce lk e S len λA o s H v Q E l g=>?_;let⟨t,h,q⟩:=b c A o s H v Q E l g;exact#[t,h.nox,q]
section
variable {X:Cx}{k:Nat}{f:η}{fd:fy}{ps:List ρ}{sp:Sp}{dvs:List V}{ds:List ζ}{x:ρ}{p pos:Pos}{e:dr}{es:List dr}{t:TA}
theorem Xz(F:By X.prog X.w X.K X.mg X.base k f fd ps sp)(d:gY k X.A)(g:Gl X x)(j:X.mg x=↑f)(l:fz X.K (.ref f)=ν)(m:aw X.K fd ps ds)(n:ax dvs ds)
  (o:PA X (e::es) t) (b:(x==("__debug__":ρ))=μ:=by decide) (y:Θ (e::es) X.env=(μ,eval e X.env)::Θ es X.env:=by rfl) (c:(fx pos$ Θ es X.env).any (·.1)=μ:=by rfl):
  PE X (.Call (.Name x p) (e::es) [] pos) (dM sp dvs E0 t):=by
 intro P s z H Q I h;refine Mt$ zJ I g j ?_ b;refine Pg (h₀:=X.base) I.ok.mod.kin l (aU (o pos P s z H _ I h) λU S #[v,B,i,r,q]=>#[i.kIn,?_]) y c;let R:ax (v++dvs) (U++ds):=r.append n;let C:(U++ds).length=ps.length:=by rw[<- R.length];exact F.len _ _ _ _ q
 refine OA$ NJ (F.run X.A X.stack S B #[U,[]] (U++ds) (v++dvs) Q E0 d i.env0 (m S U i.kIn C) R q) λr E a=>?_;cases r with
 |error e=>exact a.elim
 |ok D=>
  cases D with
  |ret u=>exact i.after a
  |next=>exact False.elim a
  |brk=>exact False.elim a
  |cont=>exact False.elim a
end
def Ix(r:R2)(t:Eo)(T:TE):Eo:=λa H Q R=>t a H (λx h=>T a h λy b=>r x y b Q) R
theorem Dv{X:Cx}{r:R2}{a b:dr}{t:Eo}{T:TE}{P:Pos}(e:ED X.nox r)(f:G8 X a t)(g:PE X.nox b T)(i:oO b):G8 X (.Subscript a b P) (Ix r t T):=by intro p s d H Q R I h;refine RT$ aU (f p s d H _ R I h) λv S c=>?_;let⟨x,j,k,l,q⟩:=c;refine Mp (g p S d j _ (k.wish _) q) (λu m c=>?_) λ_ _ z=>z.elim;let⟨y,n,o,A,B⟩:=c;exact Mp (e a b p m d n x y v u Q o l A B$ i _ _) (λw G #[z,C,D,E,F]=>#[z,C,D.unwish,E,F]) λ_ _ z=>z.elim
section
variable {X:Cx}{pos:Pos}
inductive we(K:β)(i j:Nat)(D:a7)(e:St)(x:V)(b:Hp):Prop
 |mk(a c d:_)(_:x= .ref a)(_:aC K b a [c,d])(_:D.nx ((e.set j (δ d)).set i (δ c)) b)
def Bq(K:β)(t:TE)(i j:Nat):TS:=λD a H=>t a H (we K i j D a)
theorem yG{t e:dr}{T:TE}{x y:ρ}{i j:Nat}(k:X.calm=ν)(c:X.N.Nodup)(l:X.N[i]?=δ x)(m:X.N[j]?=δ y)(L:pW X.env.scope x)(n:pW X.env.scope y)(w:PE X e T)
  (F:X.fn x=ν∨X.env.scope.names.lookup x=δ .local:=by first |exact .inl Z |exact .inr Z) (A:X.fn y=ν∨X.env.scope.names.lookup y=δ .local:=by first |exact .inl Z |exact .inr Z)
  (B:swapsWithSole [t] e pos.line X.env=pure μ:=by rfl) (C:swappedStores [t] e X.env=pure (δ [x,y]):=by rfl):PS X (.Assign [t] e pos) (Bq X.K T i j):=by
 intro p s d H D I h;rw[Ua];refine Lr$ Nw ?_;rw[B];refine Lr$ Lu ?_;rw[LV UJ];refine Lr$ aU (w p s d H _ I h) λv S z=>?_;let⟨xv,f,g,R,a,v1,v2,E,G,q⟩:=z;rw[C];refine Lr$ Lu ?_;subst E;cases R;let⟨J,r,M,hz⟩:=g.tuple G;cases r with
 |cons Q r=>
  cases r with
  |cons O r=>
   cases r
   rename_i u U
   unfold assignStores;refine Lr$ Nh$ Lr$ Sf (items:=(ε [u,U])) (I.ok.hd k) M λP V=>?_;let W:au X p d f { S with heap:=P }:=g.kept (t':=S.toks) λb o e=>V b o (LC$ Lz e) e;refine Lr ?_;show π _ _ (assignInOrder [λv=>bindName X.env y v,λv=>bindName X.env x v] [U,u]) _ _ _;refine Lr$ LI$ OB$ kn W c m n O (λs3 Y=>?_) A;refine Lr$ LI$ OB$ kn Y c l L Q (λs4 I5=>?_) F;exact Lu$ Lu #[_,f,I5,q]
end
end _L
namespace _L
open PySem PySem.Spec PyProof.Rows
theorem bo.m(r:bo k A)(h:j<=k:=by omega):bo j A:=r.mono h
theorem bJ{N P:List ρ}{s:hG}(a:s.kind=.function:=by rfl)(b:s.isCoroutine=μ:=by rfl)(c:s.isGenerator=μ:=by rfl)(d:N.Nodup:=by decide +kernel)(e:N.take P.length=P:=by rfl)(f:∀x∈P,s.names.lookup x=δ .local ∨ s.names.lookup x=δ .cell:=by decide +kernel)(g:∀y∈s.names,y.2≠.free:=by decide +kernel):ak N P s:=#[a,b,c,d,e,f,g]
theorem sr{N:List ρ}{s t:hG}{M:List ρ}{i:List Nat}(a:∀y∈t.names,y.2≠.cell:=by decide +kernel)(b:t.kind=.function:=by rfl)(c:∀y∈t.names,y.2=.local->t.names.lookup y.1=δ .local:=by decide +kernel)(d:∀y∈t.names,y.2=.free->s.names.lookup y.1=δ .cell:=by decide +kernel)(e:M.drop n=i.map (λi=>N.getD i Str.empty):=by decide +kernel)(f:M.length=n+i.length:=by rfl)(g:∀j∈i,t.names.lookup (N.getD j Str.empty)=δ .free:=by decide +kernel):bu N s t M n i:=#[a,b,c,d,e,f,g]
end _L
local macro_rules|`(tactic|obtain $p:rcasesPat:=$t)=>`(tactic|(refine _L.aT λG k=>?_;rcases $t:term with $p:rcasesPat<;>(refine k ?_;clear k)))
namespace _K
open PySem PySem.Spec PyProof.Rows _L
abbrev z0z:List ρ:=["_law_box_here","_law_wide"]
abbrev z1z:List ρ:=["_law_box_here"]
abbrev z2z:List ρ:=["term"]
abbrev z3z:List ρ:=["statement","behind"]
abbrev z4z:List ρ:=["statement"]
abbrev z5z:List ρ:=["_law_box_here","_law_names_here","_law_heads","_law_spare","_law_deep"]
abbrev z6z:List ρ:=["self","parts","cells","most"]
abbrev z7z:List ρ:=["self","statement","behind"]
abbrev z8z:List ρ:=["part","n","held"]
abbrev z9z:List ρ:=["path","what"]
abbrev z10z:List ρ:=["term","held"]
abbrev z11z:List ρ:=["self","deed","deep"]
abbrev z12z:List ρ:=["_law_box_here","_law_names_here","_law_deep"]
abbrev z13z:List ρ:=["self","body","behind"]
abbrev z14z:List ρ:=["self","part","args","deep"]
abbrev z15z:List ρ:=["self","path","old","deep"]
abbrev z16z:List ρ:=["_law_chain"]
abbrev z17z:List ρ:=["body","behind"]
abbrev z18z:List ρ:=["_law_box_here","_law_a","_law_b"]
abbrev z19z:List ρ:=["name","params","body"]
abbrev z20z:List ρ:=["_law_box_here","_law_f","_law_inner_here","_law_w"]
abbrev z21z:List ρ:=["_law_box_here","_law_total"]
abbrev z22z:List ρ:=["self","statement","place","behind"]
abbrev z23z:List ρ:=["sign","left","right"]
abbrev z24z:List ρ:=["self","cells","most"]
abbrev z25z:List ρ:=["self","path","old","deed","deep"]
abbrev z26z:List ρ:=["_law_box_here","_law_names_here"]
abbrev z27z:List ρ:=["parts","f","args","cells","most"]
abbrev z28z:List ρ:=["parts","old","cells","most"]
abbrev z29z:List ρ:=["_law_box_here","_law_total","_law_letters","_law_wide","_law_spot_here","_law_signs","_law_first","_law_form","_law_found","_law_k","_law_one","_law_word_here","_law_some","_law_odd"]
abbrev z30z:List ρ:=["_law_k","_law_box_here","_law_letters"]
abbrev z31z:List ρ:=["_law_j","_law_box_here","_law_letters"]
abbrev z32z:List ρ:=["num","var","op","go","ask","back","chain","sets","iff","ends","calls","reads","gives"]
abbrev z33z:List ρ:=["_law_one","_law_box_here","_law_names_here"]
abbrev z34z:List ρ:=["_law_box_here","_law_total","_law_room"]
abbrev z35z:List ρ:=["_law_box_here","_law_f","_law_g","_law_w"]
abbrev z36z:List ρ:=["_law_parts","_law_f","_law_args","_law_cells_here","_law_most"]
abbrev z37z:List ρ:=["_law_parts","_law_old","_law_cells_here","_law_most"]
abbrev z38z:List ρ:=["_law_box_here","_law_names_here","_law_heads","_law_spare","_law_deep","_law_kind","_law_x","_law_f","_law_params","_law_body_here"]
abbrev z39z:List ρ:=["_law_box_here","_law_f","_law_inner_here","_law_w","_law_n","_law_i","_law_s","_law_x","_law_y","_law_body_here","_law_spot_here","_law_start","_law_loop"]
abbrev z40z:List ρ:=["_law_box_here","_law_f","_law_inner_here","_law_w","_law_n","_law_i","_law_s","_law_x","_law_y","_law_spot_here","_law_body_here","_law_kept","_law_some","_law_start","_law_loop"]
abbrev z41z:List ρ:=["_law_box_here","_law_program","_law_total","_law_f","_law_params","_law_body_here"]
variable {P:ψ}{w:bU}{K:β}{mg:ρ->Option ζ}{base:cJ}
noncomputable def bK(i:Nat):cv:=PySem.Challenge.pw_againbook_k42_again_refused.main.body.getD i (.Pass #[0,0,0,0])
noncomputable abbrev DG:cv:=bK 64
noncomputable abbrev vp:cv:=bK 65
noncomputable abbrev iF:cv:=bK 67
def aD(p:η)(H h:Hp):Prop:=∀b o,b≠p->H b=δ o->h b=δ o
theorem aD.refl:aD p H H:=λ_ _ _ h=>h
theorem aD.trans(a:aD p H d)(b:aD p d e):aD p H e:=λc o n h=>b c o n (a c o n h)
theorem aD.of_eq{H a:Hp}(h:∀b,b≠p->a b=H b):aD p H a:=λb o n e=>by rw[h b n];exact e
theorem aD.upd_new{o:HO}(a:aD p H h)(n:h r=θ):aD p H (af h r o):=λb u N e=>by let q:=a b u N e;rw[ji$ jl q n];exact q
theorem aD.upd_own(a:aD p H h)(n:H r=θ):aD p H (af h r o):=λb u N e=>by rw[ji$ jl e n];exact a b u N e
structure ap(H:Hp)(p:η):Prop where
 ob:∃a b:Int,0<=a/\1<=b/\b<=2147483646/\H p=δ (.lst [.int a,.int b])
theorem ap.eq{c:Hp}(B:ap H p)(e:c p=H p):ap c p:=by let⟨a,b,d,f,g,h⟩:=B.ob;exact#[a,b,d,f,g,by rw[e];exact h]
theorem ap.upd_new{o:HO}(B:ap H p)(n:H r=θ):ap (af H r o) p:=by let⟨a,b,c,d,e,h⟩:=B.ob;exact B.eq (by rw[ji$ jl h n])
theorem ap.ne(B:ap H p)(n:H r=θ):r≠p:=by let⟨a,b,c,d,e,h⟩:=B.ob;exact Me$ jl h n
inductive aZ(c:List V)(H:Hp)(Q:VK)(a:XK):Prop
 |mk(p:η)(w:Int)(_:c=[.ref p,.int w])(_:ap H p)(_:0 < w)(_:w<=1000000000000000000)(_:∀(d:Int) (H':Hp),0<=d->d < w->ap H' p->(∀b,b≠p->H' b=H b)->Q (.int d) H')
inductive pG(K:β)(e:List V)(H:Hp)(Q:VK)(c:XK):Prop
 |mk(a:η)(d:List Int)(k:Int)(_:e=[.ref a,.int k])(_:aJ K H a (d.map rm))(_:0<=k)(_:k < 1000)(_:∀(r:η) (H':Hp),H r=θ->ap H' r->(∀b,b≠r->H' b=H b)->Q (.ref r) H')
theorem pP:(10:Int) ^ (18:Int).toNat=1000000000000000000:=by decide
theorem tU{ns:List Int}{k:Int}(H:0<=k)(a:k < (ns.length:Int)):∃v:Int,dO (ns.map rm) k=δ (.int v):=by
 let h:k.toNat < ns.length:=by omega
 let e:k=((k.toNat:Nat):Int):=by omega
 let q:dO (ns.map rm) ((k.toNat:Nat):Int)=δ (.int ns[k.toNat]):=jJ (by rw[LK,Ls h];rfl);rw[<- e]at q;exact#[_,q]
structure Cl(P:ψ)(w:bU)(K:β)(mg:ρ->Option ζ)(base:cJ)(L:Nat)(f:η)(fd:fy)(ps:List ρ)(sp:Sp)(py:ρ):Prop where
 g:ah P w K mg base aE L f fd ps sp
 b:aw K fd ps []
 k:fz K (.ref f)=ν
 m:mg py=↑f
theorem Cl.e{X:Cx}{e:dr}(c:Cl X.prog X.w X.K X.mg X.base L f o q s a)(i:bo L X.A)(j:PA X (e::E) t)(l:Gl X a:=by rfl)(h:(a==("__debug__":ρ))=μ:=by decide)(n:Θ (e::E) X.env=(μ,eval e X.env)::Θ E X.env:=by rfl)(H:(fx d$ Θ E X.env).any (·.1)=μ:=by rfl):PE X (.Call (.Name a p) (e::E) [] d) (dM s [] E0 t):=kG c.g i l c.m c.k c.b .nil bH j h n H
theorem jz{X:Cx}(h:PE X a t):PE X (.Subscript a (.Constant (.int i) j p) b) (dW (eh X.K) t$ tC$ .int i):=jr jM h je λ_ _=>Z
theorem jy{X:Cx}{p:Pos}(i:Nat)(h:X.N.Nodup)(H:PE X e t)(b:X.N[i]?=δ x:=by rfl)(c:pW X.env.scope x:=by exact Φ Z)(d:swapsWith e (δ$ .Name x a) p.line X.env=pure μ:=by rfl)(f:X.fn x=ν∨X.env.scope.names.lookup x=δ .local:=by first |exact .inl Z |exact .inr Z |assumption):PS X (.Assign [.Name x a] e p) (eu t$ bE i):=zc h b c H d f
theorem ju{K:β}{H:Hp}{Q:VK}(h:H p=δ (.tup x))(a:dO x n=δ v)(q:Q v H)(e:b[i]?=δ (↑p):=by rfl):dW (eh K) (a9 i) (tC$ .int n) b H Q:=#[_,e,p,x,n,v,Z,Z,aC.of h,a,q]
theorem kc{X:Cx}(h:PE X a t):PT X (.Compare a [.Eq] [.Constant (.str x) j p] b) (i6$ dW FT t$ tC$ .str x):=jA qo h jk Z
theorem ze{X:Cx}(h:PE X a t):PT X (.Compare a [.Eq] [.Constant (.int x) j p] b) (i6$ dW FT t$ tC$ .int x):=jA qo h je Z
theorem iI:ak ["_law_box_here","_law_wide","_law_digit","_law_one","_law_mixed"] z0z (aa vp):=bJ
theorem yv(F:rx K "_law_take" vp f x):ah P w K mg base aE 1 f x z0z aZ:=by
 refine F.ok iI λC A O s H V Q E z h=>?_
 let⟨p,W,rfl,B,d,g,q⟩:=h;let⟨a,b,l,i,j,e⟩:=B.ob;refine#[_,jd (jx (jA qX (jr jq (pv 0) je (λ_ _=>Z)) je$ aG _)
   (jd (jy 2 iI.nd$ jv zg (jr jq (pv 0) je (λ_ _=>Z))$ pv 1)
   (jd (zf (jv Ku (jr jq (pv 0) je (λ_ _=>Z))$ pv 1)$ qO (pv 0) je zB)
   (jg$ jo$ pv 2))) jp)
  (jd (jy 3 iI.nd$ jv zg (jv zw (jr jq (pv 0) je (λ_ _=>Z)) je) je)
  (jd (zf (jv jU (jv zg (jv jU (jv zw (pv 3) je) je) je) je)$ qO (pv 0) je zB)
  (jd (jy 4 iI.nd$ jv Ku (jv jU (jv zw (pv 3) je)$ jr jq (pv 0) je (λ_ _=>Z)) je)
  (jd (jx (jA qX (pv 1) (jv Jv je je)$ aG _) (jg$ jy 4 iI.nd$ jv zw (pv 4)$ pv 4) jp)
  (jg$ jo$ jv zg (pv 4)$ pv 1))))),?_]
 refine#[_,Z,p,_,_,_,Z,Z,aJ.of e,Z,_,_,Z,Z,_,Z,?_];refine bV (λc=>?_) (λc=>?_)
 .let D:(0:Int) < a:=Mu c;refine#[_,Z,p,_,_,_,Z,Z,aJ.of e,Z,_,Z,_,_,Z,Z,d,?_];refine#[_,Z,p,_,_,_,Z,Z,aJ.of e,Z,_,Z,_,_,Z,Z,#[d,g],_,Z,p,_,_,0,Z,Z,e,Z,_,Z,?_];refine q (a % W) _ (MF _ UK) (Mo _ d) #[a / W,b,Tp l UK,i,j,jc] λb n=>ji n
 .let I:0<=b*69621 % 2147483647:=MF _ UJ;let J:b*69621 % 2147483647 < 2147483647:=Mo _ UJ;refine#[_,Z,p,_,_,_,Z,Z,aJ.of e,Z,_,_,Z,Z,.inr #[UJ,UJ],_,_,Z,Z,(by show(0:Int) < 2147483647;decide),?_];refine#[_,Z,_,_,Z,Z,.inr #[UJ,UJ],_,_,Z,Z,_,_,Z,Z,(by show(0:Int) < 2147483646;decide),_,_,Z,Z,_,Z,p,_,_,1,Z,Z,e,Z,?_];generalize m:b*69621 % 2147483647=o at*;let N:0<=(o*48271+30103) % 2147483646:=MF _ UJ;let L:(o*48271+30103) % 2147483646 < 2147483646:=Mo _ UJ;generalize r:(o*48271+30103) % 2147483646=t at*;refine#[_,Z,_,_,Z,Z,.inr #[UJ,UJ],_,Z,p,_,_,_,Z,Z,aJ.of jc,Z,_,_,Z,Z,_,_,Z,Z,#[UJ,UJ],?_];let X:0<=(o*2147483647+(t+1)) / 8191:=by omega
  let R:(o*2147483647+(t+1)) / 8191 < 18446744073709551616:=by omega
  generalize u:(o*2147483647+(t+1)) / 8191=M at*;refine#[_,Z,_,_,Z,Z,#[UJ,UJ,UJ],_,_,Z,Z,_,Z,?_];let v:ap (af H p$ .lst [.int a,.int$ t+1]) p:=#[a,t+1,l,UK,UK,jc];refine bV (λy=>?_) (λy=>?_)
  .refine#[_,Z,_,Z,_,_,Z,Z,.inl #[UK,UK],?_];refine#[_,Z,_,Z,_,_,Z,Z,d,?_];exact q _ _ (MF _ UK) (Mo _ d) v λb n=>ji n
  .refine#[_,Z,_,Z,_,_,Z,Z,d,?_];exact q _ _ (MF _ UK) (Mo _ d) v λb n=>ji n
theorem mY:ak ["_law_script","_law_k","_law_cell","_law_seed"] ["_law_script","_law_k"] (aa DG):=bJ
theorem CZ(F:rx K "_law_box" DG f I)(m:mg "len"=θ)(M:mg "int"=θ):ah P w K mg base aE 1 f I ["_law_script","_law_k"] (pG K):=by
 refine F.ok mY λJ A o s H W Q E X h=>?_
 let⟨a,ns,k,rfl,d,i,L,q⟩:=h;refine#[_,jd (jy 2 mY.nd$ jv jU (jv zw je$ pv 1) je)
  (jd (jx (jA Qm (pv 1) (jF jN Z m ME$ ja (pv 0) jb)$ aG _)
   (jg$ jy 2 mY.nd$ jr jq (pv 0) (pv 1) (λ_ _=>Z))
   (jg (jx (jA qX (jF jN Z m ME$ ja (pv 0) jb) je$ aG _)
    (jg$ jy 2 mY.nd$ jv jU (pv 2)$ jv zw (jv zg (jr jq (pv 0) (jv zg (pv 1)$ jF jN Z m ME$ ja (pv 0) jb) (λ_ _=>Z)) je) je) jp)))
  (jd (jy 3 mY.nd$ jv jU (jv zg (jv jU (jv zw (jv zg (pv 2) je) je)$ jv zw je$ pv 1) je) je)
  (jg$ jo$ jI$ ja (jv zw (pv 2)$ jE qG Z M Ta$ ja (qE uD (pv 2) (jv Jv je je)$ aG _) jb)$ ja (pv 3) jb))),?_]
 let e:(ns.map rm).length=ns.length:=Lw _;let T:∀c:Int,∃v:V,∃x:Int,v= .int x/\1<=x/\x<=2147483646/\v= .int ((c % 2147483629*48271+40692*k) % 2147483646+1):=λc=>by let N:0<=(c % 2147483629*48271+40692*k) % 2147483646:=MF _ UJ;let O:(c % 2147483629*48271+40692*k) % 2147483646 < 2147483646:=Mo _ UJ;exact#[_,_,Z,UK,UK,Z]
 let j:∀(c:Int) (r:η),H r=θ->Q (.ref r) (af H r$ .lst [.int$ c*(if decide ((10:Int) ^ (18:Int).toNat<=c)=ν then 1 else 0),.int ((c % 2147483629*48271+40692*k) % 2147483646+1)]):=λc r R=>by
  refine q r _ R #[_,_,?_,?_,?_,jc] λb n=>ji n
  .rw[pP];by_cases h:(1000000000000000000:Int)<=c
   .rw[LX h,LP Z];omega
   .rw[LL h,LV LD];omega
  .let N:0<=(c % 2147483629*48271+40692*k) % 2147483646:=MF _ UJ;omega
  .let O:(c % 2147483629*48271+40692*k) % 2147483646 < 2147483646:=Mo _ UJ;omega
 let B:∀c:Int,wT c (if decide ((10:Int) ^ (18:Int).toNat<=c)=ν then 1 else 0):=λc=>.inr (by split<;>decide);refine aj λF0 u=>#[_,Z,_,_,Z,Z,.inl #[UJ,UJ],_,_,Z,Z,u _ _ ?_];clear u;refine aj λS y=>?_;let l:∀c:Int,S [↑a,δ$ .int k,δ$ .int c,θ] H:=λc=>y _ _ (aj λF2 U=>#[_,Z,_,_,Z,Z,(by show(0:Int) < 2147483629;decide),_,_,Z,Z,.inr #[UJ,UJ],_,Z,_,_,Z,Z,.inl #[UJ,UJ],_,_,Z,Z,_,_,Z,Z,(by show(0:Int) < 2147483646;decide),_,_,Z,Z,U _ _ (#[_,Z,_,Z,_,_,Z,Z,#[UJ,UJ,UJ],_,_,Z,Z,.inr #[_,Z,_,_,Z,Z,B c,_,Z,bL,j c]])]);clear y;refine om λG g=>#[_,Z,_,Z,a,_,Z,.inl d,_,_,Z,Z,_,Z,g _ _ ?_];clear g;refine bV (λc=>?_) (λc=>?_)
 .let C:k < (((ns.map rm).length:Nat):Int):=Mu c;rw[e]at C;let⟨v,p⟩:=tU (ns:=ns) i C;exact#[_,Z,_,Z,a,_,_,_,Z,Z,d,p,l v]
 .let C:¬k < (((ns.map rm).length:Nat):Int):=O5 (im.mpr c);rw[e]at C;refine om λG g=>#[_,Z,a,_,Z,.inl d,_,_,Z,Z,_,Z,g _ _ ?_];clear g;refine bV (λz=>?_) (λz=>?_)
  .let D:(0:Int) < (((ns.map rm).length:Nat):Int):=Mu z;let⟨v,p⟩:=tU (ns:=ns) (k:=k % (((ns.map rm).length:Nat):Int)) (MF _ UK) (by let:=Mo k D;rw[e]at this;rw[e];exact this);exact#[_,Z,_,Z,_,Z,_,Z,a,_,Z,.inl d,_,_,Z,Z,D,a,_,_,_,Z,Z,d,p,_,_,Z,Z,(by show(0:Int) < 2147483629;decide),_,_,Z,Z,.inr #[UJ,UJ],_,_,Z,Z,l _]
  .exact l _
theorem oJ(i j:ρ):(i++j).length=i.length+j.length:=by show(i.cps++j.cps).size=i.cps.size+j.cps.size;exact Pw
theorem zC:1000000<=υ:=by rw[NE];decide
theorem ar{H:Hp}{o:HO}(h:H b=δ u)(n:H r=θ):af H r o b=δ u:=by rw[ji$ jl h n];exact h
theorem wb{z:ρ}{k:Int}(H:0<=k)(a:k < (z.length:Int)):∃c:Nat,dO z.cps.toList k=δ c:=by
 let b:z.cps.toList.length=z.length:=LU;let h:k.toNat < z.cps.toList.length:=by omega
 let e:k=((k.toNat:Nat):Int):=by omega
 let q:dO z.cps.toList ((k.toNat:Nat):Int)=δ z.cps.toList[k.toNat]:=jJ (Ls h);rw[<- e]at q;exact#[_,q]
theorem Kk{ys:List ρ}{k:Int}(H:0<=k)(a:k < (ys.length:Int)):∃y∈ys,dO (ys.map ri) k=δ (.str y):=by
 let h:k.toNat < ys.length:=by omega
 let e:k=((k.toNat:Nat):Int):=by omega
 let q:dO (ys.map ri) ((k.toNat:Nat):Int)=δ (.str ys[k.toNat]):=jJ (by rw[LK,Ls h];rfl);rw[<- e]at q;exact#[_,Ob h,q]
noncomputable def bj(s:List ρ)(lo h:Option Int):List ρ:=(s.drop$ HT.sIx s.length 0 lo).take (HT.sIx s.length s.length h - HT.sIx s.length 0 lo)
theorem zD(s:List ρ)(lo h:Option Int):aS (s.map ri) lo h=(bj s lo h).map ri:=by unfold aS bj;rw[Lw,Ox,Tw]
theorem zU{lo:Option Int}(h:y∈bj s lo H):y∈s:=R4 (MD h)
theorem qv(s:List ρ)(lo h:Option Int):(bj s lo h).length<=s.length:=by unfold bj;rw[Mb,Nj];omega
theorem Je:∀{ys:List ρ},(∀y∈ys,y.length<=1)->(ys.map (·.length)).sum<=ys.length
 | [],_=>Lx _
 |y::r,h=>by let a:=h y LN;let b:=Je (ys:=r) λz H=>h z (LW _ H);rw[MU,List.sum_cons,Md];omega
theorem Jf{z:ρ}{ys:List ρ}(H:z.length=0)(h:∀y∈ys,y.length<=1):(Txt.join z ys).length<=ys.length:=by show(Builtin.Str.glued z ys).length<=_;rw[size_glued,H,Nat.mul_zero,Nat.add_zero];exact Je h
noncomputable def dB:ρ:="abcdefghijklmnopqrstuvwxyz"
theorem JO:dB.length=26:=by decide+kernel
noncomputable def rn(d:Int)(k:Nat):Nat:=97+((d+5*(0+(k:Int))) % 26).toNat
theorem xV(H:i < 20)(a:j < 20)(h:rn d i=rn d j):i=j:=by unfold rn at h;omega
theorem CG(H:0<=k)(a:k < 26)(h:dO dB.cps.toList k=δ c):c=97+k.toNat:=by
 let q:∀m:Fin 26,dO dB.cps.toList (m.val:Int)=δ (97+m.val):=by decide+kernel
 let e:=q #[k.toNat,UK];let E:((k.toNat:Nat):Int)=k:=by omega
 dsimp only at e;rw[E,h]at e;injection e
def Sh(A S:ρ)(d:Int)(c:Nat)(w:ρ):Prop:=if d=2 then ∃R:ρ,w=R++#[(ε [c])] else w=A++#[(ε [c])]++S∨w=A++#[(ε [c])]++S++"z"∨w="qqqqqqq"++#[(ε [c])]
theorem kP(a b:ρ):(a++b).cps.toList=a.cps.toList++b.cps.toList:=by show(a.cps++b.cps).toList=_;exact Array.toList_append
theorem XA{R:ρ}(h:R++(#[(ε [c])]:ρ)=r++#[(ε [C])]):c=C:=by let e:=MO (mu ∘ Str.cps) h;let e:(R++(#[(ε [c])]:ρ)).cps.toList=(r++(#[(ε [C])]:ρ)).cps.toList:=e;rw[kP,kP]at e;let:=List.append_inj_right' e Z;injection this
theorem xX{S:ρ}(h:A++(#[(ε [c])]:ρ)++S=A++#[(ε [C])]++S):c=C:=by let e:=MO (mu ∘ Str.cps) h;let e:(A++(#[(ε [c])]:ρ)++S).cps.toList=(A++(#[(ε [C])]:ρ)++S).cps.toList:=e;rw[kP,kP,kP,kP]at e;let:=RG (Oy e);injection this
theorem Gr{A S : ρ}{d : Int}{c C : Nat}{w : ρ}(i : A.length + S.length <= 5)(h : Sh A S d c w)(H : Sh A S d C w) : c = C := by
  unfold Sh at h H;let l : ∀ c : Nat, (#[(ε [c])] : ρ).length = 1 :=λ_ => Z;let L : (Str.ofString "z").length = 1 := by decide +kernel
  let f : (Str.ofString "qqqqqqq").length = 7 := by decide +kernel
  split at h
  · rename_i a
    rw [LP a] at H;obtain ⟨R, rfl⟩ := h;obtain ⟨r, e⟩ := H;exact XA e
  · rename_i a
    rw [LV a] at H;rcases h with rfl | rfl | rfl <;> rcases H with e | e | e
    · exact xX e
    all_goals first
      | exact XA e
      | (have g := MO Str.length e
         simp only [oJ, l, L, f] at g;omega)
      | skip
    let E := MO (mu ∘ Str.cps) e;let E : (A ++ (#[(ε [c])] : ρ) ++ S ++ ("z" : ρ)).cps.toList = (A ++ (#[(ε [C])] : ρ) ++ S ++ ("z" : ρ)).cps.toList := E;rw [kP, kP (A ++ _ ++ S)] at E;let b := Oy E;rw [kP, kP, kP, kP] at b;let := RG (Oy b);injection this
theorem XB{y:List ρ}:y.Nodup↔∀i j:Nat,i < j->j < y.length->y[i]?≠y[j]?:=by
 unfold List.Nodup;rw[List.pairwise_iff_getElem];refine#[λh i j H a e=>?_,λh i j b a H e=>h i j H a ?_]
 .rw[Ls (by omega:i < y.length),Ls a]at e;injection e with e;exact h i j UK a H e
 .rw[Ls b,Ls a,e]
theorem vW{A S:ρ}{d D:Int}{Y:List ρ}(b:A.length+S.length<=5)(g:Y.length<=20)(h:∀j y,Y[j]?=δ y->Sh A S D (rn d j) y):Y.Nodup:=by rw[XB];intro i j c H e;let a:=h i _ (Ls (by omega:i < Y.length));let f:=h j _ (Ls H);rw[Ls (by omega:i < Y.length),Ls H]at e;injection e with e;rw[e]at a;let:=xV UK UK (Gr b a f);omega
theorem rF{y:List ρ}(h:y.Nodup)(b:a∉y):(y.set n a).Nodup:=by
 rw[XB]at h ⊢;intro i j H c e;rw[O3]at c;by_cases d:n=i
 .rw[d,Nf UK,Na UK]at e;exact b$ LS e.symm
 .by_cases f:n=j
  .rw[f,Nf UK,Na UK]at e;exact b$ LS e
  .rw[Na d,Na f]at e;exact h i j H c e
theorem yd{y:List ρ}(h:oU (.str a) (y.map ri)=μ):a∉y:=λm=>by unfold oU at h;rw[SE]at h;exact h (.str a) (dw.mpr #[a,m,Z]) (by simp [nR])
theorem xw{ss:List ρ}{d1 d2:Int}(h:ss.length=(1+d1).toNat)(a:0<=d2)(b:d2 < 1+d1):(bj ss θ$ δ d2).length+(bj ss (δ$ d2+1) θ).length<=d1.toNat:=by
 obtain⟨k,rfl⟩:∃k:Nat,d2=k:=#[d2.toNat,(Sq a).symm];obtain⟨n,rfl⟩:∃n:Nat,d1=n:=#[d1.toNat,(Sq UK).symm];let H:k<=n:=by omega
 let h:ss.length=n+1:=by rw[h];omega
 clear a b;unfold bj;rw[show((k:Int)+1)=((k+1:Nat):Int) from Z,HT.sIx_nat,HT.sIx_nat,Mb,Mb,Nj,h,ND$ M6 H,ND$ Nat.le_succ_of_le H];refine LJ (Nat.add_le_add (O6 _ _)$ O6 _ _) ?_;show k - 0+(n+1 - (k+1))<=n;rw[PJ,Nat.add_sub_add_right,Sj H];exact Lx _
theorem Im{S:ρ}:Sh A S d c ("qqqqqqq"++#[(ε [c])]):=by
 unfold Sh;split
 .exact#[_,Z]
 .exact .inr$ .inr Z
theorem Io{A S:ρ}{d:Int}{c:Nat}{w:ρ}(h:if d=2 then ∃R:ρ,w=R++#[(ε [c])] else w=A++#[(ε [c])]++S∨w=A++#[(ε [c])]++S++"z"):Sh A S d c w:=by
 unfold Sh;split at h
 .rename_i e;rw[LP e];exact h
 .rename_i e;rw[LV e];exact h.elim .inl λz=>.inr (.inl z)
noncomputable def pre(s:List ρ)(d:Int):ρ:=Txt.join "" (bj s θ$ δ d)
noncomputable def fh(s:List ρ)(d:Int):ρ:=Txt.join "" (bj s (δ$ d+1) θ)
inductive eN(b:List V)(H:Hp)(Q:VK)(a:XK):Prop
 |mk(p:η)(n:Int)(_:b=[.ref p,.int n])(_:ap H p)(_:1<=n)(_:n<=20)(_:∀(r:η) (ys:List ρ) (H':Hp),H r=θ->H' r=δ (.lst (ys.map ri))->(ys.length:Int)=n->(∀y∈ys,y.length<=20)/\ys.Nodup->ap H' p->aD p H H'->Q (.ref r) H')
theorem be:ak z29z z21z (aa iF):=bJ
noncomputable def Qj:hG:=#[.function,[(".0",.local),("_law_k",.local),("_law_take",.globalImplicit),("_law_box_here",.free),("_law_letters",.free)],μ,μ,[]]
theorem YS:(z30z:List ρ).Nodup:=by decide+kernel
theorem YT:bu z29z (aa iF) Qj z30z 1 [0,2]:=sr
noncomputable def Qk:hG:=#[.function,[(".0",.local),("_law_j",.local),("_law_take",.globalImplicit),("_law_box_here",.free),("_law_letters",.free)],μ,μ,[]]
theorem YU:(z31z:List ρ).Nodup:=by decide+kernel
theorem YV:bu z29z (aa iF) Qk z31z 1 [0,2]:=sr
theorem Jq{p:η}{Q:List V->Hp->Prop}(o:n<=20)(B:ap f p)
  (q:∀(S:List ρ) (H:Hp),S.length=n->(∀s∈S,s.length<=1)->ap H p->(∀b,b≠p->H b=f b)->Q (S.map ri) H):
  eU (wM 0 n) 1 [↑p,δ$ .str dB] (bE 0) mJ (dW yK (a9 2)$ dM aZ [] E0$ am (a9 1)$ am (tC$ .int 26) aL) Q f:=by
 refine XU (λi y H=>∃S:List ρ,y=S.map ri/\S.length=i/\(∀s∈S,s.length<=1)/\ap H p/\∀b,b≠p->H b=f b)
  #[[],Z,Z,(λ_ h=>nomatch h),B,λ_ _=>Z] (LJ o UJ) (λi y H #[S,e,l,_]=>by rw[e,Lw,l];exact Lx _) ?_ ?_
 .intro i y H x a;let⟨S,rfl,g,j,m,E⟩:=a;refine#[_,Z,_,Z,p,26,Z,m,UJ,UJ,λd A D r t u=>?_];let⟨c,v⟩:=wb (z:=dB) D (by rw[JO];exact r);refine#[_,_,c,Z,Z,UJ,v,S++[#[(ε [c])]],by rw[Mc];rfl,by rw[Ly,g];rfl,λs hs=>?_,t,λb N=>(u b N).trans (E b N)];rcases γ.mp hs with hs |hs
  .exact j s hs
  .rw[τ.mp hs];exact Lx 1
 .intro y H a;let⟨S,rfl,g,j,m,E⟩:=a;exact q S H g j m E
def Rw(p g r:η)(n d D b e:Int)(i c:Nat)(s y:List ρ)(H:Hp)(L:Nat)(Z:ρ->Prop):_L.St->Hp->Prop:=λa h=>∃W:ρ,(W.length<=L/\Z W)/\
 a=[↑p,δ$ .int n,δ$ .str dB,δ$ .int (1+d),δ$ .int D,↑g,δ$ .int b,δ$ .int e,↑r,δ$ .int (0+(i:Int)),δ$ .str #[(ε [c])],δ$ .str W,θ,θ]/\
 h g=δ (.lst$ s.map ri)/\h r=δ (.lst$ y.map ri)/\ap h p/\aD p H h
def Rf(p r:η)(n:Int)(H:Hp):_L.St->Hp->Prop:=λa h=>a[8]?=δ (↑r)/\∃Y:List ρ,h r=δ (.lst$ Y.map ri)/\(Y.length:Int)=n/\((∀y∈Y,y.length<=20)/\Y.Nodup)/\ap h p/\aD p H h
theorem QN(Y:List ρ):(Y.map ri).all cR=ν:=by rw[OH];intro v h;let⟨y,_,rfl⟩:=dw.mp h;rfl
theorem vU(Y:List ρ)(j:Nat)(y:ρ):(Y.map ri).set j (ri y)=(Y.set j y).map ri:=(TK ..).symm
inductive NI(p g r:η)(n b c d e:Int)(v:List ρ)(H:Hp)(i:Nat)(x:_L.St)(a:Hp):Prop
 |mk(s t u:Option V)(w:List ρ)(f:x=[↑p,δ (.int n),δ (.str dB),δ (.int (1+b)),δ (.int c),↑g,δ (.int d),δ (.int e),↑r,s,t,u,θ,θ])(h:a g=δ (.lst (v.map ri)))(k:a r=δ (.lst (w.map ri)))(l:w.length=i)(m:(∀y∈w,y.length<=20)/\∀j y,w[j]?=δ y->Sh (pre v c) (fh v c) e (rn d j) y)(o:ap a p)(q:aD p H a)
theorem ut(F:rx K "_law_names" iF f fd)(GT:ah P w K mg base aE 1 fT f4 z0z aZ)(x:aw K f4 z0z [])(C:fz K (.ref fT)=ν)
  (M:mg "_law_take"=↑fT) (mr:mg "range"=θ):ah P w K mg base aE 2 f fd z21z eN:=by
 refine F.ok be λc1 A o1 s H vs Q E D h=>?_
 let⟨p,n,rfl,B,a4,a',q⟩:=h;refine#[_,(@jd _ _ _ _ _ (@zc _ _ (2) _ _ _ _ be.nd Z (gL Z) (@jk _ _ _ _) UN$ .inl Z)$ @jd _ _ _ _ _ (@zc _ _ (3) _ _ _ _ be.nd Z (Φ Z) (@jv _ _ _ _ _ _ _ _ jU (@je _ _ _ _)$ @kG _ _ _ _ _ _ _ _ _ _ _ _ _ _ _ _ GT D Z M C x .nil bH (@ja _ _ _ _ _ (@pv _ 0 _ _ UN (.inr$ .inl Z) UJ UJ) (@ja _ _ _ _ _ (@je _ _ _ _) (@jb _) UN) UN) UJ UN UN) UN$ .inl Z)$ @jd _ _ _ _ _ (@zc _ _ (4) _ _ _ _ be.nd Z (Φ Z) (@kG _ _ _ _ _ _ _ _ _ _ _ _ _ _ _ _ GT D Z M C x .nil bH (@ja _ _ _ _ _ (@pv _ 0 _ _ UN (.inr$ .inl Z) UJ UJ) (@ja _ _ _ _ _ (@pv _ 3 _ _ UN (.inl Z) UJ UJ) (@jb _) UN) UN) UJ UN UN) UN$ .inl Z)$ @jd _ _ _ _ _ (@Ze _ _ _ _ _ _ _ _ _ _ (5) (z30z) (1) ([0,2]) _ _ _ _ be.nd Z (Φ Z) Z (@kY _ _ _ _ _ _ Z mr (@ja _ _ _ _ _ (@pv _ 3 _ _ UN (by first |exact Φ Z |exact gL (Φ Z) |exact gL$ gL Z) UJ UJ) (@jb _) UN) UN) YT (λ_ _ _ _ _=>(@jw _ _ (0) _ YS Z (Φ Z) (by first |exact .inl Z |exact .inr Z))) (λ_ _ _ _ _=>(@zz _)) (λ_ _ _ _ _=>(@jr _ _ _ _ _ _ _ Ki (@pv _ 2 _ _ UN (by first |exact Φ Z |exact gL (Φ Z) |exact gL$ gL Z) UJ UJ) (@kG _ _ _ _ _ _ _ _ _ _ _ _ _ _ _ _ GT D Z M C x .nil bH (@ja _ _ _ _ _ (@pv _ 1 _ _ UN (by first |exact Φ Z |exact gL (Φ Z) |exact gL$ gL Z) UJ UJ) (@ja _ _ _ _ _ (@je _ _ _ _) (@jb _) UN) UN) UJ UN UN) (λ_ _=>Z))) UN (by first |exact .inl Z |exact .inr Z) (by intro _;rfl))$ @jd _ _ _ _ _ (@zc _ _ (6) _ _ _ _ be.nd Z (Φ Z) (@kG _ _ _ _ _ _ _ _ _ _ _ _ _ _ _ _ GT D Z M C x .nil bH (@ja _ _ _ _ _ (@pv _ 0 _ _ UN (.inr$ .inl Z) UJ UJ) (@ja _ _ _ _ _ (@je _ _ _ _) (@jb _) UN) UN) UJ UN UN) UN$ .inl Z)$ @jd _ _ _ _ _ (@zc _ _ (7) _ _ _ _ be.nd Z (Φ Z) (@kG _ _ _ _ _ _ _ _ _ _ _ _ _ _ _ _ GT D Z M C x .nil bH (@ja _ _ _ _ _ (@pv _ 0 _ _ UN (.inr$ .inl Z) UJ UJ) (@ja _ _ _ _ _ (@je _ _ _ _) (@jb _) UN) UN) UJ UN UN) UN$ .inl Z)$ @jd _ _ _ _ _ (@zc _ _ (8) _ _ _ _ be.nd Z (Φ Z) (@jI _ _ _ _$ @jb _) UN$ .inl Z)$ @jd _ _ _ _ _ (@ki _ _ _ _ _ _ _ _ Ml Z (@kY _ _ _ _ _ _ Z mr (@ja _ _ _ _ _ (@pv _ 1 _ _ UN (.inl Z) UJ UJ) (@jb _) UN) UN) (@jw _ _ (9) _ be.nd Z (Φ Z)$ .inl Z) (@jd _ _ _ _ _ (@zc _ _ (10) _ _ _ _ be.nd Z (Φ Z) (@jr _ _ _ _ _ _ _ Ki (@pv _ 2 _ _ UN (.inr$ .inl Z) UJ UJ) (@jv _ _ _ _ _ _ _ _ zg (@jv _ _ _ _ _ _ _ _ jU (@pv _ 6 _ _ UN (.inl Z) UJ UJ)$ @jv _ _ _ _ _ _ _ _ zw (@je _ _ _ _)$ @pv _ 9 _ _ UN (.inl Z) UJ UJ)$ @je _ _ _ _) (λ_ _=>Z)) UN$ .inl Z)$ @jd _ _ _ _ _ (@j3 _ _ _$ @zc _ _ (11) _ _ _ _ be.nd Z (Φ Z) (@jv _ _ _ _ _ _ _ _ zG (@jv _ _ _ _ _ _ _ _ zG (@kM _ _ _ _ _ _ _ _ _ _ _ _ OG OL OK Q2 (@jk _ _ _ _) (@ja _ _ _ _ _ (@jK _ _ _ _ _ _ _ _ _ _ kH (@pv _ 5 _ _ UN (.inl Z) UJ UJ) (@jW _)$ @jG _ _ _$ @pv _ 4 _ _ UN (.inl Z) UJ UJ) (@jb _) UN) UN UN UN UN UN)$ @pv _ 10 _ _ UN (.inl Z) UJ UJ)$ @kM _ _ _ _ _ _ _ _ _ _ _ _ OG OL OK Q2 (@jk _ _ _ _) (@ja _ _ _ _ _ (@jK _ _ _ _ _ _ _ _ _ _ kH (@pv _ 5 _ _ UN (.inl Z) UJ UJ) (@jG _ _ _$ @jv _ _ _ _ _ _ _ _ jU (@pv _ 4 _ _ UN (.inl Z) UJ UJ)$ @je _ _ _ _)$ @jW _) (@jb _) UN) UN UN UN UN UN) UN$ .inl Z)$ @jd _ _ _ _ _ (@j3 _ _ _$ @jx _ _ _ _ _ _ _ _ (@PW.pt _ _ _$ @Ju _ _ _ _ _ _ _ (ze$ @pv _ 7 _ _ UN (.inl Z) UJ UJ)$ @qA _ _ _ _$ ze$ @jv _ _ _ _ _ _ _ _ zg (@pv _ 9 _ _ UN (.inl Z) UJ UJ)$ @je _ _ _ _) (@jg _ _ _$ @zc _ _ (11) _ _ _ _ be.nd Z (Φ Z) (@jv _ _ _ _ _ _ _ _ zG (@pv _ 11 _ _ UN (.inl Z) UJ UJ)$ @jk _ _ _ _) UN$ .inl Z)$ @jp _)$ @jd _ _ _ _ _ (@j3 _ _ _$ @jx _ _ _ _ _ _ _ _ (ze$ @pv _ 7 _ _ UN (.inl Z) UJ UJ) (@jg _ _ _$ @zc _ _ (11) _ _ _ _ be.nd Z (Φ Z) (@jv _ _ _ _ _ _ _ _ zG (@kM _ _ _ _ _ _ _ _ _ _ _ _ OG OL OK Q2 (@jk _ _ _ _) (@ja _ _ _ _ _ (@zi _ _ _ _ _ _ _ (z31z) (1) ([0,2]) _ _ _ _ Z (@kY _ _ _ _ _ _ Z mr (@ja _ _ _ _ _ (@kG _ _ _ _ _ _ _ _ _ _ _ _ _ _ _ _ GT D Z M C x .nil bH (@ja _ _ _ _ _ (@pv _ 0 _ _ UN (by first |exact Φ Z |exact gL (Φ Z) |exact gL$ gL Z) UJ UJ) (@ja _ _ _ _ _ (@je _ _ _ _) (@jb _) UN) UN) UJ UN UN) (@jb _) UN) UN) YV (λ_ _ _ _ _=>(@jw _ _ (0) _ YU Z (Φ Z) (by first |exact .inl Z |exact .inr Z))) (λ_ _ _ _ _=>(@zz _)) (λ_ _ _ _ _=>(@jr _ _ _ _ _ _ _ Ki (@pv _ 2 _ _ UN (by first |exact Φ Z |exact gL (Φ Z) |exact gL$ gL Z) UJ UJ) (@kG _ _ _ _ _ _ _ _ _ _ _ _ _ _ _ _ GT D Z M C x .nil bH (@ja _ _ _ _ _ (@pv _ 1 _ _ UN (by first |exact Φ Z |exact gL (Φ Z) |exact gL$ gL Z) UJ UJ) (@ja _ _ _ _ _ (@je _ _ _ _) (@jb _) UN) UN) UJ UN UN) (λ_ _=>Z))) (by intro _;rfl)) (@jb _) UN) UN UN UN UN UN)$ @pv _ 10 _ _ UN (.inl Z) UJ UJ) UN$ .inl Z)$ @jp _)$ @jd _ _ _ _ _ (@j3 _ _ _$ @jx _ _ _ _ _ _ _ _ (@jA _ _ _ _ _ _ _ _ za (@pv _ 11 _ _ UN (.inl Z) UJ UJ) (@jh _ _ _ _ _$ @JX _ _ UN) Z) (@jg _ _ _$ @zc _ _ (11) _ _ _ _ be.nd Z (Φ Z) (@jv _ _ _ _ _ _ _ _ zG (@jk _ _ _ _)$ @pv _ 10 _ _ UN (.inl Z) UJ UJ) UN$ .inl Z)$ @jp _)$ @jg _ _ _$ @jQ _ _ _ _ (@kM _ _ _ _ _ _ _ _ _ _ _ _ LM L9 LZ jT (@pv _ 8 _ _ UN (.inl Z) UJ UJ) (@ja _ _ _ _ _ (@pv _ 11 _ _ UN (.inl Z) UJ UJ) (@jb _) UN) UN UN UN UN UN) UN) (by intro _;rfl))$ @jd _ _ _ _ _ (@j3 _ _ _$ @jx _ _ _ _ _ _ _ _ (@jA _ _ _ _ _ _ _ _ qo (@kG _ _ _ _ _ _ _ _ _ _ _ _ _ _ _ _ GT D Z M C x .nil bH (@ja _ _ _ _ _ (@pv _ 0 _ _ UN (.inr$ .inl Z) UJ UJ) (@ja _ _ _ _ _ (@je _ _ _ _) (@jb _) UN) UN) UJ UN UN) (@je _ _ _ _)$ aG _) (@jd _ _ _ _ _ (@zc _ _ (12) _ _ _ _ be.nd Z (Φ Z) (@jI _ _ _ _$ @JX _ _ UN) UN$ .inl Z)$ @jd _ _ _ _ _ (@zc _ _ (13) _ _ _ _ be.nd Z (Φ Z) (@jr _ _ _ _ _ _ _ jq (@pv _ 12 _ _ UN (.inl Z) UJ UJ) (@kG _ _ _ _ _ _ _ _ _ _ _ _ _ _ _ _ GT D Z M C x .nil bH (@ja _ _ _ _ _ (@pv _ 0 _ _ UN (.inr$ .inl Z) UJ UJ) (@ja _ _ _ _ _ (@je _ _ _ _) (@jb _) UN) UN) UJ UN UN) (λ_ _=>Z)) UN$ .inl Z)$ @jg _ _ _$ @jx _ _ _ _ _ _ _ _ (@jA _ _ _ _ _ _ _ _ Jl (@pv _ 13 _ _ UN (.inl Z) UJ UJ) (@pv _ 8 _ _ UN (.inl Z) UJ UJ) Z) (@jg _ _ _$ @zf _ _ _ _ _ _ (@pv _ 13 _ _ UN (.inl Z) UJ UJ) (@qO _ _ _ _ _ _ _ (@pv _ 8 _ _ UN (.inl Z) UJ UJ) (@kG _ _ _ _ _ _ _ _ _ _ _ _ _ _ _ _ GT D Z M C x .nil bH (@ja _ _ _ _ _ (@pv _ 0 _ _ UN (.inr$ .inl Z) UJ UJ) (@ja _ _ _ _ _ (@pv _ 1 _ _ UN (.inl Z) UJ UJ) (@jb _) UN) UN) UJ UN UN) zB (by intro _;rfl)) UN UN UN)$ @jp _)$ @jp _)$ @jg _ _ _$ @jo _ _ _ _$ @pv _ 8 _ _ UN (.inl Z) UJ UJ),?_];refine fg λE0 f0=>f0 _ _ ?_;refine fg λG a=>#[_,Z,p,6,Z,B,UJ,UJ,λd1 H1 b0 b1 U e1=>#[_,_,Z,Z,a _ _ ?_]];refine fg λE2 f2=>#[_,Z,_,Z,p,_,Z,U,UK,UK,λd2 H2 b2 b3 B2 e2=>f2 _ _ ?_];clear f0 a f2;refine fg λG a=>#[_,Z,_,Z,UK,UK,?_];refine Jq (p:=p) UK B2 λss H3 a3 e B3 e3 g hg=>a _ _ ?_;clear a;let k3:aD p H H3:=(aD.of_eq e1).trans ((aD.of_eq e2).trans$ aD.of_eq e3);let v:g≠p:=B3.ne hg;refine fg λG a=>#[_,Z,p,26,Z,B3.upd_new hg,UJ,UJ,λW H4 b4 b5 B4 e4=>a _ _ ?_];refine fg λE2 f2=>#[_,Z,p,3,Z,B4,UJ,UJ,λI H5 b7 b9 B5 e5=>f2 _ _ ?_];clear a f2;let h2:H5 g=δ (.lst$ ss.map ri):=by rw[e5 g v,e4 g v];exact jc
 let k5:aD p H H5:=(k3.upd_new hg).trans ((aD.of_eq e4).trans$ aD.of_eq e5);refine fg λG a=>#[UJ,λr u=>a _ _ ?_];clear a;let m:r≠p:=B5.ne u;let h4:g≠r:=jl h2 u;let n3:H g=θ:=by
  cases z:H g with
  |none=>rfl
  |some o=>have:=k3 g o v z;rw[hg]at this;cases this
 let X:H r=θ:=by
  cases z:H r with
  |none=>rfl
  |some o=>have:=k5 r o m z;rw[u]at this;cases this
 let b':=zC;refine fg λG a=>eQ λJ j=>#[_,Z,_,Z,UK,UK,j _ _ ?_];clear j;refine kX (lo:=0) (NI p g r n d1 d2 W I ss H) #[θ,θ,θ,[],Z,ar h2 u,jc,Z,#[(λ_ h=>nomatch h),(λ_ _ h=>nomatch h)],B5.upd_new u,k5.upd_new u] ?_ ?_
 .intro E0 _ i σ H' hi fE Gq T b;let⟨ok,oo,ow,ys,rfl,L,Y,h0,d,B',k'⟩:=b;clear a;let⟨c,hc⟩:=wb (z:=dB) (k:=(W+5*(0+(i:Int))) % 26) (MF _ UJ) (by rw[JO];exact Mo _ UJ);refine T ?_;clear T;show dy (eu _ _) _ E0 _ _;refine fg λG a=>#[_,Z,_,Z,_,Z,_,_,Z,Z,.inl #[UJ,UJ],_,_,Z,Z,_,_,Z,Z,(by show(0:Int) < 26;decide),_,_,c,Z,Z,UJ,hc,a _ _ ?_];clear a;let c2:(#[(ε [c])]:ρ).length=1:=rfl;let h5:c=rn W i:=CG (MF _ UJ) (Mo _ UJ) hc;refine fg λG a=>dF (Rw p g r n d1 d2 W I i c ss ys H 13 (·=pre ss d2++#[(ε [c])]++fh ss d2)) (λE2 _ t=>?_) λO H1 b=>?_
  .clear a fE;refine#[Z,_,Z,_,Z,_,Z,g,_,Z,aJ.of L,λs1 n1=>?_];let z1:=Je (ys:=bj ss θ (δ d2)) λy d=>e y (zU d);let z2:=qv ss θ (δ d2);refine#[_,s1,bj ss θ$ δ d2,Z,Z,aJ.of (by rw[jc,zD]),UJ,UK,?_];let j1:=Jf (z:="") (ys:=bj ss θ (δ d2)) UM λy d=>e y (zU d);refine#[_,Z,_,_,Z,Z,UK,?_];refine#[Z,_,Z,_,Z,_,_,Z,Z,_,Z,g,_,Z,aJ.of$ ar L n1,λs2 n2=>?_];let z3:=Je (ys:=bj ss (δ$ d2+1) θ) λy d=>e y (zU d);let z4:=qv ss (δ$ d2+1) θ;refine#[_,s2,bj ss (δ$ d2+1) θ,Z,Z,aJ.of (by rw[jc,zD]),UJ,UK,?_];let j2:=Jf (z:="") (ys:=bj ss (δ$ d2+1) θ) UM λy d=>e y (zU d);refine#[_,_,Z,Z,by rw[oJ];omega,?_];exact t _ _ #[_,#[by show(Txt.join ("":ρ) (bj ss θ$ δ d2)++(#[(ε [c])]:ρ)++Txt.join ("":ρ) (bj ss (δ$ d2+1) θ)).length<=13;rw[oJ,oJ];omega,Z],Z,ar (ar L n1) n2,ar (ar Y n1) n2,(B'.upd_new n1).upd_new n2,(k'.upd_new n1).upd_new n2]
  obtain⟨w1,⟨c3,z1⟩,rfl,g1,r1,U,k1⟩:=b;refine a _ _ ?_;clear a;refine fg λG a=>dF (Rw p g r n d1 d2 W I i c ss ys H 14 (λw=>w=pre ss d2++#[(ε [c])]++fh ss d2∨w=pre ss d2++#[(ε [c])]++fh ss d2++"z")) (λE2 _ t=>?_) λO H2 b=>?_
  .clear a fE;refine#[_,Z,Z,_,Z,?_];refine bV (λS=>?_) (λS=>?_)
   .refine#[_,Z,_,_,Z,Z,(by show(0:Int) < 2;decide),Z,_,Z,?_];refine bV (λcb=>?_) (λcb=>?_)
    .let hz:(Str.ofString "z").length=1:=by decide+kernel
     refine#[_,Z,_,_,Z,Z,by rw[hz];omega,?_];exact t _ _ #[_,#[by rw[oJ,hz];omega,.inr (by rw[z1])],Z,g1,r1,U,k1]
    .exact t _ _ #[w1,#[UK,.inl z1],Z,g1,r1,U,k1]
   .exact rj$ t _ _ #[w1,#[UK,.inl z1],Z,g1,r1,U,k1]
  obtain⟨w2,⟨c4,z2⟩,rfl,g2,r2,B2,k2⟩:=b;refine a _ _ ?_;clear a;refine fg λG a=>dF (Rw p g r n d1 d2 W I i c ss ys H 14 (λw=>if I=2 then ∃R:ρ,w=R++#[(ε [c])] else w=pre ss d2++#[(ε [c])]++fh ss d2∨w=pre ss d2++#[(ε [c])]++fh ss d2++"z")) (λE2 _ t=>?_) λO H3 b=>?_
  .clear a fE;refine#[_,Z,Z,_,Z,?_];refine bV (λS=>?_) (λS=>?_)
   .refine#[Z,_,Z,p,8,Z,B2,UJ,UJ,λd6 H6 d0 d3 B6 e6=>?_];refine#[_,Z,UK,UK,?_];refine Jq (p:=p) UK B6 λtt H7 c5 h3 B7 e7 g7 n7=>?_;let jt:=Jf (z:="") (ys:=tt) UM h3;let zt:=Je h3;refine#[_,g7,tt,Z,Z,aJ.of jc,UJ,UK,?_];refine#[_,Z,_,_,Z,Z,UK,?_];let g8:H7 g=δ (.lst$ ss.map ri):=by rw[e7 g v,e6 g v];exact g2
    let r8:H7 r=δ (.lst$ ys.map ri):=by rw[e7 r m,e6 r m];exact r2
    let e5:I=2:=by injection Mu S
    exact t _ _ #[_,#[by rw[oJ];omega,(LP e5).mpr #[_,Z]],Z,ar g8 n7,ar r8 n7,B7.upd_new n7,(k2.trans ((aD.of_eq e6).trans$ aD.of_eq e7)).upd_new n7]
   .let e5:I≠2:=λz=>S (by rw[z];exact LX Z);exact t _ _ #[w2,#[UK,(LV e5).mpr z2],Z,g2,r2,B2,k2]
  obtain⟨w3,⟨c6,z3⟩,rfl,g3,r3,B3,k3⟩:=b;refine a _ _ ?_;clear a;refine fg λG a=>dF (Rw p g r n d1 d2 W I i c ss ys H 14$ Sh (pre ss d2) (fh ss d2) I c) (λE2 _ t=>?_) λO H4 b=>?_
  .clear a fE;refine#[_,Z,UJ,λt0 N=>?_];refine#[t0,_,Z,.inr$ aC.of jc,Z,Z3 UN,_,Z,?_];refine bV (λS=>?_) (λS=>?_)
   .let hq:(Str.ofString "qqqqqqq").length=7:=by decide+kernel
    refine#[_,Z,_,_,Z,Z,by rw[hq];omega,?_];exact t _ _ #[_,#[by rw[oJ,hq];omega,Im],Z,ar g3 N,ar r3 N,B3.upd_new N,k3.upd_new N]
   .exact t _ _ #[w3,#[UK,Io z3],Z,ar g3 N,ar r3 N,B3.upd_new N,k3.upd_new N]
  obtain⟨w4,⟨c9,z4⟩,rfl,g4,r4,B4,k4⟩:=b;refine a _ _ ?_;clear a;refine#[_,Z,.inl #[Z,_,aJ.of r4],_,Z,r,_,_,Z,Z,r4,by rw[Lw];omega,?_];refine fE _ _ #[_,_,_,ys++[w4],Z,by rw[ji h4];exact g4,by rw[jc,Mc];rfl,by rw[Ly,h0];rfl,#[λy hm=>?_,λj y hj=>?_],B4.eq$ ji$ Me m,k4.upd_own X]
  .rcases γ.mp hm with hm |hm
   .exact d.1 y hm
   .rw[τ.mp hm];omega
  .by_cases h6:j < ys.length
   .rw[Nq h6]at hj;exact d.2 j y hj
   .let lj:=(ξ.mp hj).1;rw[Ly,NF]at lj;let ej:j=ys.length:=by omega
    rw[ej,Nl$ Lx _,O1]at hj;injection hj with hj;rw[<- hj,ej,h0,<- h5];exact z4
 .intro σ H' b;let⟨ok,oo,ow,ys,rfl,L,Y,h0,d,B',k'⟩:=b;let h1:(ys.length:Int)=n:=by omega
  let f5:=xw (ss:=ss) (d1:=d1) (d2:=d2) UK UK UK;let j1:(pre ss d2).length<=_:=Jf (z:="") (ys:=bj ss θ (δ d2)) UM λy d=>e y (zU d);let j2:(fh ss d2).length<=_:=Jf (z:="") (ys:=bj ss (δ$ d2+1) θ) UM λy d=>e y (zU d);let nd:=vW UK UK d.2;let d:=d.1;refine a _ _ ?_;clear a;refine aj λF1 a=>dF (Rf p r n H) (λE2 _ t=>?_) λO H1 b=>?_
  .clear a;refine om λG' g'=>#[_,Z,p,6,Z,B',UJ,UJ,λd6 H6 d0 d3 B6 e6=>#[Z,_,Z,g' _ _ ?_]];clear g';let r6:H6 r=δ (.lst$ ys.map ri):=by rw[e6 r m];exact Y
   let k6:aD p H H6:=k'.trans (aD.of_eq e6);refine bV (λS=>?_) (λS=>?_)
   .refine fg λE3 f3=>#[UJ,λt0 N=>f3 _ _ ?_];clear f3;let t1:t0≠p:=B6.ne N;refine fg λE4 f3=>#[_,Z,_,Z,p,13,Z,B6.upd_new N,UJ,UJ,λd7 H7 d' a0 B7 e7=>?_];let t7:H7 t0=δ (.lst ((z32z:List ρ).map ri)):=((e7 t0 t1).trans jc).trans (MO (λl=>δ (HO.lst l)) UM);let r7:H7 r=δ (.lst$ ys.map ri):=by rw[e7 r m];exact ar r6 N
    let k7:aD p H H7:=(k6.upd_new N).trans (aD.of_eq e7);let⟨od,h7,h8⟩:=Kk (ys:=(z32z:List ρ)) d' (by simpa using a0);refine#[t0,_,_,_,Z,Z,aJ.of t7,h8,f3 _ _ ?_];clear f3;let h':od.length<=20:=by
     let:∀y∈(z32z:List ρ),y.length<=20:=by decide+kernel
     exact this od h7
    refine om λG' g'=>#[_,Z,_,Z,r,_,Z,.inl$ aJ.of r7,Z,QN _,_,Z,g' _ _ ?_];clear g';refine bV (λcb=>?_) (λcb=>?_)
    .refine#[_,Z,_,Z,_,Z,_,Z,p,n,Z,B7,UK,UK,λd8 H8 a1 c' B8 e8=>?_];let r8:H8 r=δ (.lst$ ys.map ri):=by rw[e8 r m];exact r7
     let k8:aD p H H8:=k7.trans (aD.of_eq e8);refine#[r,_,d8,d8.toNat,Z,Z,r8,?_,?_]
     .unfold on;rw[LP a1,Lw,LP UK]
     refine t _ _ #[Z,ys.set d8.toNat od,by rw[jc,vU],by rw[O3];exact h1,#[λy hm=>?_,rF nd$ yd (by let c0:(!oU (.str od) (ys.map ri))=ν:=cb;rw[SH]at c0;exact c0)],B8.eq$ ji$ Me m,k8.upd_own X];rcases List.mem_or_eq_of_mem_set hm with hm |hm
     .exact d y hm
     .rw[hm];exact h'
    .exact t _ _ #[Z,ys,r7,h1,#[d,nd],B7,k7]
   .exact t _ _ #[Z,ys,r6,h1,#[d,nd],B6,k6]
  let⟨a2,y0,r1,l1,y1,U,k1⟩:=b;refine a _ _ ?_;exact#[_,a2,q r y0 H1 X r1 l1 y1 U k1]
def ai(H h:Hp):Prop:=∀b x,H b=δ (.tup x)->h b=δ (.tup x)
theorem ae.tm(a:ae H c):ai H c:=λb x h=>a b _ h
theorem jf{H:Hp}{o:HO}(n:H p=θ):ae H (af H p o):=λb u e=>ar e n
theorem ci{b:Bool}{A B:Prop}(h:b=ν)(x:A):if b=ν then A else B:=by rw[LP h];exact x
theorem aX{b:Bool}{A B:Prop}(h:b=μ)(x:B):if b=ν then A else B:=by rw[h,LV LD];exact x
theorem aI:υ=16777216:=by rw[NE]
theorem ap.same(B:ap H p)(s:ae H c):ap c p:=by let⟨a,b,d,e,f,h⟩:=B.ob;exact#[a,b,d,e,f,s _ _ h]
theorem aD.of_same(s:ae H h):aD p H h:=λb o _ e=>s _ _ e
theorem aD.tm(k:aD p H h)(B:ap H p):ai H h:=λb x e=>by let⟨a,c,_,_,_,f⟩:=B.ob;exact k b _ (jO e f (by intro w;cases w)) e
theorem aD.none(k:aD p H h)(B:ap h p)(n:h r=θ):H r=θ:=by
 cases z:H r with
 |none=>rfl
 |some o=>have:=k _ _ (B.ne n) z;rw[n]at this;cases this
theorem p5{K:β}{a:η}{xs:List V}{t:TE}{Q:List V->Hp->Prop}(u:xs.length<=υ)(Pv:Nat->List V->Hp->Prop)(l:Pv 0 [] H)
  (n:∀i Y h,Pv i Y h->aJ K h a xs/\Y.length<=i) (o:∀i x Y h,xs[i]?=δ x->Pv i Y h->t (δ x::d) h λy c=>Pv (i+1) (Y++[y]) c) (q:∀Y h,Pv xs.length Y h->Q Y h):
  eU (wW K a) 1 d (bE 0) mJ t Q H:=by
 refine#[λi m Y h=>m=xs.length - i/\i<=xs.length/\Pv i Y h,#[xs.length,UL,LF _,l],?_];intro i m Y h f;let⟨rfl,z,p⟩:=f;let⟨g,A⟩:=n i Y h p;by_cases b:i < xs.length
 .refine .inr #[#[xs,xs[i],g,Ls b],UK,Pv$ i+1,λr c s=>#[xs.length - (i+1),UK,Z,b,s],λv c T j y=>?_];let⟨e,y⟩:=y;subst e;let⟨w,rfl⟩:=xU j;exact#[#[[δ _],Z,Z],o i v Y c (y xs g) p]
 .let e:i=xs.length:=by omega
  subst e;exact .inl #[#[xs,g,Lx _],q Y h p]
theorem zX{K:β}{a:η}{xs:List V}{t:TE}{Q:List V->Hp->Prop}(u:xs.length<=υ)(Pv:Nat->List V->Hp->Prop)(l:Pv 0 [] H)
  (n:∀i Y h,Pv i Y h->aC K h a xs/\Y.length<=i) (o:∀i x Y h,xs[i]?=δ x->Pv i Y h->t (δ x::d) h λy c=>Pv (i+1) (Y++[y]) c) (q:∀Y h,Pv xs.length Y h->Q Y h):
  eU (wX K a) 1 d (bE 0) mJ t Q H:=by
 refine#[λi m Y h=>m=xs.length - i/\i<=xs.length/\Pv i Y h,#[xs.length,UL,LF _,l],?_];intro i m Y h f;let⟨rfl,z,p⟩:=f;let⟨g,A⟩:=n i Y h p;by_cases b:i < xs.length
 .refine .inr #[#[xs,xs[i],g,Ls b],UK,Pv$ i+1,λr c s=>#[xs.length - (i+1),UK,Z,b,s],λv c T j y=>?_];let⟨e,y⟩:=y;subst e;let⟨w,rfl⟩:=xU j;exact#[#[[δ _],Z,Z],o i v Y c (y xs g) p]
 .let e:i=xs.length:=by omega
  subst e;exact .inl #[#[xs,g,Lx _],q Y h p]
noncomputable abbrev mh:cv:=bK 66
noncomputable abbrev pj:cv:=bK 68
inductive Tm where
 |num (n:Int) |var (x:ρ) |op (i:Nat) (a b:Tm)
noncomputable def Tm.depth:Tm->Nat
 | .num _=>0
 | .var _=>0
 | .op _ a b=>max a.depth b.depth+1
noncomputable def mw:ρ:="+-*/<="
theorem vV:mw.length=6:=by decide+kernel
noncomputable def Il(i:Nat):ρ:=#[(ε [mw.cps.toList.getD i 0])]
theorem DW(H:0<=d)(a:d < 6):dO mw.cps.toList d=δ (mw.cps.toList.getD d.toNat 0):=by
 let b:mw.cps.toList.length=6:=by decide+kernel
 let h:d.toNat < mw.cps.toList.length:=by omega
 let e:d=((d.toNat:Nat):Int):=by omega
 let q:dO mw.cps.toList ((d.toNat:Nat):Int)=δ (mw.cps.toList.getD d.toNat 0):=jJ (by rw[Mw,Ls h];rfl);rw[<- e]at q;exact q
def Tm.Good(y:List ρ):Tm->Prop
 | .num n=>0<=n/\n < 1000000000000000000
 | .var x=>x∈y
 | .op i a b=>i < 6/\a.Good y/\b.Good y
def bh(H:Hp):Tm->η->Prop
 | .num n,p=>H p=δ (.tup [.str "num",.int n])
 | .var x,p=>H p=δ (.tup [.str "var",.str x])
 | .op i a b,p=>∃q r,H p=δ (.tup [.str "op",.str (Il i),.ref q,.ref r])/\bh H a q/\bh H b r
theorem bh.mono{H a:Hp}(h:∀b x,H b=δ (.tup x)->a b=δ (.tup x)):∀{t:Tm} {p:η},bh H t p->bh a t p
 | .num _,_,e=>h _ _ e
 | .var _,_,e=>h _ _ e
 | .op _ _ _,_,z=>by let⟨q,r,e,E,c⟩:=z;exact #[q,r,h _ _ e,bh.mono h E,bh.mono h c]
theorem bh.same(h:ae H a)(e:bh H t p):bh a t p:=e.mono λb x z=>h b _ z
theorem bh.but(B:ap H p)(k:aD p H h)(e:bh H t a):bh h t a:=e.mono λb X z=>by let⟨x,y,_,_,_,d⟩:=B.ob;exact k b _ (jO z d (by intro q;cases q)) z
theorem bh.new{H:Hp}{o:HO}(n:H r=θ)(e:bh H t a):bh (af H r o) t a:=e.mono λb x z=>ar z n
inductive hX(c:List V)(H:Hp)(Q:VK)(a:XK):Prop
 |mk(p:η)(_:c=[.ref p])(_:ap H p)(_:∀(d:Int) (H':Hp),0<=d->d < 1000000000000000000->ap H' p->(∀b,b≠p->H' b=H b)->Q (.int d) H')
inductive cy(n:Nat)(b:List V)(H:Hp)(Q:VK)(a:XK):Prop
 |mk(p g:η)(d:Int)(c:List ρ)(_:b=[.ref p,.ref g,.int d])(_:ap H p)(_:H g=δ (.lst (c.map ri)))(_:1<=c.length)(_:c.length<=20)(_:0<=d)(_:d < (n:Int))(_:∀(r:η) (T:Tm) (H':Hp),bh H' T r->(T.depth:Int)<=d->T.Good c->ap H' p->aD p H H'->Q (.ref r) H')
theorem qt{Y:List ρ}(B:ap H p)(h:H g=δ (.lst$ Y.map ri)):g≠p:=by
 let⟨x,y,_,_,_,b⟩:=B.ob;refine jO h b λz=>?_;injection z with z
 match Y,z with
 |a::r,z=>injection z with c _;cases c
theorem vJ:ak z1z z1z (aa mh):=bJ
theorem rO(F:rx K "_law_number" mh f t)(C:Cl P w K mg base 1 I u z0z aZ "_law_take"):ah P w K mg base aE 2 f t z1z hX:=by
 refine F.ok vJ (λx A o s H v Q E a h=>?_)
 let⟨p,rfl,B,q⟩:=h;refine#[_,(jd (jx (ze$ C.e a$ ja (pv 0)$ ja je jb) (jg$ jo$ C.e a$ ja (pv 0)$ ja (jv Jv je je) jb) jp)$ jg$ jo$ C.e a$ ja (pv 0)$ ja je jb),?_];refine#[_,Z,p,4,Z,B,UJ,UJ,λL M y G m r=>#[Z,_,Z,?_]];refine bV (λc=>?_) (λc=>?_)
 .refine#[_,Z,_,_,Z,Z,#[UJ,UJ,UJ],p,_,Z,m,UJ,UJ,λD g d i j k=>?_];let z:=pP;exact q D g d UK j λb n=>(k b n).trans (r b n)
 .refine#[_,Z,p,9,Z,m,UJ,UJ,λD g d i j k=>?_];exact q D g d UK j λb n=>(k b n).trans (r b n)
theorem oI:ak ["_law_box_here","_law_names_here","_law_deep","_law_kind","_law_one"] z12z (aa pj):=bJ
theorem yw(F:rx K "_law_term" pj f fd)(cF:Cl P w K mg base (n+2) f fd z12z (cy n) "_law_term")(S:Cl P w K mg base 1 fT f0 z0z aZ "_law_take")(cN:Cl P w K mg base 2 fN f2 z1z hX "_law_number")(ml:mg "len"=θ):ah P w K mg base aE (n+3) f fd z12z (cy$ n+1):=by
 refine F.ok oI λc0 A T s H vs Q E u h=>?_
 let⟨p,g,d,ys,rfl,B,hg,v,x,h1,h2,q⟩:=h;refine#[_,(jd (jy 3 oI.nd$ S.e u.m$ ja (pv 0)$ ja je jb)$ jd (j3$ jx (PW.pt$ Ka (jA Qm (pv 3) je$ aG _)$ Jt$ PW.pt$ Ju (jA qX (pv 3) je$ aG _)$ qA$ ze$ pv 2) (jg$ jo$ jh$ ja jk$ ja (cN.e u.m$ ja (pv 0) jb) jb) jp)$ jd (jx (jA Qm (pv 3) je$ aG _) (jg$ jo$ jh$ ja jk$ ja (jr jq (pv 1) (S.e u.m$ ja (pv 0)$ ja (jF jN Z ml ME$ ja (pv 1) jb) jb) (λ_ _=>Z)) jb) jp)$ jd (jy 4 oI.nd$ cF.e u$ ja (pv 0)$ ja (pv 1)$ ja (jv kj (pv 2) je) jb)$ jg$ jo$ jh$ ja jk$ ja (jr Ki jk (S.e u.m$ ja (pv 0)$ ja je jb) (λ_ _=>Z))$ ja (pv 4)$ ja (cF.e u$ ja (pv 0)$ ja (pv 1)$ ja (jv kj (pv 2) je) jb) jb),?_];let b0:=zC;let j:g≠p:=qt B hg;refine aj λF1 l=>#[_,Z,p,6,Z,B,UJ,UJ,λM O k0 k1 R e1=>l _ _ ?_];clear l;let k:O g=δ (.lst$ ys.map ri):=by rw[e1 g j];exact hg
 let U:aD p H O:=aD.of_eq e1;let num:∀(D:Int) (a:Hp) (r:η),0<=D->D < 1000000000000000000->ap a p->(∀b,b≠p->a b=O b)->a r=θ->Q (.ref r) (af a r$ .tup [.str "num",.int D]):=λD a r C I i o N=>
  q r (.num D) _ jc (by show((0:Nat):Int)<=d;omega) #[C,I] (i.upd_new N) ((U.trans$ aD.of_eq o).upd_new N)
 refine aj λF1 l=>dF (λJ H'=>J=[↑p,↑g,δ$ .int d,δ$ .int M,θ]/\H'=O/\(M<=3∨d≠0)) (λE2 eR fm=>?_) λJ H' W=>?_
 .clear l;refine om λG' G=>#[_,Z,_,_,Z,Z,_,Z,?_];refine bV (λc=>?_) (λc=>?_)
  .refine G _ _$ Cy ?_;show fi _ E2 _ _;unfold fi;rw[eR];exact#[_,Z,p,Z,R,λD a C I i o=>#[bL,λr N=>num D a r C I i o N]]
  refine#[_,Z,_,_,Z,Z,_,Z,?_];refine bV (λc2=>?_) (λc2=>?_)
  .refine#[_,Z,Z,_,Z,G _ _ ?_];refine bV (λc3=>?_) (λc3=>?_)
   .show fi _ E2 _ _;unfold fi;rw[eR];exact#[_,Z,p,Z,R,λD a C I i o=>#[bL,λr N=>num D a r C I i o N]]
   .exact fm _ _ #[Z,Z,.inr λz=>c3 (by rw[z];rfl)]
  .let c1:¬(3:Int) < M:=O5 (im.mpr c2);exact G _ _$ rj$ fm _ _ #[Z,Z,.inl UK]
 let⟨rfl,eH,hk⟩:=W;rw[eH];refine l _ _ ?_;clear l;refine aj λF1 l=>om λG' G=>#[_,Z,_,_,Z,Z,_,Z,G _ _ ?_];clear G;refine bV (λc=>?_) (λc=>l _ _ ?_)
 .-- a variable
  refine#[_,Z,_,Z,_,Z,g,_,Z,.inl$ aJ.of k,p,_,Z,R,by rw[Lw];omega,by rw[Lw];omega,λD a X L i o=>?_];rw[Lw]at L;let⟨y,hy,Y⟩:=Kk (ys:=ys) X L;let t:a g=δ (.lst$ ys.map ri):=by rw[o g j];exact k
  refine#[g,_,_,_,Z,Z,aJ.of t,Y,bL,λr N=>?_];exact q r (.var y) _ jc (by show((0:Nat):Int)<=d;omega) hy (i.upd_new N) ((U.trans$ aD.of_eq o).upd_new N)
 .let c':¬M < (4:Int):=O5 (im.mpr c);let hd:d≠0:=hk.resolve_left UK;refine#[_,Z,_,Z,_,Z,_,_,Z,Z,p,g,d - 1,ys,Z,R,k,v,x,UK,UK,λr1 T1 a t1 d3 g0 i k2=>?_];let t:a g=δ (.lst$ ys.map ri):=k2 g _ j k;refine#[_,Z,p,6,Z,i,UJ,UJ,λs3 H3 s0 s1 B3 e3=>?_];let h0:H3 g=δ (.lst$ ys.map ri):=by rw[e3 g j];exact t
  let k3:aD p a H3:=aD.of_eq e3;refine#[mw,_,_,Z,Z,(by rw[vV];omega),DW s0 s1,?_];refine#[_,Z,_,Z,_,Z,_,Z,_,_,Z,Z,p,g,d - 1,ys,Z,B3,h0,v,x,UK,UK,λr2 T2 H4 t2 d4 g1 B4 k4=>?_];refine#[su,λr N=>?_];let t0:bh H4 T1 r1:=(t1.but i k3).but B3 k4;refine q r (.op s3.toNat T1 T2) _ #[r1,r2,jc,t0.new N,t2.new N] ?_ #[UK,g0,g1] (B4.upd_new N) (((U.trans k2).trans$ k3.trans k4).upd_new N);show((max T1.depth T2.depth+1:Nat):Int)<=d;omega
theorem yc:ah P w K mg base aE 2 f e z12z (cy 0):=by
 let n:∀v H Q E,¬cy 0 v H Q E:=λv H Q E h=>by let⟨p,g,d,y,_,_,_,_,_,i,b,_⟩:=h;let c:d < ((0:Nat):Int):=b;omega
 exact#[λv H Q E h=>absurd h (n v H Q E),λA o s H a u v Q E _ _ _ _ h=>absurd h (n v H Q E)]
theorem Bu(F:rx K "_law_term" pj f a)(b:aw K a z12z [])(m:mg "_law_term"=↑f)(c:Cl P w K mg base 1 g d z0z aZ "_law_take")(C:Cl P w K mg base 2 h e z1z hX "_law_number")(M:mg "len"=θ):
  ∀n:Nat,ah P w K mg base aE (n+2) f a z12z (cy n)
 |0=>yc
 |n+1=>yw F #[(Bu F b m c C M n),b,F.kp,m] c C M
end _K
namespace _K
open PySem PySem.Spec PyProof.Rows _L
variable {P:ψ}{w:bU}{K:β}{mg:ρ->Option ζ}{base:cJ}
noncomputable def Tm.vars:Tm->List ρ
 | .num _=>[]
 | .var x=>[x]
 | .op _ a b=>a.vars++b.vars
theorem kI:∀{t:Tm},t.Good y->∀x∈t.vars,x∈y
 | .num _,_,_,h=>nomatch h
 | .var _,g,_,h=>by rw[τ.mp h];exact g
 | .op _ _ _,g,_,h=>(γ.mp h).elim (kI g.2.1 _) (kI g.2.2 _)
theorem j9:∀{l m:List ρ},l.Nodup->(∀x∈l,x∈m)->l.length<=m.length
 | [],_,_,_=>LF _
 |x::l,m,n,h=>by rw[Tc]at n;let H:=h x LN;let q:=j9 (l:=l) (m:=m.erase x) n.2 λy a=>(List.mem_erase_of_ne (λe=>n.1 (by rw[<- e];exact a))).mpr (h y$ LW _ a);rw[List.length_erase_of_mem H]at q;let:0 < m.length:=List.length_pos_of_mem H;rw[Md];omega
theorem KO:∀{l m:List ρ},l.Nodup->m.Nodup->(∀x,x∈l↔x∈m)->l.Perm m
 | [],[],_,_,_=>.nil
 | [],y::m,_,_,h=>absurd ((h y).mpr LN) UL
 |x::l,m,n,N,h=>by
  rw[Tc]at n;let a:x∈m:=(h x).mp LN;refine(List.Perm.cons x$ KO n.2 (N.erase x) λy=>?_).trans (List.perm_cons_erase a).symm;rw[N.mem_erase_iff];constructor
  .intro H;exact#[λe=>n.1 (by rw[<- e];exact H),(h y).mp$ LW _ H]
  .rintro ⟨b,H⟩;exact(Ξ.mp ((h y).mpr H)).resolve_left b
theorem QO:∀{p:ρ} {l:List ρ},risingS p l=ν->(p::l).Pairwise λa b=>a.cps.toList<=b.cps.toList
 |p,[],_=>by simp
 |p,x::r,h=>by
  let H:(!ltCps x.cps.toList p.cps.toList&&risingS x r)=ν:=h;rw[MJ]at H;let i:=QO H.2;let c:p.cps.toList<=x.cps.toList:=by let z:=H.1;rw[ltCps_eq]at z;simpa using z
  rw[List.pairwise_cons]at i ⊢;refine#[λy hy=>?_,List.pairwise_cons.mpr i];rcases Ξ.mp hy with rfl |hy
  .exact c
  .exact List.le_trans c$ i.1 y hy
theorem QP(h:sortedS l=ν):l.Pairwise λa b=>a.cps.toList<=b.cps.toList:=by
 cases l with
 |nil=>exact .nil
 |cons x r=>exact QO h
theorem X7{l:List ρ}(p:l.Perm m)(h:sortedS l=ν)(H:sortedS m=ν):l=m:=by refine List.Perm.eq_of_pairwise (λa b _ _ x y=>?_) (QP h) (QP H) p;let e:=List.le_antisymm x y;cases a;cases b;exact MO Str.mk$ Array.toList_inj.mp e
inductive Lf where
 |rd (x:ρ) (t:η) (T:Tm)
 |st (x:ρ) (t:η) (T:Tm)
 |wr (t u:η) (T U:Tm)
 |cl (x f:ρ) (q:η) (ts:List (η×Tm))
 |gv (t:η) (T:Tm)
def wY(H:Hp):Lf->List V->Prop
 | .rd x t T,v=>v=[.str "read",.str x,.ref t]/\bh H T t
 | .st x t T,v=>v=[.str "set",.str x,.ref t]/\bh H T t
 | .wr t u T U,v=>v=[.str "write",.ref t,.ref u]/\bh H T t/\bh H U u
 | .cl x f q a,v=>v=[.str "call",.str x,.str f,.ref q]/\H q=δ (.tup (a.map λc=>rs c.1))/\∀c∈a,bh H c.2 c.1
 | .gv t T,v=>v=[.str "give",.ref t]/\bh H T t
theorem wY.mono(k:ai H a)(h:wY H l v):wY a l v:=by
 cases l with
 |rd x t T |st x t T |gv t T=>exact#[h.1,h.2.mono k]
 |wr t u T U=>exact#[h.1,h.2.1.mono k,h.2.2.mono k]
 |cl x f q d=>exact#[h.1,k _ _ h.2.1,λc b=>(h.2.2 c b).mono k]
inductive Bd where
 |nil
 |lf (p:η) (l:Lf) (r:Bd)
 |ite (p t:η) (T:Tm) (a b r:Bd)
 |loop (p t:η) (T:Tm) (a r:Bd)
noncomputable def Bd.app:Bd->Bd->Bd
 | .nil,s=>s
 | .lf p l r,s=>.lf p l (r.app s)
 | .ite p t T a b r,s=>.ite p t T a b (r.app s)
 | .loop p t T a r,s=>.loop p t T a (r.app s)
noncomputable def Bd.size:Bd->Nat
 | .nil=>0
 | .lf _ _ r=>r.size+1
 | .ite _ _ _ a b r=>a.size+b.size+r.size+1
 | .loop _ _ _ a r=>a.size+r.size+1
noncomputable def Bd.dep:Bd->Nat
 | .nil=>0
 | .lf _ _ r=>r.dep
 | .ite _ _ _ a b r=>max (max a.dep b.dep+1) r.dep
 | .loop _ _ _ a r=>max (a.dep+1) r.dep
def dq(y:List ρ)(T:Tm):Prop:=T.Good y/\T.depth < 6
def Lf.Ok(y:List ρ):Lf->Prop
 | .rd x _ T=>x∈y/\dq y T
 | .st x _ T=>x∈y/\dq y T
 | .wr _ _ T U=>dq y T/\dq y U
 | .cl x _ _ t=>x∈y/\t.length<=6/\∀c∈t,dq y c.2
 | .gv _ T=>dq y T
def Bd.Ok(y:List ρ):Bd->Prop
 | .nil=>True
 | .lf _ l r=>l.Ok y/\r.Ok y
 | .ite _ _ T a b r=>dq y T/\a.Ok y/\b.Ok y/\r.Ok y
 | .loop _ _ T a r=>dq y T/\a.Ok y/\r.Ok y
abbrev ik:=List (ρ×Nat)
def Lf.Cs(F:ik):Lf->Prop
 | .cl _ f _ t=>(f,t.length)∈F
 |_=>True
def Bd.Cs(F:ik):Bd->Prop
 | .nil=>True
 | .lf _ l r=>l.Cs F/\r.Cs F
 | .ite _ _ _ a b r=>a.Cs F/\b.Cs F/\r.Cs F
 | .loop _ _ _ a r=>a.Cs F/\r.Cs F
theorem Kl{F:ik}:∀{a b:Bd},a.Cs F->b.Cs F->(a.app b).Cs F
 | .nil,_,_,h=>h
 | .lf _ _ _,_,h,k=>#[h.1,Kl h.2 k]
 | .ite _ _ _ _ _ _,_,h,k=>#[h.1,h.2.1,Kl h.2.2 k]
 | .loop _ _ _ _ _,_,h,k=>#[h.1,Kl h.2 k]
theorem kJ{F:ik}(k:∀f∈F,f∈G):∀{a:Bd},a.Cs F->a.Cs G
 | .nil,_=>trivial
 | .lf _ l _,h=>#[by cases l<;>first |exact k _ h.1 |trivial,kJ k h.2]
 | .ite _ _ _ _ _ _,h=>#[kJ k h.1,kJ k h.2.1,kJ k h.2.2]
 | .loop _ _ _ _ _,h=>#[kJ k h.1,kJ k h.2]
noncomputable def Lf.calls:Lf->ik
 | .cl _ f _ t=>[(f,t.length)]
 |_=>[]
noncomputable def Bd.calls:Bd->ik
 | .nil=>[]
 | .lf _ l r=>l.calls++r.calls
 | .ite _ _ _ a b r=>a.calls++(b.calls++r.calls)
 | .loop _ _ _ a r=>a.calls++r.calls
theorem zE:∀b:Bd,b.Cs b.calls
 | .nil=>trivial
 | .lf _ l r=>#[by cases l<;>first |exact ks _ List.mem_cons_self |trivial,kJ (λ_ h=>gW _ h) (zE r)]
 | .ite _ _ _ a b r=>#[kJ (λ_ h=>ks _ h) (zE a),kJ (λ_ h=>gW _ (ks _ h)) (zE b),kJ (λ_ h=>gW _ (gW _ h)) (zE r)]
 | .loop _ _ _ a r=>#[kJ (λ_ h=>ks _ h) (zE a),kJ (λ_ h=>gW _ h) (zE r)]
theorem zF{F:ik}:∀{b:Bd},b.Cs F->∀f∈b.calls,f∈F
 | .nil,_,_,h=>nomatch h
 | .lf _ l r,k,f,h=>(γ.mp h).elim (λh=>by cases l<;>first | (rw[τ.mp h];exact k.1) |exact nomatch h) (zF k.2 f)
 | .ite _ _ _ a b r,k,f,h=>(γ.mp h).elim (zF k.1 f) λh=>(γ.mp h).elim (zF k.2.1 f) (zF k.2.2 f)
 | .loop _ _ _ a r,k,f,h=>(γ.mp h).elim (zF k.1 f) (zF k.2 f)
theorem jY:∀(a b:Bd),(a.app b).size=a.size+b.size
 | .nil,b=>by show b.size=0+b.size;omega
 | .lf _ _ r,b=>by let:=jY r b;show(r.app b).size+1=r.size+1+b.size;omega
 | .ite _ _ _ x y r,b=>by let:=jY r b;show x.size+y.size+(r.app b).size+1=x.size+y.size+r.size+1+b.size;omega
 | .loop _ _ _ x r,b=>by let:=jY r b;show x.size+(r.app b).size+1=x.size+r.size+1+b.size;omega
theorem zo:∀(a b:Bd),(a.app b).dep=max a.dep b.dep
 | .nil,b=>(Nat.zero_max b.dep).symm
 | .lf _ _ r,b=>zo r b
 | .ite _ _ _ x y r,b=>by show max _ (r.app b).dep=max (max _ r.dep) b.dep;rw[zo r b,TH]
 | .loop _ _ _ x r,b=>by show max _ (r.app b).dep=max (max _ r.dep) b.dep;rw[zo r b,TH]
theorem Km:∀{a b:Bd},a.Ok y->b.Ok y->(a.app b).Ok y
 | .nil,_,_,h=>h
 | .lf _ _ _,_,g,h=>#[g.1,Km g.2 h]
 | .ite _ _ _ _ _ _,_,g,h=>#[g.1,g.2.1,g.2.2.1,Km g.2.2.2 h]
 | .loop _ _ _ _ _,_,g,h=>#[g.1,g.2.1,Km g.2.2 h]
def dG(H:Hp):Bd->List V->Prop
 | .nil,x=>x=[]
 | .lf p l r,x=>∃v y,x= .ref p::y/\H p=δ (.tup v)/\wY H l v/\dG H r y
 | .ite p t T a b r,x=>∃q Q A B y,x= .ref p::y/\H p=δ (.tup [.str "if",.ref t,.ref q,.ref Q])/\bh H T t/\H q=δ (.tup A)/\H Q=δ (.tup B)/\dG H a A/\dG H b B/\dG H r y
 | .loop p t T a r,x=>∃q A y,x= .ref p::y/\H p=δ (.tup [.str "while",.ref t,.ref q])/\bh H T t/\H q=δ (.tup A)/\dG H a A/\dG H r y
theorem dG.mono(k:ai H m):∀{x:List V},dG H a x->dG m a x:=by
 induction a with
 |nil=>exactλh=>h
 |lf p l r n=>rintro x ⟨v,y,e,c,d,f⟩;exact#[v,y,e,k _ _ c,d.mono k,n f]
 |ite p t T a b r i o I=>rintro x ⟨q,Q,A,B,y,e,c,g,d,f,j,s,u⟩;exact#[q,Q,A,B,y,e,k _ _ c,g.mono k,k _ _ d,k _ _ f,i j,o s,I u]
 |loop p t T a r i I=>rintro x ⟨q,A,y,e,c,g,d,f,j⟩;exact#[q,A,y,e,k _ _ c,g.mono k,k _ _ d,i f,I j]
theorem dG.app(k:dG H b y):∀{x:List V},dG H a x->dG H (a.app b) (x++y):=by
 induction a with
 |nil=>intro x h;let e:x=[]:=h;rw[e];exact k
 |lf p l r I=>rintro x ⟨v,z,e,c,d,f⟩;exact#[v,z++y,by rw[e];rfl,c,d,I f]
 |ite p t T a b r _ _ i=>rintro x ⟨q,Q,A,B,z,e,c,g,d,f,j,m,n⟩;exact#[q,Q,A,B,z++y,by rw[e];rfl,c,g,d,f,j,m,i n]
 |loop p t T a r _ i=>rintro x ⟨q,A,z,e,c,g,d,f,j⟩;exact#[q,A,z++y,by rw[e];rfl,c,g,d,f,i j]
theorem dG.len:∀{x:List V},dG H a x->x.length<=a.size:=by
 induction a with
 |nil=>intro x h;let e:x=[]:=h;rw[e];exact Lx 0
 |lf p l r I=>rintro x ⟨v,y,e,d,f,c⟩;rw[e];exact M6 (I c)
 |ite p t T a b r _ _ i=>rintro x ⟨q,Q,A,B,y,e,d,j,f,c,g,m,k⟩;rw[e];exact M6 (LJ (i k) (Th _ _))
 |loop p t T a r _ i=>rintro x ⟨q,A,y,e,d,j,f,c,g⟩;rw[e];exact M6 (LJ (i g) (Th _ _))
inductive io(H:Hp):V->Bd->Prop
 |lf (p:η) (l:Lf) (vs:List V) (h1:H p=δ (.tup vs)) (h2:wY H l vs):io H (.ref p) (.lf p l .nil)
 |ite (p t:η) (T:Tm) (a b:Bd) (qa qb:η) (as bs:List V) (h1:H p=δ (.tup [.str "if",.ref t,.ref qa,.ref qb])) (h0:bh H T t) (h2:H qa=δ (.tup as)) (h3:H qb=δ (.tup bs)) (h4:dG H a as) (h5:dG H b bs):io H (.ref p) (.ite p t T a b .nil)
 |loop (p t:η) (T:Tm) (a:Bd) (qa:η) (as:List V) (h1:H p=δ (.tup [.str "while",.ref t,.ref qa])) (h0:bh H T t) (h2:H qa=δ (.tup as)) (h3:dG H a as):io H (.ref p) (.loop p t T a .nil)
theorem io.bd(h:io H v s):dG H s [v]:=by
 cases h with
 |lf p l V c d=>exact#[V,[],Z,c,d,Z]
 |ite p t T a b q Q A B c e d f g i=>exact#[q,Q,A,B,[],Z,c,e,d,f,g,i,Z]
 |loop p t T a q A c e d f=>exact#[q,A,[],Z,c,e,d,f,Z]
theorem io.mono(k:ai H g)(h:io H v s):io g v s:=by
 cases h with
 |lf p l V c d=>exact .lf p l V (k _ _ c) (d.mono k)
 |ite p t T a b q Q A B c e d f i j=>exact .ite p t T a b q Q A B (k _ _ c) (e.mono k) (k _ _ d) (k _ _ f) (i.mono k) (j.mono k)
 |loop p t T a q A c e d f=>exact .loop p t T a q A (k _ _ c) (e.mono k) (k _ _ d) (f.mono k)
theorem dG.last:∀{x:List V},dG H a x->x=[]/\a= .nil∨∃z v b s,x=z++[v]/\a=b.app s/\dG H b z/\io H v s:=by
 induction a with
 |nil=>exactλh=>.inl #[h,Z]
 |lf p l r i=>
  rintro x ⟨u,y,e,f,g,n⟩;rcases i n with ⟨E,d⟩ | ⟨z,v,b,s,E,d,j,k⟩
  .exact .inr #[[],.ref p,.nil,.lf p l .nil,by rw[e,E];rfl,by rw[d];rfl,Z,.lf p l u f g]
  .exact .inr #[.ref p::z,v,.lf p l b,s,by rw[e,E];rfl,by rw[d];rfl,#[u,z,Z,f,g,j],k]
 |ite p t T a b r _ _ i=>
  rintro x ⟨q,Q,A,B,y,e,f,m,g,n,G,C,o⟩;rcases i o with ⟨E,d⟩ | ⟨z,v,c,s,E,d,j,k⟩
  .exact .inr #[[],.ref p,.nil,.ite p t T a b .nil,by rw[e,E];rfl,by rw[d];rfl,Z,.ite p t T a b q Q A B f m g n G C]
  .exact .inr #[.ref p::z,v,.ite p t T a b c,s,by rw[e,E];rfl,by rw[d];rfl,#[q,Q,A,B,z,Z,f,m,g,n,G,C,j],k]
 |loop p t T a r _ i=>
  rintro x ⟨q,A,y,e,f,m,g,G,o⟩;rcases i o with ⟨E,d⟩ | ⟨z,v,c,s,E,d,j,k⟩
  .exact .inr #[[],.ref p,.nil,.loop p t T a .nil,by rw[e,E];rfl,by rw[d];rfl,Z,.loop p t T a q A f m g G]
  .exact .inr #[.ref p::z,v,.loop p t T a c,s,by rw[e,E];rfl,by rw[d];rfl,#[q,A,z,Z,f,m,g,G,j],k]
theorem zO:∀{a b:Bd},(a.app b).Ok y->a.Ok y/\b.Ok y
 | .nil,_,h=>#[trivial,h]
 | .lf _ _ _,_,h=>#[#[h.1,(zO h.2).1],(zO h.2).2]
 | .ite _ _ _ _ _ _,_,h=>#[#[h.1,h.2.1,h.2.2.1,(zO h.2.2.2).1],(zO h.2.2.2).2]
 | .loop _ _ _ _ _,_,h=>#[#[h.1,h.2.1,(zO h.2.2).1],(zO h.2.2).2]
structure Nm(ss:List ρ)(M:ρ->Prop):Prop where
 nd:ss.Nodup
 so:sortedS ss=ν
 mem:∀x,x∈ss↔M x
theorem Nm.uniq(h:Nm a M)(g:Nm s M):a=s:=X7 (KO h.nd g.nd λx=>(h.mem x).trans (g.mem x).symm) h.so g.so
open Classical in
def canon(M:ρ->Prop):List ρ:=if h:∃s,Nm s M then Classical.choose h else []
theorem Nm.canon(h:Nm s M):s=canon M:=by let e:∃s,Nm s M:=#[s,h];unfold _K.canon;rw[dif_pos e];exact h.uniq$ Classical.choose_spec e
theorem Nm.len{s y:List ρ}{M:ρ->Prop}(h:Nm s M)(H:∀x,M x->x∈y):s.length<=y.length:=j9 h.nd λx a=>H x ((h.mem x).mp a)
def Lf.use(M:ρ->Prop):Lf->ρ->Prop
 | .rd x _ T,y=>(M y/\y≠x)∨y∈T.vars
 | .st x _ T,y=>(M y/\y≠x)∨y∈T.vars
 | .wr _ _ T U,y=>M y∨y∈T.vars∨y∈U.vars
 | .cl x _ _ t,y=>(M y/\y≠x)∨∃c∈t,y∈c.2.vars
 | .gv _ T,y=>y∈T.vars
def Bd.use:Bd->(ρ->Prop)->ρ->Prop
 | .nil,M=>M
 | .lf _ l r,M=>l.use (r.use M)
 | .ite _ _ T a b r,M=>λy=>(a.use (r.use M) y∨b.use (r.use M) y)∨y∈T.vars
 | .loop _ _ T a r,M=>λy=>(a.use (λ_=>False) y∨r.use M y)∨y∈T.vars
theorem J1:∀(a b:Bd) (M:ρ->Prop),(a.app b).use M=a.use (b.use M)
 | .nil,_,_=>rfl
 | .lf _ l r,b,M=>by show l.use ((r.app b).use M)=l.use (r.use (b.use M));rw[J1 r b M]
 | .ite _ _ T x y r,b,M=>by show(λz=>(x.use ((r.app b).use M) z∨y.use ((r.app b).use M) z)∨z∈T.vars)=λz=>(x.use (r.use (b.use M)) z∨y.use (r.use (b.use M)) z)∨z∈T.vars;rw[J1 r b M]
 | .loop _ _ T x r,b,M=>by show(λz=>(x.use (λ_=>False) z∨(r.app b).use M z)∨z∈T.vars)=λz=>(x.use (λ_=>False) z∨r.use (b.use M) z)∨z∈T.vars;rw[J1 r b M]
theorem Lf.use_in{M:ρ->Prop}{l:Lf}(h:l.Ok Y)(a:∀x,M x->x∈Y):∀y,l.use M y->y∈Y:=by
 intro y H;cases l with
 |rd x t T |st x t T=>exact H.elim (λz=>a y z.1) (kI h.2.1 y)
 |wr t u T U=>exact H.elim (a y) λz=>z.elim (kI h.1.1 y) (kI h.2.1 y)
 |cl x f q d=>exact H.elim (λz=>a y z.1) λ#[c,b,z]=>kI (h.2.2 c b).1 y z
 |gv t T=>exact kI h.1 y H
theorem Bd.use_in:∀{b:Bd} {M:ρ->Prop},b.Ok Y->(∀x,M x->x∈Y)->∀y,b.use M y->y∈Y
 | .nil,_,_,H,y,c=>H y c
 | .lf _ l r,_,h,H,y,c=>Lf.use_in h.1 (Bd.use_in h.2 H) y c
 | .ite _ _ T a b r,_,h,H,y,c=>c.elim (λz=>z.elim (Bd.use_in h.2.1 (Bd.use_in h.2.2.2 H) y) (Bd.use_in h.2.2.1 (Bd.use_in h.2.2.2 H) y)) (kI h.1.1 y)
 | .loop _ _ T a r,_,h,H,y,c=>c.elim (λz=>z.elim (Bd.use_in h.2.1 (λ_ w=>w.elim) y) (Bd.use_in h.2.2 H y)) (kI h.1.1 y)
end _K
namespace _K
open PySem PySem.Spec PyProof.Rows _L
variable {P:ψ}{w:bU}{K:β}{mg:ρ->Option ζ}{base:cJ}
noncomputable abbrev eI:cv:=bK 18
noncomputable abbrev DM:cv:=bK 48
noncomputable abbrev vq:cv:=bK 49
noncomputable abbrev yY:cv:=bK 50
noncomputable abbrev yX:cv:=bK 51
inductive dm(n:Nat)(c:List V)(H:Hp)(Q:VK)(b:XK):Prop
 |mk(a:η)(T:Tm)(d:List ρ)(_:c=[.ref a])(_:bh H T a)(_:T.depth < n)(_:T.Good d)(_:d.length<=21)(_:∀(r:η) (ss:List ρ) (H':Hp),H r=θ->H' r=δ (.lst (ss.map ri))->ss.Nodup->(∀x,x∈ss↔x∈T.vars)->sortedS ss=ν->ae H H'->Q (.ref r) H')
theorem vI:ak z2z z2z (aa eI):=bJ
theorem yp{f:η}{o:fy}(F:rx K "names_in" eI f o){n:Nat}(C:Cl P w K mg base (n+1) f o z2z (dm n) "names_in")(M:mg "set"=θ)(p:mg "sorted"=θ):ah P w K mg base aE (n+2) f o z2z (dm$ n+1):=by
 refine F.ok vI (λc0 A O s H vs Q E v h=>?_)
 let⟨a,T,Y,rfl,t,dp,g,j,q⟩:=h;refine#[_,(jd (jx (kc$ jz$ pv 0) (jg$ jo$ jI jb) jp)$ jd (jx (kc$ jz$ pv 0) (jg$ jo$ jI$ ja (jz$ pv 0) jb) jp)$ jg$ jo$ jF (ql Z) Z p Pt$ ja (jE (qW Z) Z M UC$ ja (jv qr (C.e v$ ja (jz$ pv 0) jb)$ C.e v$ ja (jz$ pv 0) jb) jb) jb),?_];cases T with
 |num m=>have b:H a=δ (.tup [.str "num",.int m]):=t;refine(ju b Z #[Z,_,Z,ci UM ?_]);exact#[UJ,λr N=>q r [] _ N jc Pe (λx=>Rk) Z (jf N)]
 |var x=>have b:H a=δ (.tup [.str "var",.str x]):=t;refine(ju b Z #[Z,_,Z,aX UM ?_]);refine(ju b Z #[Z,_,Z,ci UM ?_]);exact(ju b Z #[i8,λr N=>q r [x] _ N jc UL (λy=>Rk) Z (jf N)])
 |op i B D=>let⟨p1,p2,b,h1,h2⟩:=t;let d0:max B.depth D.depth+1 < n+1:=dp;refine(ju b Z #[Z,_,Z,aX UM ?_]);refine(ju b Z #[Z,_,Z,aX UM ?_]);refine(ju b Z #[p1,B,Y,Z,h1,UK,g.2.1,j,λr1 S H1 n1 e1 d1 G o1 u=>?_]);refine(ju (u _ _ b) Z #[p2,D,Y,Z,h2.same u,UK,g.2.2,j,λr2 k H2 n2 e2 d2 I o2 J=>?_]);let l1:S.length<=21:=LJ (j9 d1 λx d=>kI g.2.1 x ((G x).mp d)) j;let l2:k.length<=21:=LJ (j9 d2 λx d=>kI g.2.2 x ((I x).mp d)) j;let b0:=zC;refine#[r1,r2,_,_,Z,Z,J _ _ e1,e2,(by rw[Lw,Lw];omega),λc nc=>?_];refine#[c,S++k,Z,aJ.of (by rw[jc,Mc]),(λL nd hs=>M7 (M6$ j9 nd hs) (by rw[Ly];show S.length+k.length+1 < 4096;omega)),λl L nl dL R=>?_];let lL:=j9 dL λx d=>(R x).mp d;rw[Ly]at lL;refine#[l,L,Z,jc,UK,λz ss U W dz oz=>?_];let X:ae H (af (af H2 c$ .lst$ S.map ri++k.map ri) l$ Hd P w l L):=(u.trans J).trans ((jf nc).trans$ jf nl);refine q z ss _ (X.free U) jc (W.nodup_iff.mpr dz) (λx=>?_) oz$ X.trans$ jf U;rw[W.mem_iff,R x,NZ,G x,I x];exact γ.symm
theorem yb:ah P w K mg base aE 1 f d z2z (dm 0):=by
 let n:∀v H Q E,¬dm 0 v H Q E:=λv H Q E h=>by let⟨a,T,y,_,_,c,_⟩:=h;exact absurd c$ Oi _
 exact#[λv H Q E h=>absurd h (n v H Q E),λA o s H b u v Q E _ _ _ _ h=>absurd h (n v H Q E)]
theorem Bc(F:rx K "names_in" eI f a)(b:aw K a z2z [])(c:mg "names_in"=↑f)(m:mg "set"=θ)(M:mg "sorted"=θ):
  ∀n:Nat,ah P w K mg base aE (n+1) f a z2z (dm n)
 |0=>yb
 |n+1=>yp F #[(Bc F b c m M n),b,F.kp,c] m M
noncomputable def Lf.own:Lf->List (η×Tm)
 | .rd _ t T=>[(t,T)]
 | .st _ t T=>[(t,T)]
 | .wr t u T U=>[(t,T),(u,U)]
 | .cl _ _ _ a=>a
 | .gv t T=>[(t,T)]
noncomputable def Bd.own:Bd->List (η×Tm)
 | .nil=>[]
 | .lf _ l _=>l.own
 | .ite _ t T _ _ _=>[(t,T)]
 | .loop _ t T _ _=>[(t,T)]
noncomputable def rT(c:η×Tm):V:=.ref c.1
inductive nF(b:List V)(H:Hp)(Q:VK)(a:XK):Prop
 |mk(v:V)(s:Bd)(_:b=[v])(_:io H v s)(_:∀(r:η) (H':Hp),H' r=δ (.tup (s.own.map rT))->ae H H'->Q (.ref r) H')
theorem Zo:aS (a::b::r) (δ 1) (δ 2)=[b]:=by
 unfold aS;let e:(1:Int)=((1:Nat):Int):=rfl;let E:(2:Int)=((2:Nat):Int):=rfl;rw[E,e,HT.sIx_nat,HT.sIx_nat,Md,Md];let c:min 1 (r.length+1+1)=1:=by omega
 let d:min 2 (r.length+1+1) - 1=1:=by omega
 rw[c,d];rfl
theorem Bl:ak ["statement","word"] z4z (aa DM):=bJ
theorem C7{f:η}{j:fy}(F:rx K "own_terms" DM f j):ah P w K mg base aE 1 f j z4z nF:=by
 refine F.ok Bl λC A o s H V Q E d h=>?_
 let⟨v,st,rfl,m,q⟩:=h;refine#[_,(jd (jy 1 Bl.nd$ jz$ pv 0)$ jd (jx (jA za (pv 1) (jh$ ja jk$ ja jk jb) Z) (jg$ jo$ jK kO (pv 0) (jG je) jW) jp)$ jd (jx (kc$ pv 1) (jg$ jo$ jK kO (pv 0) (jG je) jW) jp)$ jd (jx (kc$ pv 1) (jg$ jo$ jz$ pv 0) jp)$ jg$ jo$ jK kO (pv 0) (jG je)$ jG je),?_];cases m with
 |lf p l V c g=>
  cases l with
  |rd x t T |st x t T=>let⟨rfl,i⟩:=g;refine(ju c Z #[_,Z,bL,λl n=>#[l,_,Z,.inr$ aC.of jc,Z,Z,_,Z,ci UM ?_]]);exact#[_,Z,_,Z,p,_,Z,ar c n,λr e d s=>q r e d ((jf n).trans s)]
  |wr t u T U=>let⟨rfl,i,L⟩:=g;refine(ju c Z #[_,Z,bL,λl n=>#[l,_,Z,.inr$ aC.of jc,Z,Z,_,Z,aX UM ?_]]);refine#[_,Z,Z,_,Z,ci UM ?_];exact#[_,Z,_,Z,p,_,Z,ar c n,λr e d s=>q r e d ((jf n).trans s)]
  |cl x M y N=>let⟨rfl,z,i⟩:=g;refine(ju c Z #[_,Z,bL,λl n=>#[l,_,Z,.inr$ aC.of jc,Z,Z,_,Z,aX UM ?_]]);refine#[_,Z,Z,_,Z,aX UM ?_];refine#[_,Z,Z,_,Z,ci UM ?_];exact(ju (ar c n) Z$ q y _ (ar z n)$ jf n)
  |gv t T=>let⟨rfl,i⟩:=g;refine(ju c Z #[_,Z,bL,λl n=>#[l,_,Z,.inr$ aC.of jc,Z,Z,_,Z,aX UM ?_]]);refine#[_,Z,Z,_,Z,aX UM ?_];refine#[_,Z,Z,_,Z,aX UM ?_];exact#[_,Z,_,Z,_,Z,p,_,Z,ar c n,λr e d s=>q r e (by rw[Zo]at d;exact d) ((jf n).trans s)]
 |ite p t T a b B O D R c G g I S W |loop p t T a B D c G g I=>refine(ju c Z #[_,Z,bL,λl n=>#[l,_,Z,.inr$ aC.of jc,Z,Z,_,Z,aX UM ?_]]);refine#[_,Z,Z,_,Z,aX UM ?_];refine#[_,Z,Z,_,Z,aX UM ?_];exact#[_,Z,_,Z,_,Z,p,_,Z,ar c n,λr e d s=>q r e (by rw[Zo]at d;exact d) ((jf n).trans s)]
theorem KP{K:β}{a:η}{Y:List ρ}{t:TT}{T:TE}{q:List V->Hp->Prop}{b:_L.St}{H:Hp}(f:ρ->Bool)(L:Y.length<=1000)(A:H a=δ (.lst$ Y.map ri))
  (B:∀y g (Q:Bool->Hp->Prop),y∈Y->ae H g->(∀j,ae g j->Q (f y) j)->t (δ (.str y)::b) g Q)
  (C:∀y g (Q:VK),y∈Y->Q (.str y) g->T (δ (.str y)::b) g Q) (D:∀c,ae H c->q ((Y.filter f).map ri) c):eU (wW K a) 1 b (bE 0) t T q H:=by
 let F:=zC;refine#[λi m n c=>m=Y.length - i/\i<=Y.length/\n=((Y.take i).filter f).map ri/\ae H c,#[Y.length,UL,LF _,UL,ae.refl H],?_];rintro i m n c ⟨rfl,M,rfl,k⟩;let d:aJ K c a (Y.map ri):=aJ.of (k _ _ A);by_cases h:i < Y.length
 .let o:(Y.map ri)[i]?=δ (.str Y[i]):=by rw[LK,Ls h];rfl
  refine .inr #[#[_,_,d,o],?_,λz j=>z=((Y.take$ i+1).filter f).map ri/\ae H j,λz j #[G,I]=>#[Y.length - (i+1),UK,Z,h,G,I],λv j N l y=>?_]
  .rw[Lw];let:=Pa f (Y.take i);rw[Mb]at this;omega
  let⟨e,y⟩:=y;subst e;let p:=y _ d;rw[o]at p;cases p;let⟨w,rfl⟩:=xU l;let r:Y[i]∈Y:=Ob h;let s:Y.take (i+1)=Y.take i++[Y[i]]:=by rw[M1,Ls h];rfl
  refine#[#[[δ _],Z,Z],B Y[i] _ _ r k λJ u=>?_];cases x:f Y[i] with
  |true=>
   refine ci Z$ C Y[i] J _ r #[?_,k.trans u];rw[s,So,Mc];let E:[Y[i]].filter f=[Y[i]]:=by simp [x]
   rw[E];rfl
  |false=>
   refine aX Z #[?_,k.trans u];rw[s,So,Mc];let E:[Y[i]].filter f=[]:=by simp [x]
   rw[E];simp
 .let e:i=Y.length:=by omega
  subst e;refine .inl #[#[_,d,UL],?_];rw[MP$ Lx _];exact D c k
def Lf.bt(M:ρ->Prop):Lf->ρ->Prop
 | .rd x _ _,y=>M y/\y≠x
 | .st x _ _,y=>M y/\y≠x
 | .wr _ _ _ _,y=>M y
 | .cl x _ _ _,y=>M y/\y≠x
 | .gv _ _,_=>False
def Bd.bt(M:ρ->Prop):Bd->ρ->Prop
 | .nil,y=>M y
 | .lf _ l _,y=>l.bt M y
 | .ite _ _ _ a b _,y=>a.use M y∨b.use M y
 | .loop _ _ _ a _,y=>a.use (λ_=>False) y∨M y
theorem wF(h:io H v s)(M:ρ->Prop)(y:ρ):s.use M y↔s.bt M y∨∃c∈s.own,y∈c.2.vars:=by
 cases h with
 |lf p l V _ _=>
  cases l with
  |rd x t T |st x t T=>exact#[λz=>z.elim .inl λw=>.inr #[_,τ.mpr Z,w],λz=>z.elim .inl λ#[c,hc,w]=>.inr (by rw[τ.mp hc]at w;exact w)]
  |wr t u T U=>
   refine#[λz=>z.elim .inl λw=>.inr (w.elim (λw=>#[_,LN ..,w]) λw=>#[_,LW _$ τ.mpr Z,w]),λz=>z.elim .inl λ#[c,hc,w]=>.inr ?_];rcases Ξ.mp hc with e |hc
   .rw[e]at w;exact .inl w
   .rw[τ.mp hc]at w;exact .inr w
  |cl x f q d=>exact Rk
  |gv t T=>exact#[λw=>.inr #[_,τ.mpr Z,w],λz=>z.elim False.elim λ#[c,hc,w]=>by rw[τ.mp hc]at w;exact w]
 |ite p t T a b Q g A B _ _ _ _ _ _ |loop p t T a Q A _ _ _ _=>exact#[λz=>z.elim .inl λw=>.inr #[_,τ.mpr Z,w],λz=>z.elim .inl λ#[c,hc,w]=>.inr (by rw[τ.mp hc]at w;exact w)]
structure NL(H:Hp)(g:η)(ss:List ρ)(M:ρ->Prop)(ys:List ρ):Prop where
 at':H g=δ (.lst$ ss.map ri)
 nm:Nm ss M
 sub:∀x,M x->x∈ys
 y20:ys.length<=21
theorem NL.len{H:Hp}{g:η}{s:List ρ}{M:ρ->Prop}{y:List ρ}(h:NL H g s M y):s.length<=21:=LJ (h.nm.len h.sub) h.y20
theorem NL.same(h:NL H g a M y)(s:ae H b):NL b g a M y:=#[s _ _ h.at',h.nm,h.sub,h.y20]
structure NU(H:Hp)(g:η)(ss:List ρ)(M:ρ->Prop)(ys:List ρ):Prop where
 at':H g=δ (.lst$ ss.map ri)
 nd:ss.Nodup
 mem:∀x,x∈ss↔M x
 sub:∀x,M x->x∈ys
 y20:ys.length<=21
theorem NL.nu(h:NL H g s M y):NU H g s M y:=#[h.at',h.nm.nd,h.nm.mem,h.sub,h.y20]
inductive vY(n:Nat)(c:List V)(H:Hp)(Q:VK)(a:XK):Prop
 |mk(v:V)(g:η)(s:Bd)(b:List ρ)(M:ρ->Prop)(d:List ρ)(_:c=[v,.ref g])(_:io H v s)(_:NL H g b M d)(_:s.Ok d)(_:s.dep < n+1)(_:s.size<=10000000)(_:∀(r:η) (zs:List ρ) (H':Hp),H' r=δ (.lst (zs.map ri))->(∀y,y∈zs↔s.bt M y)->zs.length<=50->ae H H'->Q (.ref r) H')
inductive gu(n:Nat)(c:List V)(H:Hp)(Q:VK)(a:XK):Prop
 |mk(v:V)(g:η)(s:Bd)(b:List ρ)(M:ρ->Prop)(d:List ρ)(_:c=[v,.ref g])(_:io H v s)(_:NL H g b M d)(_:s.Ok d)(_:s.dep < n+1)(_:s.size<=10000000)(_:∀(r:η) (zs:List ρ) (H':Hp),H r=θ->NL H' r zs (s.use M) d->ae H H'->Q (.ref r) H')
inductive iX(n:Nat)(e:List V)(H:Hp)(Q:VK)(c:XK):Prop
 |mk(a g:η)(b:Bd)(f:List V)(d:List ρ)(M:ρ->Prop)(h:List ρ)(_:e=[.ref a,.ref g])(_:H a=δ (.tup f))(_:dG H b f)(_:NU H g d M h)(_:b.Ok h)(_:b.dep < n)(_:b.size<=10000000)(_:∀(r:η) (zs:List ρ) (H':Hp),H r=θ->NL H' r zs (b.use M) h->ae H H'->Q (.ref r) H')
theorem Nm.empty:Nm [] (λ_=>False):=#[Pe,Z,λx=>#[λh=>absurd h Ma,False.elim]]
theorem Bn:ak ["statement","behind","word"] z3z (aa vq):=bJ
noncomputable def vS:hG:=#[.function,[(".0",.local),("name",.local),("statement",.free)],μ,μ,[]]
theorem Fs:(["name","statement"]:List ρ).Nodup:=by decide+kernel
theorem EQ:bu ["statement","behind","word"] (aa vq) vS ["name","statement"] 1 [0]:=sr
theorem uy{L n:Nat}(F:rx K "used_behind_terms" vq f fd)(J:Cl P w K mg base L fA f0 z17z (iX n) "used_ahead"):ah P w K mg base aE (L+1) f fd z3z (vY n):=by
 refine F.ok Bn λc0 A O s H vs Q E R h=>?_
 let⟨v,g,st,G,M,Y,rfl,hs,c,W,hd,hz,q⟩:=h;refine#[_,(jd (jy 2 Bn.nd$ jz$ pv 0)$ jd (jx (jA za (pv 2) (jh$ ja jk$ ja jk$ ja jk jb) Z) (jg$ jo$ @zi _ _ _ _ _ _ _ (["name","statement"]) (1) ([0]) _ _ _ _ Z (qC$ pv 1) EQ (λ_ _ _ _ _=>(jw (i:=0) Fs Z$ Φ Z)) (λ_ _ _ _ _=>(@Dw _ _ _$ jA Kb (pv 0) (jr (r:=eh K) jM (pv 1) je (λ_ _=>Z))$ aG _)) (λ_ _ _ _ _=>(pv 0)) (by intro _;rfl)) jp)$ jd (jx (kc$ pv 2) (jg$ jo$ jv qr (J.e R.m$ ja (jz$ pv 0)$ ja (pv 1) jb)$ J.e R.m$ ja (jz$ pv 0)$ ja (pv 1) jb) jp)$ jd (jx (kc$ pv 2) (jg$ jo$ jv qr (J.e R.m$ ja (jz$ pv 0)$ ja (jI jb) jb)$ pv 1) jp)$ jd (jx (kc$ pv 2) (jg$ jo$ jI jb) jp)$ jg$ jo$ pv 1),?_];let g0:=c.len;cases hs with
 |lf p l vs d B=>
  cases l with
  |rd x t T |st x t T=>
   let⟨rfl,X⟩:=B;refine(ju d Z #[_,Z,fq,λl N=>#[l,_,Z,.inr$ aC.of jc,Z,Z,_,Z,ci UM ?_]]);let S:ae H (af H l$ .tup [.str "set",.str "read",.str "call"]):=jf N;refine#[_,Z,g,Z,#[_,aJ.of$ S _ _ c.at'],KP (λy=>!decide (ri y=ri x)) UK (S _ _ c.at') (λy I Q' hy k C=>?_) (λy I Q' hy C=>#[_,Z,C]) λH' k r j=>?_]
   .exact#[_,Z,ju (k _ _$ S _ _ d) Z #[Z,_,Z,C _$ ae.refl _]]
   .refine q r _ _ jc (λy=>?_) (LJ (Pa ..) UK) ((S.trans k).trans$ jf j);rw[Td,c.nm.mem y];exact and_congr_right λ_=>by simp
  |wr t u T U=>let⟨rfl,X,hU⟩:=B;refine(ju d Z #[_,Z,fq,λl N=>#[l,_,Z,.inr$ aC.of jc,Z,Z,_,Z,aX UM ?_]]);refine#[_,Z,Z,_,Z,aX UM ?_];refine#[_,Z,Z,_,Z,aX UM ?_];refine#[_,Z,Z,_,Z,aX UM ?_];exact#[_,Z,q g G _ (ar c.at' N) c.nm.mem UK$ jf N]
  |cl x f' q' ts=>
   let⟨rfl,h8,X⟩:=B;refine(ju d Z #[_,Z,fq,λl N=>#[l,_,Z,.inr$ aC.of jc,Z,Z,_,Z,ci UM ?_]]);let S:ae H (af H l$ .tup [.str "set",.str "read",.str "call"]):=jf N;refine#[_,Z,g,Z,#[_,aJ.of$ S _ _ c.at'],KP (λy=>!decide (ri y=ri x)) UK (S _ _ c.at') (λy I Q' hy k C=>?_) (λy I Q' hy C=>#[_,Z,C]) λH' k r j=>?_]
   .exact#[_,Z,ju (k _ _$ S _ _ d) Z #[Z,_,Z,C _$ ae.refl _]]
   .refine q r _ _ jc (λy=>?_) (LJ (Pa ..) UK) ((S.trans k).trans$ jf j);rw[Td,c.nm.mem y];exact and_congr_right λ_=>by simp
  |gv t T=>let⟨rfl,X⟩:=B;refine(ju d Z #[_,Z,fq,λl N=>#[l,_,Z,.inr$ aC.of jc,Z,Z,_,Z,aX UM ?_]]);refine#[_,Z,Z,_,Z,aX UM ?_];refine#[_,Z,Z,_,Z,aX UM ?_];refine#[_,Z,Z,_,Z,ci UM ?_];exact#[lN,λr j=>q r [] _ jc (λy=>#[λh=>absurd h Ma,λh=>(show False from h).elim]) (LF _) ((jf N).trans$ jf j)]
 |ite p t T a b qa qb as bs d h0 B h3 h4 h5=>refine(ju d Z #[_,Z,fq,λl N=>#[l,_,Z,.inr$ aC.of jc,Z,Z,_,Z,aX UM ?_]]);refine#[_,Z,Z,_,Z,ci UM ?_];let S:ae H (af H l$ .tup [.str "set",.str "read",.str "call"]):=jf N;let h6:max (max a.dep b.dep+1) 0 < n+1:=hd;let h7:a.size+b.size+0+1<=10000000:=hz;refine(ju (S _ _ d) Z #[_,Z,qa,g,a,as,G,M,Y,Z,S _ _ B,h4.mono$ ae.tm S,(c.same S).nu,W.2.1,UK,UK,λr1 z1 I _ D k1=>?_]);let z:=S.trans k1;refine(ju (z _ _ d) Z #[_,Z,qb,g,b,bs,G,M,Y,Z,z _ _ h3,h5.mono$ ae.tm z,(c.same z).nu,W.2.2.1,UK,UK,λr2 z2 H2 _ n2 k2=>?_]);let l1:=D.len;let l2:=n2.len;let b0:=zC;refine#[r1,r2,_,_,Z,Z,k2 _ _ D.at',n2.at',by rw[Lw,Lw];omega,λr j=>q r (z1++z2) _ (by rw[jc,Mc]) (λy=>?_) (by rw[Ly];omega) ((z.trans k2).trans$ jf j)];rw[NZ,D.nm.mem y,n2.nm.mem y];exact Rk
 |loop p t T a qa as d h0 B h3=>refine(ju d Z #[_,Z,fq,λl N=>#[l,_,Z,.inr$ aC.of jc,Z,Z,_,Z,aX UM ?_]]);refine#[_,Z,Z,_,Z,aX UM ?_];refine#[_,Z,Z,_,Z,ci UM ?_];let S:ae H (af H l$ .tup [.str "set",.str "read",.str "call"]):=jf N;let h6:max (a.dep+1) 0 < n+1:=hd;let h7:a.size+0+1<=10000000:=hz;refine(ju (S _ _ d) Z #[lN,λe ne=>?_]);let z:=S.trans (jf (o:=.lst []) ne);refine#[qa,e,a,as,[],λ_=>False,Y,Z,z _ _ B,h3.mono$ ae.tm z,(NL.nu #[jc,Nm.empty,λ_ w=>w.elim,c.y20]),W.2.1,UK,UK,λr1 z1 I _ D k1=>?_];let l1:=D.len;let s3:=z.trans k1;let b0:=zC;refine#[_,Z,r1,g,_,_,Z,Z,D.at',s3 _ _ c.at',by rw[Lw,Lw];omega,λr j=>q r (z1++G) _ (by rw[jc,Mc]) (λy=>?_) (by rw[Ly];omega) (s3.trans$ jf j)];rw[NZ,D.nm.mem y,c.nm.mem y];exact Rk
theorem Dn(h:io H v s):∀c∈s.own,bh H c.2 c.1:=by
 cases h with
 |lf p l V _ d=>
  cases l with
  |rd x t T |st x t T |gv t T=>intro c hc;rw[τ.mp hc];exact d.2
  |wr t u T U=>
   intro c hc;rcases Ξ.mp hc with e |hc
   .rw[e];exact d.2.1
   .rw[τ.mp hc];exact d.2.2
  |cl x f q i=>exact d.2.2
 |ite p t T a b Q j A B _ g _ _ _ _ |loop p t T a Q A _ g _ _=>intro c hc;rw[τ.mp hc];exact g
theorem Do(h:io H v s)(o:s.Ok y):s.own.length<=100/\∀c∈s.own,dq y c.2:=by
 let O:∀(t:η) (T:Tm),dq y T->[(t,T)].length<=100/\∀c∈[(t,T)],dq y c.2:=λt T h=>#[by show 1<=100;omega,λc hc=>by rw[τ.mp hc];exact h];cases h with
 |lf p l V _ g=>
  cases l with
  |rd x t T |st x t T=>exact O t T o.1.2
  |wr t u T U=>
   refine#[by show 2<=100;omega,λc hc=>?_];rcases Ξ.mp hc with e |hc
   .rw[e];exact o.1.1
   .rw[τ.mp hc];exact o.1.2
  |cl x f q i=>exact#[LJ o.1.2.1 UJ,o.1.2.2]
  |gv t T=>exact O t T o.1
 |ite p t T a b Q j A B _ d _ _ _ _ |loop p t T a Q A _ d _ _=>exact O t T o.1
theorem zY:∀(a b c:Bd),(a.app b).app c=a.app (b.app c)
 | .nil,_,_=>rfl
 | .lf p l r,b,c=>by show Bd.lf p l ((r.app b).app c)=_;rw[zY r b c];rfl
 | .ite p t T x y r,b,c=>by show Bd.ite p t T x y ((r.app b).app c)=_;rw[zY r b c];rfl
 | .loop p t T x r,b,c=>by show Bd.loop p t T x ((r.app b).app c)=_;rw[zY r b c];rfl
theorem Jg:∀(a:Bd),a.app .nil=a
 | .nil=>rfl
 | .lf p l r=>by show Bd.lf p l (r.app .nil)=_;rw[Jg r]
 | .ite p t T x y r=>by show Bd.ite p t T x y (r.app .nil)=_;rw[Jg r]
 | .loop p t T x r=>by show Bd.loop p t T x (r.app .nil)=_;rw[Jg r]
inductive OI(v:V)(g r k:η)(s:Bd)(M:ρ->Prop)(b:Hp)(i:Nat)(n:_L.St)(a:Hp):Prop
 |mk(l:Option V)(m:List ρ)(d:n=[δ v,↑g,↑k,l])(e:a k=δ (.lst (m.map ri)))(f:∀y,y∈m↔s.bt M y∨∃c∈s.own.take i,y∈c.2.vars)(h:m.length<=50+21*i)(j:aD k b a)
theorem vN:ak ["statement","behind","names","term"] z3z (aa yY):=bJ
theorem uA{L:Nat}(F:rx K "used_ahead_of" yY f fd)(cB:Cl P w K mg base (L+9) fB f0 z3z (vY n) "used_behind_terms")(cO:Cl P w K mg base 1 fO f2 z4z nF "own_terms")(cN:Cl P w K mg base 7 fN f3 z2z (dm 6) "names_in")(m0:mg "list"=θ)(m2:mg "set"=θ)(m3:mg "sorted"=θ):ah P w K mg base aE (L+10) f fd z3z (gu n):=by
 refine F.ok vN λc0 A o1 s H vs Q E t h=>?_
 let⟨v,g,st,ss,M,Y,rfl,j,u,U,hd,hz,q⟩:=h;refine#[_,(jd (jy 2 vN.nd$ jE Jm Z m0 boot_list$ ja (cB.e t.m$ ja (pv 0)$ ja (pv 1) jb) jb)$ jd (ki Ml Z (zN$ cO.e t.m$ ja (pv 0) jb) (jw (i:=3) vN.nd Z$ Φ Z)$ jg$ jQ$ kM LM NP NO JC (pv 2)$ ja (cN.e t.m$ ja (pv 3) jb) jb)$ jg$ jo$ jF (ql Z) Z m3 Pt$ ja (jE (qW Z) Z m2 UC$ ja (pv 2) jb) jb),?_];refine aj λF1 C=>#[_,Z,_,Z,v,g,st,ss,M,Y,Z,j,u,U,hd,hz,λr1 G H1 e1 m1 l1 k1=>#[r1,_,Z,.inl$ aJ.of e1,λN I=>C _ _ ?_]];clear C;let s2:ae H (af H1 N$ .lst$ G.map ri):=k1.trans (jf I);let J:=j.mono (ae.tm s2);let⟨o2,O⟩:=Do j U;let a:af H1 N (.lst$ G.map ri) N=δ (.lst$ G.map ri):=jc;let h0:H N=θ:=k1.free I;generalize af H1 N (.lst$ G.map ri)=H2 at s2 J a;refine aj λF1 C=>?_;refine eQ λF kF=>#[_,Z,v,st,Z,J,λr H3 t W=>#[r,Z,#[_,aC.of t],kF _ _ ?_]];clear kF;let r0:r≠N:=jO t (W _ _ a) (by intro z;cases z);let s3:=s2.trans W;let b0:=zC;refine Jj (K:=K) (xs:=st.own.map rT) (OI v g r N st M H3) #[_,G,Z,W _ _ a,λy=>?_,UK,aD.refl] (λi σ H' hi h=>?_) ?_ (λσ H' h=>C _ _ ?_)
 .rw[m1 y];exact#[.inl,λz=>z.elim (λw=>w) λ#[c,p,_]=>absurd p Ma]
 .let⟨_,_,_,_,_,_,k⟩:=h;exact aC.of$ k _ _ r0 t
 .clear C;intro E _ i x σ H4 B fE Gq D h;let⟨o3,X,rfl,h1,R,h3,k4⟩:=h;rw[LK]at B;cases p:st.own[i]? with
  |none=>rw[p]at B;cases B
  |some c=>
   rw[p]at B;cases B;refine D ?_;clear D;let cm:=LS p;let hi:i < st.own.length:=by
    rcases O2 i st.own.length with z |z
    .exact z
    .rw[MM z]at p;cases p
   let tm:ai H3 H4:=λb xs e=>k4 b _ (jO e (W _ _ a) (by intro z;cases z)) e;show pO _ E [δ v,↑g,↑N,δ$ .ref c.1] H4;refine#[_,Z,.inl #[Z,_,aJ.of h1],_,Z,c.1,c.2,Y,Z,((Dn j c cm).mono$ ae.tm s3).mono tm,(O c cm).2,(O c cm).1,u.y20,λr5 s5 H5 n5 e5 d5 m5 o5 k5=>?_];let l5:s5.length<=21:=LJ (j9 d5 λx B=>kI (O c cm).1 x ((m5 x).mp B)) u.y20;refine#[N,r5,_,_,Z,Z,k5 _ _ h1,e5,by rw[Lw,Lw];omega,fE _ _ #[_,X++s5,Z,by rw[jc,Mc],λy=>?_,by rw[Ly];omega,λb o nb e=>?_]]
   .rw[NZ,R y,m5 y,M1,p];refine#[λz=>z.elim (λz=>z.elim .inl λ#[d,hd,w]=>.inr #[d,MV _ hd,w]) λw=>.inr #[c,LQ _$ τ.mpr Z,w],λz=>z.elim (λw=>.inl (.inl w)) λ#[d,hd,w]=>?_];rcases γ.mp hd with hd |hd
    .exact .inl$ .inr #[d,hd,w]
    .let ed:d=c:=τ.mp hd;rw[ed]at w;exact .inr w
   .rw[ji nb];exact k5 _ _$ k4 b o nb e
 .let⟨o3,X,rfl,h1,R,h3,k4⟩:=h;clear C;rw[Lw]at R h3;let s4:ae H H':=λb o e=>k4 b o (jl e h0) (s3 _ _ e);refine#[_,Z,N,X,Z,aJ.of h1,(λL nd j=>M7 (M6$ j9 nd j) (by show X.length+1 < 4096;omega)),λl L S h4 hm=>?_];let sub:∀y∈L,y∈Y:=λy hy=>Bd.use_in U u.sub y ((wF j M y).mpr (by let:=(R y).mp ((hm y).mp hy);rwa [MG]at this));let lL:=LJ (j9 h4 sub) u.y20;refine#[l,L,Z,jc,UK,λr' s0 T pm nd so=>?_];refine q r' s0 _ ((s4.trans$ jf S).free T) #[jc,#[pm.nodup_iff.mpr nd,so,λy=>?_],Bd.use_in U u.sub,u.y20] ((s4.trans$ jf S).trans$ jf T);rw[pm.mem_iff,hm y,R y,wF j M y,MG]
theorem none_of(s:ae H h)(n:h r=θ):H r=θ:=by
 cases z:H r with
 |none=>rfl
 |some o=>have:=s _ _ z;rw[n]at this;cases this
inductive UI(a g:η)(b:Bd)(p:List V)(M:ρ->Prop)(q:List ρ)(H:Hp)(i:Nat)(s:_L.St)(d:Hp):Prop
 |mk(n:η)(o:Option V)(c m:Bd)(r:List ρ)(e:s=[↑a,↑g,↑n,o])(f:b=c.app m)(h:dG H c (p.take (p.length - i)))(j:NL d n r (m.use M) q)(k:ae H d)(l:H n=θ)
theorem px:ak ["body","behind","names","statement"] z17z (aa yX):=bJ
theorem Dg{L:Nat}(F:rx K "used_ahead" yX f fd)(cU:Cl P w K mg base (L+10) fU f0 z3z (gu n) "used_ahead_of")(J:mg "sorted"=θ)(N:mg "reversed"=θ):ah P w K mg base aE (L+11) f fd z17z (iX$ n+1):=by
 refine F.ok px λc0 A O s H vs Q E hr h=>?_
 let⟨a,g,b,xs,R,M,Y,rfl,ha,hb,d,ho,hd,hz,q⟩:=h;refine#[_,(jd (jy 2 px.nd$ jF Xe Z J Pt$ ja (pv 1) jb)$ jd (ki Ml Z (@uI _ _ _ _ _ _ _ Z N Sb (pv 0) UJ UJ UN UN) (jw (i:=3) px.nd Z$ Φ Z)$ jg$ jy 2 px.nd$ cU.e hr.m$ ja (pv 3)$ ja (pv 2) jb)$ jg$ jo$ pv 2),?_];let g0:R.length<=21:=LJ (j9 d.nd λx o=>d.sub x ((d.mem x).mp o)) d.y20;let b0:=aI;refine aj λF1 t=>#[_,Z,g,R,Z,aJ.of d.at',UK,λl c nl pm so=>t _ _ ?_];clear t;let T:Nm c M:=#[pm.nodup_iff.mpr d.nd,so,λx=>pm.mem_iff.trans (d.mem x)];let U:ae H (af H l$ .lst$ c.map ri):=jf nl;let u:NL (af H l$ .lst$ c.map ri) l c M Y:=#[jc,T,d.sub,d.y20];generalize af H l (.lst$ c.map ri)=H1 at U u;let xl:=hb.len;refine aj λF1 t=>?_;refine eQ λF kF=>#[_,Z,a,xs,Z,aC.of$ U _ _ ha,kF _ _ ?_];clear kF;refine Xw (K:=K) (xs:=xs) (UI a g b xs M Y H) #[l,_,b,.nil,c,Z,(Jg b).symm,by rw[PJ,MG];exact hb,u,U,nl] (λi σ H' hi h=>?_) ?_ (λσ H' h=>t _ _ ?_)
 .let⟨_,_,_,_,_,_,_,_,_,k,_⟩:=h;exact aC.of$ k _ _ ha
 .clear t;intro E _ i x σ H2 o fE Gq p h;let⟨I,o3,pre,fh,W,rfl,j,y,X,B,n2⟩:=h;let hi:i < xs.length:=by
   rcases O2 i xs.length with z |z
   .exact z
   .rw[MM (by simpa using z)]at o;cases o
  rw[Oa hi]at o;let et:xs.take (xs.length - i)=xs.take (xs.length - (i+1))++[x]:=by
   let C:xs.length - i=(xs.length - 1 - i)+1:=by omega
   let e2:xs.length - (i+1)=xs.length - 1 - i:=by omega
   rw[C,e2,M1,o];rfl
  rw[et]at y;rcases y.last with ⟨e,_⟩ | ⟨ws,v,D,S,C,e2,h4,h5⟩
  .exact absurd e UL
  let⟨ew,ev⟩:=SQ C Z;cases ev;subst e2;let h0:=zO (j▸ho);let G:=zO h0.1;let a1:b.dep=max (D.app S).dep fh.dep:=by rw[j,zo]
  let a2:(D.app S).dep=max D.dep S.dep:=zo ..;let h6:S.dep<=b.dep:=by rw[a1,a2];exact LJ (OP ..)$ O7 ..
  clear a1 a2;let h7:S.size<=b.size:=by rw[j,jY,jY];omega
  refine p ?_;clear p;show eu _ _ E [↑a,↑g,↑I,δ x] H2;refine#[_,Z,_,Z,x,I,S,W,fh.use M,Y,Z,h5.mono$ ae.tm B,X,G.2,UK,UK,λr z H3 nr n3 k3=>fE _ _ #[r,_,D,S.app fh,z,Z,by rw[j,zY],?_,by rw[J1];exact n3,B.trans k3,none_of B nr]];rw[ew];exact h4
 .let⟨I,o3,pre,fh,W,rfl,j,y,X,B,n2⟩:=h;rw[O1]at y;let ep:pre= .nil:=by
   rcases y.last with ⟨_,e⟩ | ⟨ws,v,D,S,C,_⟩
   .exact e
   .exact absurd C UL
  rw[ep]at j;refine#[_,Z,q I W H' n2 ?_ B];rw[j];exact X
theorem CQ:ah P w K mg base aE k f e z17z (iX 0):=by
 let n:∀v H Q E,¬iX 0 v H Q E:=λv H Q E h=>by let⟨a,g,b,x,S,M,y,_,_,_,_,_,d,_⟩:=h;exact absurd d$ Oi _
 exact#[λv H Q E h=>absurd h (n v H Q E),λA o s H c u v Q E _ _ _ _ h=>absurd h (n v H Q E)]
theorem GP(F:rx K "used_ahead" yX f e)(FB:rx K "used_behind_terms" vq r g)(d:rx K "used_ahead_of" yY o b)
  (B:aw K e z17z []) (i:mg "used_ahead"=↑f) (j:aw K g z3z []) (k:mg "used_behind_terms"=↑r) (p:aw K b z3z []) (q:mg "used_ahead_of"=↑o) (C:Cl P w K mg base 1 u s z4z nF "own_terms") (l:Cl P w K mg base 7 v t z2z (dm 6) "names_in") (M:mg "list"=θ) (a:mg "set"=θ) (m:mg "sorted"=θ) (c:mg "reversed"=θ):
  ∀n:Nat,ah P w K mg base aE (3*n+8) f e z17z (iX n)/\ah P w K mg base aE (3*n+10) o b z3z (gu n)
 |0=>by let h:ah P w K mg base aE 8 f e z17z (iX 0):=CQ;let H:=uy (L:=8) (n:=0) FB #[h,B,F.kp,i];exact#[h,uA (L:=0) d #[H,j,FB.kp,k] C l M a m]
 |n+1=>by
  let I:=(GP F FB d B i j k p q C l M a m c n).2;let h:=Dg (L:=3*n) F #[I,p,d.kp,q] m c;let E:3*n+11=3*(n+1)+8:=by omega
  rw[E]at h;let H:=uy (L:=3*(n+1)+8) (n:=n+1) FB #[h,B,F.kp,i];exact#[h,uA (L:=3*(n+1)) d #[H,j,FB.kp,k] C l M a m]
noncomputable abbrev DF:cv:=bK 53
noncomputable abbrev vb:cv:=bK 56
noncomputable abbrev uZ:cv:=bK 57
noncomputable abbrev mq:cv:=bK 58
noncomputable abbrev vf:cv:=bK 59
noncomputable def Lf.cut:Lf->Nat
 | .st _ _ _=>0
 | .gv _ _=>0
 |_=>1
noncomputable def Bd.cuts:Bd->Nat
 | .nil=>0
 | .lf _ l r=>l.cut+r.cuts
 | .ite _ _ _ a b r=>1+a.cuts+b.cuts+r.cuts
 | .loop _ _ _ a r=>1+a.cuts+r.cuts
noncomputable def Bd.inn:Bd->Bd
 | .ite _ _ _ a b _=>a.app b
 | .loop _ _ _ a _=>a
 |_=>.nil
theorem zV:∀(a b:Bd),(a.app b).cuts=a.cuts+b.cuts
 | .nil,b=>by show b.cuts=0+b.cuts;omega
 | .lf _ l r,b=>by let:=zV r b;show l.cut+(r.app b).cuts=l.cut+r.cuts+b.cuts;omega
 | .ite _ _ _ x y r,b=>by let:=zV r b;show 1+x.cuts+y.cuts+(r.app b).cuts=1+x.cuts+y.cuts+r.cuts+b.cuts;omega
 | .loop _ _ _ x r,b=>by let:=zV r b;show 1+x.cuts+(r.app b).cuts=1+x.cuts+r.cuts+b.cuts;omega
inductive nq(b:List V)(H:Hp)(Q:VK)(a:XK):Prop
 |mk(v:V)(s:Bd)(_:b=[v])(_:io H v s)(_:s.size<=10000000)(_:∀(r:η) (xs:List V) (H':Hp),H' r=δ (.tup xs)->dG H' s.inn xs->ae H H'->Q (.ref r) H')
inductive gO(d:List V)(H:Hp)(Q:VK)(c:XK):Prop
 |mk(a:η)(b:Bd)(e:List V)(_:d=[.ref a])(_:H a=δ (.tup e))(_:dG H b e)(_:b.size<=10000000)(_:∀H',ae H H'->Q (.int (b.cuts:Int)) H')
theorem Gf:ak z4z z4z (aa DF):=bJ
theorem CY(F:rx K "bodies_in" DF f y):ah P w K mg base aE 1 f y z4z nq:=by
 refine F.ok Gf λC A o s H V Q E j h=>?_
 let⟨v,st,rfl,z,B,q⟩:=h;refine#[_,(jd (jx (kc$ jz$ pv 0) (jg$ jo$ jv j4 (jz$ pv 0)$ jz$ pv 0) jp)$ jd (jx (kc$ jz$ pv 0) (jg$ jo$ jz$ pv 0) jp)$ jg$ jo$ jh jb),?_];let D:=aI;cases z with
 |lf p l V c d=>
  cases l with
  |rd x t T |st x t T |wr t u T U |cl x f R S |gv t T=>let⟨rfl,_⟩:=d;refine(ju c Z #[Z,_,Z,aX UM ?_]);refine(ju c Z #[Z,_,Z,aX UM ?_]);exact#[lN,λr N=>q r [] _ jc Z (jf N)]
 |ite p t T a b e G g I c J d i m n=>refine(ju c Z #[Z,_,Z,ci UM ?_]);let L:a.size+b.size+0+1<=10000000:=B;let W:=m.len;let X:=n.len;exact(ju c Z$ ju c Z #[e,G,g,I,Z,Z,d,i,UK,λr M j s=>q r _ M j ((n.mono$ ae.tm s).app$ m.mono$ ae.tm s) s])
 |loop p t T a e g c J d i=>refine(ju c Z #[Z,_,Z,aX UM ?_]);refine(ju c Z #[Z,_,Z,ci UM ?_]);exact(ju c Z$ q e g H d i$ ae.refl H)
theorem Aj(h:io H v s):s.inn.size < s.size/\∃(p:η) (w:ρ) (r:List V),v= .ref p/\H p=δ (.tup (.str w::r))/\s.cuts=(if oU (.str w) [.str "set",.str "give"]=ν then 0 else 1)+s.inn.cuts:=by
 cases h with
 |lf p l i c d=>
  refine#[Nat.zero_lt_succ _,?_];cases l with
  |rd x t T |wr t u T U |cl x f Q j=>let⟨rfl,_⟩:=d;exact#[p,_,_,Z,c,by rw[LV UM];rfl]
  |st x t T |gv t T=>let⟨rfl,_⟩:=d;exact#[p,_,_,Z,c,by rw[LP UM];rfl]
 |ite p t T a b q k A B c e d g m n=>refine#[by show(a.app b).size < a.size+b.size+0+1;rw[jY];omega,p,_,_,Z,c,?_];rw[LV UM];show 1+a.cuts+b.cuts+0=1+(a.app b).cuts;rw[zV];omega
 |loop p t T a q A c e d g=>refine#[by show a.size < a.size+0+1;omega,p,_,_,Z,c,?_];rw[LV UM];show 1+a.cuts+0=1+a.cuts;omega
theorem fo:dO (v::y) 0=δ v:=jJ (j:=0) Z
inductive MI(a n:η)(b:Bd)(H:Hp)(m:Nat)(p:_L.St)(c:Hp):Prop
 |mk(l:Option V)(W:Bd)(o:List V)(k:Nat)(d:m=W.size)(e:p=[↑a,δ (.int (k:Int)),↑n,l])(f:c n=δ (.lst o))(g:dG c W o)(h:k+W.cuts=b.cuts)(i:W.size<=10000000)(j:aD n H c)
theorem iH:ak ["body","many","todo","statement"] ["body"] (aa vb):=bJ
theorem yo(F:rx K "many_cuts" vb f fd)(cB:Cl P w K mg base 1 fB f0 z4z nq "bodies_in")(m0:mg "list"=θ):ah P w K mg base aE 2 f fd ["body"] gO:=by
 refine F.ok iH λc0 A o1 s H vs Q E hr h=>?_
 let⟨a,b,xs,rfl,ha,hb,hz,q⟩:=h;refine#[_,(jd (jy 1 iH.nd je)$ jd (jy 2 iH.nd$ jE Jm Z m0 boot_list$ ja (pv 0) jb)$ jd (Kt Ml (@uN _ _ _ (pv 2) (λ_=>Z))$ jd (jy 3 iH.nd$ Ds LM PySem.F.slot_list_pop PySem.F.type_list_pop CM$ pv 2)$ jd (j3$ jx (jA Jl (jz$ pv 3) (jh$ ja jk$ ja jk jb) Z) (jg$ Dx (i:=1) iH.nd Z (Φ Z) je Cu) jp)$ jg$ jQ$ kM LM NP NO YK (pv 2)$ ja (cB.e hr.m$ ja (pv 3) jb) jb)$ jg$ jo$ pv 1),?_];let b0:=aI;refine aj λU d=>d _ _ ?_;clear d;refine aj λU d=>#[_,Z,a,_,Z,.inr$ aC.of ha,λt C=>d _ _ ?_];clear d;let s0:ae H (af H t$ .lst xs):=jf C;refine aj λU d=>?_;refine oM (MI a t b H) b.size #[_,b,xs,0,Z,Z,jc,hb.mono$ ae.tm s0,UK,hz,λc o N e=>s0 _ _ e] ?_;intro m σ D E _ fE F X Y Gq y h;let⟨o3,W,zs,k,rfl,rfl,x,h2,h3,h4,h5⟩:=h;refine y #[_,Z,!zs.isEmpty,.inl #[zs,aJ.of x,Z],?_];clear y;rcases h2.last with ⟨e1,e2⟩ | ⟨g,v,B,n,e1,e2,g1,g2⟩
 .rw[e1];refine Y _$ d _ _ #[_,Z,?_];rw[e2]at h3;let e3:k=b.cuts:=by let:k+0=b.cuts:=h3;omega
  rw[e3];exact q _ λc o e=>h5 c o (jl e C) e
 .rw[e1];let ne:(!(g++[v]).isEmpty)=ν:=by cases g<;>rfl
  rw[ne];refine X _ ?_;clear Y X d;let h6:W.size=B.size+n.size:=by rw[e2,jY]
  let h7:W.cuts=B.cuts+n.cuts:=by rw[e2,zV]
  let⟨h8,p,w',r,rfl,hp,hc⟩:=Aj g2;rw[e1]at x;refine aj λU d=>#[_,Z,.inl #[Z,_,aJ.of x],t,_,.ref p,Z,Z,x,UL,d _ _ ?_];clear d;rw[List.dropLast_concat];let T:ai D (af D t$ .lst g):=λc ys e=>by rw[ji$ jO e x (by intro z;cases z)];exact e
  let t2:af D t (.lst g) t=δ (.lst g):=jc;let u:=g1.mono T;let I:=g2.mono T;let J:=T _ _ hp;let k2:aD t H (af D t$ .lst g):=λc o N e=>by rw[ji N];exact h5 c o N e
  generalize af D t (.lst g)=H2 at t2 u I J k2;clear T x h2 h5 g1 g2 hp;let R:∀(j:Nat) (H3:Hp),ae H2 H3->j+B.cuts+n.inn.cuts=b.cuts->pO (Iq K "list" (iD K) (a9 2)$ am (dM nq [] E0$ am (a9 3) aL) aL) E [↑a,δ$ .int (j:Int),↑t,↑p] H3:=λj H3 L hk=>by
   let g0:=I.mono (ae.tm L);refine#[_,Z,.inl #[Z,_,aJ.of$ L _ _ t2],_,Z,.ref p,n,Z,g0,UK,λr' ys H4 h0 hy s4=>?_];let S:=L.trans s4;let l1:=u.len;let l2:=hy.len;refine#[t,r',g,ys,Z,Z,S _ _ t2,aC.of h0,UK,fE (B.app n.inn).size _ _ (by rw[jY];omega) #[_,B.app n.inn,g++ys,j,Z,Z,jc,?_,by rw[zV];omega,by rw[jY];omega,λc o N e=>?_]]
   .let M:ai H4 (af H4 t$ .lst$ g++ys):=λc z0 e=>by rw[ji$ jO e (S _ _ t2) (by intro z;cases z)];exact e
    exact(hy.mono M).app ((u.mono$ ae.tm S).mono M)
   .rw[ji N];exact S _ _$ k2 c o N e
  refine aj λU d=>dF (λO H'=>∃j:Nat,O=[↑a,δ$ .int (j:Int),↑t,↑p]/\ae H2 H'/\j+B.cuts+n.inn.cuts=b.cuts) (λE2 _ fm=>?_) λO H' h=>?_
  .clear d fE;refine oR λG X Y=>(ju J fo #[bL,λl nl=>#[l,_,Z,.inr$ aC.of jc,Z,Z,_,Z,?_]]);cases hv:oU (.str w') [.str "set",.str "give"] with
   |true=>rw[hv,LP Z]at hc;exact Y _$ fm _ _ #[k,Z,jf nl,UK]
   |false=>rw[hv,LV LD]at hc;refine X _ #[_,Z,_,_,Z,Z,fm _ _ #[k+1,?_,jf nl,UK]];show [_,δ$ rm ((k:Int)+1),_,_]=[_,δ$ rm ((k+1:Nat):Int),_,_];rfl
  .let⟨j,rfl,L,hk⟩:=h;exact d _ _$ R j H' L hk
end _K
namespace _K
open PySem PySem.Spec PyProof.Rows _L
variable {P:ψ}{w:bU}{K:β}{mg:ρ->Option ζ}{base:cJ}
inductive GY where
 |go (n:Int) |give (t:η)
structure Wy where
 sets:List (ρ×η)
 goal:GY
inductive Dd where
 |st (p:η) |ask (t:η)
structure Ct where
 M:ρ->Prop
 d:Dd
 ws:List Wy
structure Pc where
 M:ρ->Prop
 w:Wy
def aP(H:Hp):Tr->V->List V->Prop
 | .lf v,x,_=>x=v/\Lb v=ν
 | .tp l,x,_=>l.isL=ν/\∃a X,x= .ref a/\H a=δ (.tup X)/\aP H l .non X
 | .nil,_,X=>X=[]
 | .cons h t,_,X=>h.isL=μ/\t.isL=ν/\∃y Y,X=y::Y/\aP H h y []/\aP H t .non Y
theorem aP.mono(k:ai H d):∀{t:Tr} {x:V} {X:List V},aP H t x X->aP d t x X:=by
 intro t;induction t with
 |lf v |nil=>exactλh=>h
 |tp l f=>rintro x X ⟨h,a,Y,e,b,c⟩;exact#[h,a,Y,e,k _ _ b,f c]
 |cons h t i I=>rintro x X ⟨E,g,y,Y,e,b,c⟩;exact#[E,g,y,Y,e,i b,I c]
noncomputable def aH:List Tr->Tr
 | []=>.nil
 |t::T=>.cons t (aH T)
theorem QQ:∀t:List Tr,(aH t).isL=ν
 | []=>rfl
 |_::_=>rfl
noncomputable def aB(t:List Tr):Tr:=.tp (aH t)
noncomputable def aN(x:ρ):Tr:=.lf (.str x)
noncomputable def rW(a:η):Tr:=.lf (.ref a)
noncomputable def ay(n:Int):Tr:=.lf (.int n)
section
variable {H:Hp}
theorem jC:aP H (aH []) .non []:=rfl
theorem jm{t:Tr}(h:t.isL=μ)(a:aP H t y [])(b:aP H (aH T) .non Y):aP H (aH (t::T)) .non (y::Y):=#[h,QQ T,y,Y,Z,a,b]
theorem jD(h:H a=δ (.tup x))(b:aP H (aH t) .non x):aP H (aB t) (.ref a) []:=#[QQ t,a,x,Z,h,b]
theorem jR:aP H (aN x) (.str x) []:=#[Z,Z]
theorem Jw:aP H (rW a) (.ref a) []:=#[Z,Z]
theorem jV:aP H (ay n) (.int n) []:=#[Z,Z]
theorem J2(a:aP H (aH s) .non Y):∀{T:List Tr} {x:List V},aP H (aH T) .non x->aP H (aH$ T++s) .non (x++Y)
 | [],x,h=>by let e:x=[]:=h;rw[e];exact a
 |t::T,x,h=>by let⟨E,_,y,z,e,b,c⟩:=h;rw[e];exact jm E b (J2 a c)
theorem zp:∀{T:List Tr} {x:List V},aP H (aH T) .non x->x.length=T.length
 | [],x,h=>by let e:x=[]:=h;rw[e];rfl
 |t::T,x,h=>by let⟨_,_,y,z,e,_,a⟩:=h;rw[e,Md,Md,zp a]
theorem XC:∀(S:List ρ),aP H (aH$ S.map aN) .non (S.map ri)
 | []=>rfl
 |s::S=>jm Z jR (XC S)
theorem Zp:∀{T:List Tr} {x:List V},aP H (aH T) .non x->aP H (aH T.reverse) .non x.reverse
 | [],x,h=>by let e:x=[]:=h;rw[e];rfl
 |t::T,x,h=>by let⟨E,_,y,z,e,a,b⟩:=h;rw[e,Ot,Ot];exact J2 (jm E a jC)$ Zp b
theorem qP:∀{T:List Tr} {X:List V},aP H (aH T) .non X->∀(i:Nat) (x:V),X[i]?=δ x->∃t,T[i]?=δ t/\aP H t x []
 | [],X,h,i,x,a=>by let e:X=[]:=h;rw[e]at a;simp at a
 |t::T,X,h,0,x,a=>by let⟨_,_,y,z,e,b,c⟩:=h;rw[e]at a;cases a;exact#[t,Z,b]
 |t::T,X,h,i+1,x,a=>by let⟨_,_,y,z,e,b,c⟩:=h;rw[e]at a;simpa using qP c i x (by simpa using a)
end
noncomputable def Go(s:ρ×η):Tr:=aB [aN s.1,rW s.2]
noncomputable def xP:GY->Tr
 | .go n=>aB [aN "go",ay n]
 | .give t=>aB [aN "give",rW t]
noncomputable def ij(w:Wy):Tr:=aB [aB$ w.sets.map Go,xP w.goal]
noncomputable def Hf:Dd->Tr
 | .st p=>rW p
 | .ask t=>aB [aN "ask",rW t]
def ER(c:Ct):Tr:=aB [aB ((canon c.M).map aN),Hf c.d,aB$ c.ws.map ij]
theorem Co(g:GY):(xP g).isL=μ:=by cases g<;>rfl
theorem ET(d:Dd):(Hf d).isL=μ:=by cases d<;>rfl
def nQ(H:Hp)(p:Pc)(v:V)(g:η)(y:List ρ):Prop:=∃(r:η) (s:List ρ) (W:V),v= .ref r/\H r=δ (.tup [.ref g,W])/\NL H g s p.M y/\aP H (ij p.w) W []
theorem nQ.same(h:nQ H p v g y)(s:ae H a):nQ a p v g y:=by let⟨r,S,W,e,b,c,d⟩:=h;exact#[r,S,W,e,s _ _ b,c.same s,d.mono$ ae.tm s]
theorem nQ.but(h:nQ H p v g y)(k:aD f H c)(d:H f=δ (.lst C))(n:g≠f):nQ c p v g y:=by let⟨r,s,W,e,i,a,j⟩:=h;let t:ai H c:=λb x e=>k b _ (jO e d (by intro z;cases z)) e;exact#[r,s,W,e,t _ _ i,#[k _ _ n a.at',a.nm,a.sub,a.y20],j.mono t]
noncomputable def Lf.isCut:Lf->Bool
 | .st _ _ _=>μ
 | .gv _ _=>μ
 |_=>ν
noncomputable def Bd.deed:Bd->Dd
 | .lf p _ _=>.st p
 | .ite _ t _ _ _ _=>.ask t
 | .loop _ t _ _ _=>.ask t
 | .nil=>.st 0
inductive iM(b:List V)(H:Hp)(Q:VK)(a:XK):Prop
 |mk(v:V)(s:Bd)(_:b=[v])(_:io H v s)(_:∀(d:V) (H':Hp),aP H' (Hf s.deed) d []->ae H H'->Q d H')
inductive gr(b:List V)(H:Hp)(Q:VK)(a:XK):Prop
 |mk(t:η)(T:Tm)(c:List ρ)(_:b=[.ref t])(_:bh H T t)(_:dq c T)(_:c.length<=21)(_:∀(v:V) (g:η) (H':Hp),nQ H' #[λx=>x∈T.vars,#[[],.give t]] v g c->H g=θ->ae H H'->Q v H')
inductive pJ(K:β)(c:List V)(H:Hp)(Q:VK)(b:XK):Prop
 |mk(a:η)(_:c=[.ref a])(_:aC K H a [.str "num",.int 0])(_:∀(r:η),H r=θ->Q (.ref r) (af H r (.lst [])))
inductive pK(K:β)(b:List V)(H:Hp)(Q:VK)(a:XK):Prop
 |mk(t:η)(c:List ρ)(_:b=[.ref t])(_:aC K H t [.str "num",.int 0])(_:c.length<=21)(_:∀(v:V) (g:η) (H':Hp),nQ H' #[λx=>x∈(Tm.num 0).vars,#[[],.give t]] v g c->H g=θ->ae H H'->Q v H')
open Classical in
def iJ(x:ρ)(t:η)(p:Pc):Wy:=if p.M x then #[(x,t)::p.w.sets,p.w.goal] else p.w
inductive iU(d:List V)(H:Hp)(Q:VK)(a:XK):Prop
 |mk(v b:V)(p t:η)(x:ρ)(T:Tm)(c:Pc)(g:η)(e:List ρ)(_:d=[v,b])(_:io H v (.lf p (.st x t T) .nil))(_:nQ H c b g e)(_:x∈e)(_:dq e T)(_:c.w.sets.length<=10000000)(_:∀(v':V) (g':η) (H':Hp),nQ H' #[(Lf.st x t T).use c.M,iJ x t c] v' g' e->H g'=θ->ae H H'->Q v' H')
theorem DR:ak z4z z4z (aa uZ):=bJ
theorem yi(F:rx K "deed_of" uZ f e):ah P w K mg base aE 1 f e z4z iM:=by
 refine F.ok DR λC A o s H V Q E z h=>?_
 let⟨v,st,rfl,g,q⟩:=h;refine#[_,(jd (jx (jA za (jz$ pv 0) (jh$ ja jk$ ja jk jb) Z) (jg$ jo$ jh$ ja jk$ ja (jz$ pv 0) jb) jp)$ jg$ jo$ pv 0),?_];cases g with
 |lf p l V c d=>
  cases l with
  |rd x t T |st x t T |wr t u T U |cl x f B D |gv t T=>let⟨rfl,_⟩:=d;refine(ju c Z #[bL,λl n=>#[l,_,Z,.inr$ aC.of jc,Z,Z,_,Z,aX UM ?_]]);exact#[_,Z,q _ _ Jw$ jf n]
 |ite p t T a b i I j J c m d y L M |loop p t T a i j c m d y=>refine(ju c Z #[bL,λl n=>#[l,_,Z,.inr$ aC.of jc,Z,Z,_,Z,ci UM ?_]]);refine(ju (ar c n) Z #[bL,λr N=>?_]);exact q _ _ (jD jc$ jm Z jR$ jm Z Jw jC) ((jf n).trans$ jf N)
theorem C6{fN:η}{fdN:fy}(F:rx K "names_in" eI f b)(c:Cl P w K mg base (n+1) f b z2z (dm n) "names_in")(m:mg "set"=θ)(M:mg "sorted"=θ):ah P w K mg base aE (n+2) f b z2z (pJ K):=by
 refine F.ok vI (λC A o s H v Q E d h=>?_)
 let⟨a,rfl,g,q⟩:=h;refine#[_,(jd (jx (kc$ jz$ pv 0) (jg$ jo$ jI jb) jp)$ jd (jx (kc$ jz$ pv 0) (jg$ jo$ jI$ ja (jz$ pv 0) jb) jp)$ jg$ jo$ jF (ql Z) Z M Pt$ ja (jE (qW Z) Z m UC$ ja (jv qr (c.e d$ ja (jz$ pv 0) jb)$ c.e d$ ja (jz$ pv 0) jb) jb) jb),?_];refine#[_,Z,a,_,_,_,Z,Z,g,Z,Z,_,Z,ci UM ?_];exact#[lN,λr N=>q r N]
theorem pw:ak z2z z2z (aa mq):=bJ
theorem uu(F:rx K "place_of_give" mq f d)(C:Cl P w K mg base 7 U i z2z (dm 6) "names_in"):ah P w K mg base aE 8 f d z2z gr:=by
 refine F.ok pw λj A o s H V Q E l h=>?_
 let⟨t,T,y,rfl,p,O,b,q⟩:=h;refine#[_,(jg$ jo$ jh$ ja (C.e l.m$ ja (pv 0) jb)$ ja (jh$ ja (jh jb)$ ja (jh$ ja jk$ ja (pv 0) jb) jb) jb),?_];refine#[_,Z,t,T,y,Z,p,O.2,O.1,b,λg v a z B D M G I=>?_];let J:NL a g v (λx=>x∈T.vars) y:=#[B,#[D,G,M],kI O.1,b];refine#[lN,λe L=>#[_,Z,bL,λu c=>#[bL,λx N=>#[bL,λr n=>?_]]]];let S:ae a (af (af (af (af a e$ .tup []) u$ .tup [.str "give",.ref t]) x$ .tup [.ref e,.ref u]) r$ .tup [.ref g,.ref x]):=(((jf L).trans$ jf c).trans$ jf N).trans (jf n);refine q _ g _ #[r,_,.ref x,Z,jc,J.same S,?_] z (I.trans S);exact jD (ar jc n)$ jm Z (jD (ar (ar (ar jc c) N) n) jC)$ jm Z (jD (ar (ar jc N) n)$ jm Z jR$ jm Z Jw jC) jC
theorem C9(F:rx K "place_of_give" mq f j)(C:Cl P w K mg base 7 G l z2z (pJ K) "names_in"):ah P w K mg base aE 8 f j z2z (pK K):=by
 refine F.ok pw λp A o s H V Q E v h=>?_
 let⟨t,y,rfl,z,B,q⟩:=h;refine#[_,(jg$ jo$ jh$ ja (C.e v.m$ ja (pv 0) jb)$ ja (jh$ ja (jh jb)$ ja (jh$ ja jk$ ja (pv 0) jb) jb) jb),?_];refine#[_,Z,t,Z,z,λg a=>?_];let b:ae H (af H g$ .lst []):=jf a;let c:NL (af H g$ .lst []) g [] (λx=>x∈(Tm.num 0).vars) y:=#[jc,#[Pe,Z,λx=>Rk],λx h=>absurd h Ma,B];generalize af H g (.lst [])=d at b c;refine#[lN,λe D=>#[_,Z,bL,λu i=>#[bL,λx N=>#[bL,λr n=>?_]]]];let S:ae d (af (af (af (af d e$ .tup []) u$ .tup [.str "give",.ref t]) x$ .tup [.ref e,.ref u]) r$ .tup [.ref g,.ref x]):=(((jf D).trans$ jf i).trans$ jf N).trans (jf n);refine q _ g _ #[r,_,.ref x,Z,jc,c.same S,?_] a (b.trans S);exact jD (ar jc n)$ jm Z (jD (ar (ar (ar jc i) N) n) jC)$ jm Z (jD (ar (ar jc N) n)$ jm Z jR$ jm Z Jw jC) jC
end _K
namespace _K
open PySem PySem.Spec PyProof.Rows _L
variable {P:ψ}{w:bU}{K:β}{mg:ρ->Option ζ}{base:cJ}
theorem xQ{Y:List ρ}:oU (.str x) (Y.map ri)=decide (x∈Y):=by
 by_cases h:x∈Y
 .rw[LX h];unfold oU;rw[SR];exact#[.str x,dw.mpr #[x,h,Z],by simp [nR]]
 .rw[LL h];unfold oU;rw[SI];intro z;rw[SR]at z;let⟨v,a,e⟩:=z;let⟨y,H,rfl⟩:=dw.mp a;let E:x=y∨y=x:=by
   first
    |exact .inl (by simpa [nR] using e)
    |exact .inr (by simpa [nR] using e)
  rcases E with rfl |rfl
  .exact h H
  .exact h H
theorem Ee{H:Hp}{w:Wy}{v:V}(h:aP H (ij w) v []):∃(W s:η) (S:List V) (y:V),v= .ref W/\H W=δ (.tup [.ref s,y])/\H s=δ (.tup S)/\aP H (aH$ w.sets.map Go) .non S/\aP H (xP w.goal) y []:=by obtain⟨_,W,x,rfl,a,_,_,l,b,e,⟨_,s,S,c,d,f⟩,_,_,g,Y,E,i,j⟩:=h;let k:Y=[]:=j;rw[k]at E;rw[E]at e;rw[e,c]at a;exact#[W,s,S,g,Z,a,d,f,i]
theorem oH:ak ["statement","behind","way"] z3z (aa vf):=bJ
theorem yr(F:rx K "place_of_set" vf f fd)(cU:Cl P w K mg base 10 fU f0 z3z (gu 0) "used_ahead_of"):ah P w K mg base aE 11 f fd z3z iU:=by
 refine F.ok oH λc0 A O s H vs Q E hr h=>?_
 let⟨v,bv,p,t,x,T,C,g,Y,rfl,X,hp,hx,ok,hl,q⟩:=h;refine#[_,(jd (jy 2 oH.nd$ jz$ pv 1)$ jd (j3$ jx (jA za (jz$ pv 0) (jz$ pv 1) Z) (jg$ jy 2 oH.nd$ jh$ ja (jv j4 (jh$ ja (jK kO (pv 0) (jG je) jW) jb)$ jz$ pv 2)$ ja (jz$ pv 2) jb) jp)$ jg$ jo$ jh$ ja (cU.e hr.m$ ja (pv 0)$ ja (jz$ pv 1) jb)$ ja (pv 2) jb),?_];let b0:=aI;let⟨r,ss,wv,rfl,b,B,hW⟩:=hp;let h0:=X;cases X with
 |lf _ _ vs h1 h2=>
  let⟨rfl,hT⟩:=h2;let⟨wa,sa,sx,y,rfl,i,D,j,hy⟩:=Ee hW;refine aj λF1 d=>(ju b Z$ d _ _ ?_);clear d;let sl:=zp j;rw[Lw]at sl;refine aj λF1 d=>dF (λl I=>∃W:V,l=[↑p,↑r,δ W]/\aP I (ij$ iJ x t C) W []/\ae H I) (λE2 _ fm=>?_) λl I h=>?_
  .clear d;refine oR λG kT kF=>(ju h1 Z$ ju b Z #[g,_,Z,.inl$ aJ.of B.at',Z,QN _,_,Z,?_]);rw[xQ];by_cases a:x∈ss
   .rw[LX a];refine kT _ #[_,Z,_,Z,p,_,Z,h1,λs1 H1 J k1=>#[i8,λu nu=>?_]];let L:=k1.trans (jf (o:=.tup [.ref s1]) nu);refine(ju (L _ _ i) Z #[u,sa,_,_,Z,Z,jc,L _ _ D,by show 1+sx.length<=_;omega,λc H2 hc z=>?_]);let R:=L.trans z;refine(ju (R _ _ i) Z #[bL,λnw n=>fm _ _ #[.ref nw,Z,?_,R.trans$ jf n]]);let tm:=ae.tm (R.trans$ jf (o:=.tup [.ref c,y]) n);unfold iJ;rw[LP ((B.nm.mem x).mp a)];refine jD jc$ jm Z (jD (ar hc n)$ jm Z ?_$ j.mono tm)$ jm (Co _) (hy.mono tm) jC;exact jD (ar (z _ _$ ar J nu) n)$ jm Z jR$ jm Z Jw jC
   .rw[LL a];refine kF _$ fm _ _ #[_,Z,?_,ae.refl _];unfold iJ;rw[LV λw=>a ((B.nm.mem x).mpr w)];exact hW
  .let⟨W,rfl,S,k⟩:=h;refine d _ _ ?_;clear d;refine#[_,Z,ju (k _ _ b) Z #[.ref p,g,.lf p (.st x t T) .nil,ss,C.M,Y,Z,h0.mono$ ae.tm k,B.same k,#[#[hx,ok],trivial],(by show 0 < 1;decide),(by show 0+1<=10000000;decide),λg' zs H3 n3 N3 z=>?_]];refine#[_,Z,bL,λr' N=>q _ g' _ #[r',zs,W,Z,jc,N3.same$ jf N,S.mono$ ae.tm$ z.trans$ jf N] (k.free n3) ((k.trans z).trans$ jf N)]
noncomputable abbrev yR:cv:=bG (bK 60) 1
noncomputable abbrev yW:cv:=bG (bK 60) 2
noncomputable abbrev yS:cv:=bG (bK 60) 3
noncomputable abbrev yZ:cv:=bG (bK 60) 4
noncomputable abbrev u5:cv:=bG (bK 60) 0
def pL(m:Int)(p:η)(l:Lf)(q:Pc×List Ct):Pc×List Ct:=match l with
 | .gv t T=>(#[λx=>x∈T.vars,#[[],.give t]],q.2)
 | .st x t T=>(#[(Lf.st x t T).use q.1.M,iJ x t q.1],q.2)
 | .rd x t T=>(#[(Lf.rd x t T).use q.1.M,#[[],.go (m - (q.2.length:Int) - 1)]],q.2++[#[(Lf.rd x t T).use q.1.M,.st p,[q.1.w]]])
 | .wr t u T U=>(#[(Lf.wr t u T U).use q.1.M,#[[],.go (m - (q.2.length:Int) - 1)]],q.2++[#[(Lf.wr t u T U).use q.1.M,.st p,[q.1.w]]])
 | .cl x f a b=>(#[(Lf.cl x f a b).use q.1.M,#[[],.go (m - (q.2.length:Int) - 1)]],q.2++[#[(Lf.cl x f a b).use q.1.M,.st p,[q.1.w]]])
def pB(m:Int):Bd->Pc->List Ct->Pc×List Ct
 | .nil,c,f=>(c,f)
 | .lf p l r,c,f=>pL m p l (pB m r c f)
 | .ite p t T a b r,c,f=>
  let q:=pB m r c f
  let o:=pB m b q.1 q.2
  let s:=pB m a q.1 o.2
  (#[(Bd.ite p t T a b .nil).use q.1.M,#[[],.go$ m - (q.2.length:Int) - ((Bd.ite p t T a b .nil).cuts:Int)]],s.2++[#[(Bd.ite p t T a b .nil).use q.1.M,.ask t,[s.1.w,o.1.w]]])
 | .loop p t T a r,c,f=>
  let q:=pB m r c f
  let d:Pc:=#[(Bd.loop p t T a .nil).use q.1.M,#[[],.go$ m - (q.2.length:Int) - ((Bd.loop p t T a .nil).cuts:Int)]]
  let s:=pB m a d q.2
  (d,s.2++[#[(Bd.loop p t T a .nil).use q.1.M,.ask t,[s.1.w,q.1.w]]])
theorem Kn(m:Int):∀(a b:Bd) (c:Pc) (f:List Ct),pB m (a.app b) c f=pB m a (pB m b c f).1 (pB m b c f).2
 | .nil,_,_,_=>rfl
 | .lf p l r,b,c,f=>by show pL m p l (pB m (r.app b) c f)=pL m p l (pB m r _ _);rw[Kn m r b c f]
 | .ite p t T x y r,b,c,f=>by let e:=Kn m r b c f;show pB m (.ite p t T x y$ r.app b) c f=_;unfold pB;rw[e]
 | .loop p t T x r,b,c,f=>by let e:=Kn m r b c f;show pB m (.loop p t T x$ r.app b) c f=_;unfold pB;rw[e]
theorem km(m:Int):∀(b:Bd) (c:Pc) (F:List Ct),(pB m b c F).2.length=F.length+b.cuts
 | .nil,_,_=>rfl
 | .lf p l r,c,F=>by
  let e:=km m r c F;show(pL m p l$ pB m r c F).2.length=F.length+(l.cut+r.cuts);cases l with
  |rd x t T |wr t u T U |cl x f a d=>show((pB m r c F).2++[_]).length=F.length+(1+r.cuts);rw[Ly,e];show _+1=_;omega
  |st x t T |gv t T=>show(pB m r c F).2.length=F.length+(0+r.cuts);omega
 | .ite p t T x y r,c,F=>by let e:=km m r c F;show((pB m x _ (pB m y _ _).2).2++[_]).length=_;rw[Ly,km m x,km m y,e];show _+1=F.length+(1+x.cuts+y.cuts+r.cuts);omega
 | .loop p t T x r,c,F=>by let e:=km m r c F;show((pB m x _ _).2++[_]).length=_;rw[Ly,km m x,e];show _+1=F.length+(1+x.cuts+r.cuts);omega
theorem XD(x:ρ)(t:η)(p:Pc):(iJ x t p).sets.length<=p.w.sets.length+1:=by
 unfold iJ;split
 .exact Lx _
 .exact MZ _
theorem Zq(m:Int):∀(b:Bd) (a:Pc) (f:List Ct),(pB m b a f).1.w.sets.length<=a.w.sets.length+b.size
 | .nil,_,_=>Lx _
 | .lf p l r,a,f=>by
  let e:=Zq m r a f;show(pL m p l$ pB m r a f).1.w.sets.length<=a.w.sets.length+(r.size+1);cases l with
  |st x t T=>have:=XD x t (pB m r a f).1;show(iJ x t (pB m r a f).1).sets.length<=_;omega
  |_=>exact LF _
 | .ite p t T x y r,a,f=>LF _
 | .loop p t T x r,a,f=>LF _
theorem kQ:∀b:Bd,b.cuts<=b.size
 | .nil=>Lx _
 | .lf _ l r=>by
  let:=kQ r;let h:l.cut<=1:=by cases l<;>first |exact Lx _ |exact LF _
  show l.cut+r.cuts<=r.size+1;omega
 | .ite _ _ _ a b r=>by let:=kQ a;let:=kQ b;let:=kQ r;show 1+a.cuts+b.cuts+r.cuts<=a.size+b.size+r.size+1;omega
 | .loop _ _ _ a r=>by let:=kQ a;let:=kQ r;show 1+a.cuts+r.cuts<=a.size+r.size+1;omega
structure CK(K:β)(C:η):Prop where
 cl:pS K C
 nm:aW K C "many"
 nf:aW K C "found"
structure Cg(H:Hp)(C ia dx fa:η)(m:Int)(cts:List Ct)(cs:List V):Prop where
 ins:H ia=δ (.ins C dx [("many",.int m),("found",.ref fa)])
 fd:H fa=δ (.lst cs)
 tr:aP H (aH$ cts.map ER) .non cs
theorem Cg.same(h:Cg H C i d f m c a)(s:ae H b):Cg b C i d f m c a:=#[s _ _ h.ins,s _ _ h.fd,h.tr.mono$ ae.tm s]
theorem Cg.len(h:Cg H C i d f m c a):a.length=c.length:=by rw[zp h.tr,Lw]
theorem Cg.tm(h:Cg H C i d f m c g)(k:aD f H a):ai H a:=λb x e=>k b _ (jO e h.fd (by intro z;cases z)) e
structure wV(H:Hp)(C ia dx fa:η)(m:Int)(cts:List Ct)(cs:List V)(pc:Pc)(bv:V)(g:η)(ys:List ρ)(b:Bd):Prop where
 c:Cg H C ia dx fa m cts cs
 p:nQ H pc bv g ys
 ng:g≠fa
 ok:b.Ok ys
 sz:cts.length+pc.w.sets.length+b.size<=10000000
def sA(H:Hp)(C i d f:η)(m:Int)(y:List ρ)(q:Pc×List Ct)(Q:VK):Prop:=∀(v:V) (g:η) (c:List V) (h:Hp),nQ h q.1 v g y->g≠f->Cg h C i d f m q.2 c->aD f H h->Q v h
inductive nG(C:η)(n:Nat)(l:List V)(H:Hp)(Q:VK)(c:XK):Prop
 |mk(j h i a g:η)(m:Int)(d:List Ct)(f o:List V)(k:Pc)(e:V)(p:List ρ)(b:Bd)(_:l=[.ref j,.ref a,e])(_:wV H C j h i m d f k e g p b)(_:H a=δ (.tup o))(_:dG H b o)(_:b.dep < n)(_:sA H C j h i m p (pB m b k d) Q)
inductive DZ(C:η)(n:Nat)(j:List V)(H:Hp)(Q:VK)(a:XK):Prop
 |mk(h e f g:η)(m:Int)(b:List Ct)(d:List V)(i:Pc)(v c:V)(k:List ρ)(s:Bd)(_:j=[.ref h,v,c])(_:wV H C h e f m b d i c g k s)(_:io H v s)(_:s.dep < n+1)(_:sA H C h e f m k (pB m s i b) Q)
noncomputable def Bd.isCut:Bd->Bool
 | .lf _ l _=>l.isCut
 | .nil=>μ
 |_=>ν
inductive Ai(C:η)(n:Nat)(j:List V)(H:Hp)(Q:VK)(a:XK):Prop
 |mk(h e f g:η)(m:Int)(b:List Ct)(d:List V)(i:Pc)(v c:V)(k:List ρ)(s:Bd)(_:j=[.ref h,v,c])(_:wV H C h e f m b d i c g k s)(_:io H v s)(_:s.dep < n+1)(_:s.isCut=ν)(_:sA H C h e f m k (pB m s i b) Q)
def gV(m:Int)(c:Pc)(p:Pc)(f:List Ct):Bd->List Wy×List Ct
 | .ite _ _ _ a b _=>([(pB m a p (pB m b p f).2).1.w,(pB m b p f).1.w],(pB m a p (pB m b p f).2).2)
 | .loop _ _ _ a _=>([(pB m a c f).1.w,p.w],(pB m a c f).2)
 |_=>([p.w],f)
inductive D0(C:η)(n:Nat)(o:List V)(H:Hp)(Q:VK)(a:XK):Prop
 |mk(i e f g h:η)(m:Int)(b:List Ct)(d:List V)(j k:Pc)(v c l:V)(p:List ρ)(s:Bd)(_:o=[.ref i,v,l,c])(_:wV H C i e f m b d j c g p s)(_:nQ H k l h p)(_:h≠f)(_:k.w.sets=[])(_:io H v s)(_:s.dep < n+1)(_:∀(wv:V) (cs':List V) (H':Hp),aP H' (aB ((gV m k j b s).1.map ij)) wv []->Cg H' C i e f m (gV m k j b s).2 cs'->aD f H H'->Q wv H')
theorem Yf(h:io H v s)(g:s.isCut=ν)(m:Int)(c:Pc)(F:List Ct):
  pB m s c F=(#[s.use c.M,#[[],.go$ m - (F.length:Int) - (s.cuts:Int)]],(gV m #[s.use c.M,#[[],.go$ m - (F.length:Int) - (s.cuts:Int)]] c F s).2++[#[s.use c.M,s.deed,(gV m #[s.use c.M,#[[],.go$ m - (F.length:Int) - (s.cuts:Int)]] c F s).1]]):=by
 cases h with
 |lf p l V d e=>
  cases l with
  |rd x t T |wr t u T U |cl x f a k=>rfl
  |st x t T |gv t T=>cases g
 |ite p t T a b q Q A B d i e j n o |loop p t T a q A d i e j=>rfl
theorem wI(h:nQ H p v g y):∃(r:η) (W:V),v= .ref r/\H r=δ (.tup [.ref g,W])/\aP H (ij p.w) W []:=by let⟨r,s,W,e,a,c,b⟩:=h;exact#[r,W,e,a,b]
theorem Gm:ak ["self","statement","place","behind","other"] z22z (aa yZ):=bJ
theorem FJ(F:aQ K "ways_of" "Cutting.ways_of" yZ f fd)(X:CK K C)(GB:ah P w K mg base aE (4*n+31) fB f0 z13z (nG C n))(bB:aw K f0 z13z [])(hB:a8 K C "place_of_body" fB):ah P w K mg base aE (4*n+32) f fd z22z (D0 C n):=by
 refine F.ok Gm λc3 A o1 s H vs Q E hr h=>?_
 let⟨i,D,R,g,g2,m,d,S,y,pl,v,bv,G,Y,st,rfl,I,h6,n0,h7,hs,hd,q⟩:=h;refine#[_,(jd (jx (kc$ jz$ pv 1) (jd (jy 4 Gm.nd$ j7 (pv 0) X.cl hB GB hr.m bB .nil bH$ ja (jz$ pv 1)$ ja (pv 3) jb)$ jg$ jo$ jh$ ja (jr jM (j7 (pv 0) X.cl hB GB hr.m bB .nil bH$ ja (jz$ pv 1)$ ja (pv 3) jb) je (λ_ _=>Z))$ ja (jz$ pv 4) jb) jp)$ jd (jx (kc$ jz$ pv 1) (jg$ jo$ jh$ ja (jr jM (j7 (pv 0) X.cl hB GB hr.m bB .nil bH$ ja (jz$ pv 1)$ ja (pv 2) jb) je (λ_ _=>Z))$ ja (jz$ pv 3) jb) jp)$ jg$ jo$ jh$ ja (jz$ pv 3) jb),?_];let b0:=aI;let⟨br,bw,rfl,J,L⟩:=wI I.p;cases hs with
 |lf p l vs e M=>
  let f2:fi (bn$ am (dW (eh K) (a9 3)$ tC$ rm 1) aL) { nx:=λx H'=>Q V.non H',rt:=Q } [↑i,↑p,δ G,↑br,θ] H:=by refine(ju J Z #[i8,λr N=>q (.ref r) S _ (jD jc$ jm Z (L.mono$ ae.tm$ jf N) jC) (I.c.same$ jf N) (aD.of_same$ jf N)])
  cases l with
  |rd x t T |st x t T |wr t u T U |cl x f q2 ts |gv t T=>let⟨rfl,_⟩:=M;refine(ju e Z #[Z,_,Z,aX UM ?_]);refine(ju e Z #[Z,_,Z,aX UM ?_]);exact f2
 |ite p t T a b qa qb as bs e h0 M h3 h4 h5=>refine(ju e Z #[Z,_,Z,ci UM ?_]);let h8:max (max a.dep b.dep+1) 0 < n+1:=hd;let hz:d.length+y.w.sets.length+(a.size+b.size+0+1)<=10000000:=I.sz;let W:=I.ok;refine aj λF1 f1=>#[_,Z,i,D,_,Z,I.c.ins,Z,ju e Z #[_,Z,i,D,R,qb,g,m,d,S,bs,y,.ref br,Y,b,Z,#[I.c,I.p,I.ng,W.2.2.1,UK],h3,h5,UK,λv1 g1 j H1 p1 n1 O z=>f1 _ _ ?_]];clear f1;let B:=I.c.tm z;let lc:=km m b y d;let cb:=kQ b;refine#[_,Z,i,D,_,Z,O.ins,Z,ju (B _ _ e) Z #[_,Z,i,D,R,qa,g,m,_,j,as,y,.ref br,Y,a,Z,#[O,I.p.but z I.c.fd I.ng,I.ng,W.2.1,UK],B _ _ M,h4.mono B,UK,λv2 g2 c0 H2 p2 n2 c2 k2=>?_]];let⟨r2,w2,rfl,h',a0⟩:=wI p2;let⟨r1,w1,rfl,k,o⟩:=wI (p1.but k2 O.fd n1);refine#[r2,_,_,_,Z,Z,aC.of h',Z,ju k Z #[bL,λr N=>q (.ref r) c0 _ (jD jc$ jm Z (a0.mono$ ae.tm$ jf N)$ jm Z (o.mono$ ae.tm$ jf N) jC) (c2.same$ jf N) ((z.trans k2).trans$ aD.of_same$ jf N)]]
 |loop p t T a qa as e h0 M h3=>refine(ju e Z #[Z,_,Z,aX UM ?_]);refine(ju e Z #[Z,_,Z,ci UM ?_]);let h8:max (a.dep+1) 0 < n+1:=hd;let hz:d.length+y.w.sets.length+(a.size+0+1)<=10000000:=I.sz;let W:=I.ok;refine#[_,Z,i,D,_,Z,I.c.ins,Z,ju e Z #[_,Z,i,D,R,qa,g2,m,d,S,as,pl,G,Y,a,Z,#[I.c,h6,n0,W.2.1,by rw[h7];show d.length+0+a.size<=_;omega],M,h3,UK,λv1 g1 j H1 p1 n1 O z=>?_]];let⟨r1,w1,rfl,k,o⟩:=wI p1;let B:=I.c.tm z;refine#[r1,_,_,_,Z,Z,aC.of k,Z,ju (B _ _ J) Z #[bL,λr N=>q (.ref r) j _ (jD jc$ jm Z (o.mono$ ae.tm$ jf N)$ jm Z ((L.mono B).mono$ ae.tm$ jf N) jC) (O.same$ jf N) (z.trans$ aD.of_same$ jf N)]]
theorem vA:ak ["self","statement","behind","n","names","place","ways"] z7z (aa yS):=bJ
theorem FE(F:aQ K "place_of_cut" "Cutting.place_of_cut" yS f fd)(y:CK K C)(h7:n<=7)(GW:ah P w K mg base aE (4*n+32) fW f0 z22z (D0 C n))(bW:aw K f0 z22z [])(hW:a8 K C "ways_of" fW)(cM:Cl P w K mg base 2 fM f2 ["body"] gO "many_cuts")(cU:Cl P w K mg base 31 fU f3 z3z (gu 7) "used_ahead_of")(cD:Cl P w K mg base 1 fD f4 z4z iM "deed_of")(ml:mg "len"=θ)(m0:mg "tuple"=θ):ah P w K mg base aE (4*n+33) f fd z7z (Ai C n):=by
 refine F.ok vA λc0 A o1 s H vs Q E Y h=>?_
 let⟨z,L,l,g,m,a,cs,j,v,bv,ys,st,rfl,I,B,hd,hc,q⟩:=h;refine#[_,(jd (jy 3 vA.nd$ jv kj (jv kj (kU (pv 0) Z)$ jF jN Z ml ME$ ja (kU (pv 0) Z) jb)$ cM.e Y.m$ ja (jh$ ja (pv 1) jb) jb)$ jd (jy 4 vA.nd$ cU.e Y.m$ ja (pv 1)$ ja (jz$ pv 2) jb)$ jd (jy 5 vA.nd$ jh$ ja (pv 4)$ ja (jh$ ja (jh jb)$ ja (jh$ ja jk$ ja (pv 3) jb) jb) jb)$ jd (jy 6 vA.nd$ j7 (pv 0) y.cl hW GW Y.m bW .nil bH$ ja (pv 1)$ ja (pv 5)$ ja (pv 2) jb)$ jd (jQ$ kM LM L9 LZ jT (kU (pv 0) Z)$ ja (jh$ ja (jE jL Z m0 Ni$ ja (pv 4) jb)$ ja (cD.e Y.m$ ja (pv 1) jb)$ ja (pv 6) jb) jb)$ jg$ jo$ pv 5),?_];let b0:=aI;let⟨br,ss,bw,rfl,h0,hN,h1⟩:=id I.p;let hz:=I.sz;let lc:=I.c.len;refine aj λF1 i=>#[_,Z,z,C,L,_,_,Z,I.c.ins,y.cl,y.nm,Z,_,Z,z,C,L,_,_,Z,I.c.ins,y.cl,y.nf,Z,l,_,Z,.inl$ aJ.of I.c.fd,_,_,Z,Z,_,Z,i8,λu nu=>?_];let s1:ae H (af H u$ .tup [v]):=jf nu;refine#[u,st,_,Z,jc,(B.mono$ ae.tm s1).bd,UK,λH1 k1=>#[_,_,Z,Z,i _ _ ?_]];clear i;let S:=s1.trans k1;rw[lc];refine aj λF1 i=>#[_,Z,ju (S _ _ h0) Z #[v,g,st,ss,j.M,ys,Z,B.mono$ ae.tm S,hN.same S,I.ok,UK,UK,λG zs H2 n2 N2 k2=>i _ _ ?_]];clear i;let s3:=S.trans k2;let N:G≠l:=λe=>by rw[e,S _ _ I.c.fd]at n2;cases n2
 refine aj λF1 i=>#[_,Z,lN,λe ne=>#[_,Z,bL,λU O=>#[bL,λx nx=>#[bL,λr nr=>i _ _ ?_]]]];clear i;let s4:ae H2 (af (af (af (af H2 e$ .tup []) U$ .tup [.str "go",.int$ m - (a.length:Int) - (st.cuts:Int)]) x$ .tup [.ref e,.ref U]) r$ .tup [.ref G,.ref x]):=(((jf ne).trans$ jf O).trans$ jf nx).trans (jf nr);let P4:nQ (af (af (af (af H2 e$ .tup []) U$ .tup [.str "go",.int$ m - (a.length:Int) - (st.cuts:Int)]) x$ .tup [.ref e,.ref U]) r$ .tup [.ref G,.ref x]) #[st.use j.M,#[[],.go$ m - (a.length:Int) - (st.cuts:Int)]] (.ref r) G ys:=
  #[r,zs,.ref x,Z,jc,N2.same s4,jD (ar jc nr)$ jm Z (jD (ar (ar (ar jc O) nx) nr) jC)$ jm Z (jD (ar (ar jc nx) nr)$ jm Z jR$ jm Z jV jC) jC]
 generalize af (af (af (af H2 e$ .tup []) U$ .tup [.str "go",.int$ m - (a.length:Int) - (st.cuts:Int)]) x$ .tup [.ref e,.ref U]) r (.tup [.ref G,.ref x])=H4 at s4 P4;let R:=s3.trans s4;let c5:=I.c.same R;refine aj λF1 i=>#[_,Z,z,L,_,Z,c5.ins,Z,_,Z,_,Z,_,Z,z,L,l,g,G,m,a,cs,j,_,v,.ref br,.ref r,ys,st,Z,#[c5,I.p.same R,I.ng,I.ok,I.sz],P4,N,Z,B.mono$ ae.tm R,hd,λwv D H6 w6 c6 k6=>i _ _ ?_];clear i;let t0:=c5.tm k6;let p6:=P4.but k6 c5.fd N;let z6:H6 G=δ (.lst$ zs.map ri):=k6 _ _ N (s4 _ _ N2.at');let ez:=N2.nm.canon;let l6:=c6.len;let lw:(gV m #[st.use j.M,#[[],.go$ m - (a.length:Int) - (st.cuts:Int)]] j a st).2.length+1=a.length+st.cuts:=by let:=km m st j a;rw[Yf B hc m j a,Ly]at this;exact this
 let cl:=kQ st;refine aj λF1 i=>#[_,Z,z,C,L,_,_,Z,c6.ins,y.cl,y.nf,Z,.inl #[Z,_,aJ.of c6.fd],_,Z,G,_,Z,.inl #[aJ.of z6,λnt n0=>?_]];let s7:ae H6 (af H6 nt$ .tup$ zs.map ri):=jf n0;refine#[_,Z,v,st,Z,((B.mono$ ae.tm R).mono t0).mono$ ae.tm s7,λd H8 d8 k8=>#[_,Z,fq,λW J=>?_]];let X:=(s7.trans k8).trans (jf (o:=.tup [.ref nt,d,wv]) J);let t:=c6.same X;refine#[l,D,_,Z,Z,t.fd,UK,i _ _ ?_];clear i;let T9:aP (af H8 W$ .tup [.ref nt,d,wv]) (ER #[st.use j.M,st.deed,(gV m #[st.use j.M,#[[],.go$ m - (a.length:Int) - (st.cuts:Int)]] j a st).1]) (.ref W) []:=by refine jD jc$ jm Z (jD (ar (k8 _ _ jc) J) ?_)$ jm (ET _) (d8.mono$ ae.tm$ jf J)$ jm Z (w6.mono$ ae.tm X) jC;rw[<- ez];exact XC zs
 let p9:=p6.same X;generalize af H8 W (.tup [.ref nt,d,wv])=H9 at X t T9 p9;let k:aD l H9 (af H9 l$ .lst$ D++[.ref W]):=λb o nb e=>by rw[ji nb];exact e
 let T:=t.tm k;let n1:z≠l:=λe=>by let:=t.ins;rw[e,t.fd]at this;cases this
 refine#[_,Z,q (.ref r) G (D++[.ref W]) _ ?_ N ?_ (λb o nb e=>k b o nb (X _ _$ k6 b o nb$ R _ _ e))]
 .rw[Yf B hc m j a];exact p9.but k t.fd N
 .rw[Yf B hc m j a];refine#[k _ _ n1 t.ins,jc,?_];rw[Mc];exact J2 (jm Z (T9.mono T) jC)$ t.tr.mono T
inductive BI(C u j s a:η)(m:Int)(c:List Ct)(x:Pc)(f:V)(z:List ρ)(b:Bd)(y:List V)(H:Hp)(i:Nat)(A:_L.St)(e:Hp):Prop
 |mk(d t:Bd)(v:V)(g:η)(h:List V)(w:Option V)(k:A=[↑u,↑a,δ f,δ v,w])(l:b=d.app t)(n:dG H d (y.take (y.length - i)))(o:nQ e (pB m t x c).1 v g z)(p:g≠s)(q:Cg e C u j s m (pB m t x c).2 h)(r:aD s H e)
theorem J3(m:Int):∀(b:Bd) (c:Pc) (F:List Ct),(pB m b c F).2.length+(pB m b c F).1.w.sets.length<=F.length+c.w.sets.length+b.size
 | .nil,_,_=>Lx _
 | .lf p l r,c,F=>by
  let e:=J3 m r c F;show(pL m p l$ pB m r c F).2.length+(pL m p l$ pB m r c F).1.w.sets.length<=F.length+c.w.sets.length+(r.size+1);cases l with
  |st x t T=>have:=XD x t (pB m r c F).1;show(pB m r c F).2.length+(iJ x t (pB m r c F).1).sets.length<=_;omega
  |gv t T=>show(pB m r c F).2.length+0<=_;omega
  |rd x t T |wr t u T U |cl x f a d=>show((pB m r c F).2++[_]).length+0<=_;rw[Ly];show _+1+0<=_;omega
 | .ite p t T x y r,c,F=>by let e:=J3 m r c F;let h:=kQ x;let H:=kQ y;show((pB m x _ (pB m y _ _).2).2++[_]).length+0<=F.length+c.w.sets.length+(x.size+y.size+r.size+1);rw[Ly,km m x,km m y];show _+1+0<=_;omega
 | .loop p t T x r,c,F=>by let e:=J3 m r c F;let h:=kQ x;show((pB m x _ _).2++[_]).length+0<=F.length+c.w.sets.length+(x.size+r.size+1);rw[Ly,km m x];show _+1+0<=_;omega
theorem Ij:ak z7z z7z (aa yW):=bJ
theorem FG(F:aQ K "place_of" "Cutting.place_of" yW f fd)(ck:CK K C)(GC:ah P w K mg base aE (4*n+33) fC D z7z (Ai C n))(bC:aw K D z7z [])(hC:a8 K C "place_of_cut" fC)(cG:Cl P w K mg base 8 fG f0 z2z gr "place_of_give")(cS:Cl P w K mg base 11 fS f1 z3z iU "place_of_set"):ah P w K mg base aE (4*n+34) f fd z7z (DZ C n):=by
 refine F.ok Ij λc0 A O s H vs Q E G h=>?_
 let⟨r,J,fa,g,m,j,z,L,v,B,y,st,rfl,I,M,hd,q⟩:=h;refine#[_,(jd (jx (kc$ jz$ pv 1) (jg$ jo$ cG.e G.m$ ja (jz$ pv 1) jb) jp)$ jd (jx (kc$ jz$ pv 1) (jg$ jo$ cS.e G.m$ ja (pv 1)$ ja (pv 2) jb) jp)$ jg$ jo$ j7 (pv 0) ck.cl hC GC G.m bC .nil bH$ ja (pv 1)$ ja (pv 2) jb),?_];let hz:=I.sz;let R:=M;let i:st.isCut=ν->fi (wm C "place_of_cut" (Ai C n) [] E0 (a9 0)$ am (a9 1)$ am (a9 2) aL) { nx:=λx k=>Q V.non k,rt:=Q } [↑r,δ v,δ B] H:=λhc=>
  #[_,Z,r,J,_,Z,I.c.ins,Z,_,Z,_,Z,r,J,fa,g,m,j,z,L,v,B,y,st,Z,I,M,hd,hc,q]
 cases M with
 |lf p l vs d o=>
  cases l with
  |rd x t T |wr t u T U |cl x f q2 ts=>let⟨rfl,_⟩:=o;refine(ju d Z #[Z,_,Z,aX UM ?_]);refine(ju d Z #[Z,_,Z,aX UM ?_]);exact i Z
  |gv t T=>
   let⟨rfl,hT⟩:=o;refine(ju d Z #[Z,_,Z,ci UM ?_]);clear i;let Y:y.length<=21:=by let⟨_,_,_,_,_,hN,_⟩:=I.p;exact hN.y20
   exact(ju d Z #[t,T,y,Z,hT,I.ok.1,Y,λW X k p' N S=>q W X z k p' (λe=>by rw[e,I.c.fd]at N;cases N) (I.c.same S) (aD.of_same S)])
  |st x t T=>let⟨rfl,hT⟩:=o;refine(ju d Z #[Z,_,Z,aX UM ?_]);refine(ju d Z #[Z,_,Z,ci UM ?_]);clear i;exact#[_,Z,_,Z,.ref p,B,p,t,x,T,L,g,y,Z,R,I.p,I.ok.1.1,I.ok.1.2,UK,λW X k p' N S=>q W X z k p' (λe=>by rw[e,I.c.fd]at N;cases N) (I.c.same S) (aD.of_same S)]
 |ite p t T a b qa qb as bs d h0 o h3 h4 h5 |loop p t T a qa as d h0 o h3=>refine(ju d Z #[Z,_,Z,aX UM ?_]);refine(ju d Z #[Z,_,Z,aX UM ?_]);exact i Z
theorem y7:ak ["self","body","behind","place","statement"] z13z (aa yR):=bJ
theorem FD(F:aQ K "place_of_body" "Cutting.place_of_body" yR f fd)(ck:CK K C)(GO:ah P w K mg base aE (4*n+34) fO T z7z (DZ C n))(bO:aw K T z7z [])(hO:a8 K C "place_of" fO)(R:mg "reversed"=θ):ah P w K mg base aE (4*n+35) f fd z13z (nG C$ n+1):=by
 refine F.ok y7 λc1 A U s H vs Q E hr h=>?_
 let⟨r,J,V,a,g,m,d,cs,xs,l,L,Y,b,rfl,I,ha,hb,hd,q⟩:=h;refine#[_,(jd (jy 3 y7.nd$ pv 2)$ jd (ki Ml Z (@uI _ _ _ _ _ _ _ Z R Sb (pv 1) UJ UJ UN UN) (jw (i:=4) y7.nd Z$ Φ Z)$ jg$ jy 3 y7.nd$ j7 (pv 0) ck.cl hO GO hr.m bO .nil bH$ ja (pv 4)$ ja (pv 3) jb)$ jg$ jo$ pv 3),?_];let b0:=aI;let hz:=I.sz;let xl:=hb.len;refine aj λF1 u=>#[_,Z,u _ _ ?_];clear u;refine aj λF1 u=>?_;refine eQ λF kF=>#[_,Z,a,xs,Z,aC.of ha,kF _ _ ?_];clear kF;refine Xw (K:=K) (xs:=xs) (BI C r J V a m d l L Y b xs H) #[b,.nil,L,g,cs,_,Z,(Jg b).symm,by rw[PJ,MG];exact hb,I.p,I.ng,I.c,aD.refl] (λi σ H' hi h=>?_) ?_ (λσ H' h=>u _ _ ?_)
 .let⟨_,_,_,_,_,_,_,_,_,_,_,_,k⟩:=h;exact aC.of$ I.c.tm k _ _ ha
 .clear u;intro E _ i x σ H2 M fE Gq t h;let⟨pre,fh,v,W,o,o4,rfl,j,y,X,h4,N,O⟩:=h;let hi:i < xs.length:=by
   rcases O2 i xs.length with z |z
   .exact z
   .rw[MM (by simpa using z)]at M;cases M
  rw[Oa hi]at M;let et:xs.take (xs.length - i)=xs.take (xs.length - (i+1))++[x]:=by
   let D:xs.length - i=(xs.length - 1 - i)+1:=by omega
   let e2:xs.length - (i+1)=xs.length - 1 - i:=by omega
   rw[D,e2,M1,M];rfl
  rw[et]at y;rcases y.last with ⟨e,_⟩ | ⟨ws,v',B,S,D,e2,h6,h7⟩
  .exact absurd e UL
  let⟨ew,ev⟩:=SQ D Z;cases ev;subst e2;let h0:=zO (j▸I.ok);let G:=zO h0.1;let a1:b.dep=max (B.app S).dep fh.dep:=by rw[j,zo]
  let a2:(B.app S).dep=max B.dep S.dep:=zo ..;let h8:S.dep<=b.dep:=by rw[a1,a2];exact LJ (OP ..)$ O7 ..
  clear a1 a2;let h':b.size=B.size+S.size+fh.size:=by rw[j,jY,jY]
  let hl:=km m fh l d;let a0:=kQ fh;let a3:=Zq m fh l d;let a4:(pB m fh l d).1.w.sets.length+(pB m fh l d).2.length+S.size<=10000000:=by let:=J3 m fh l d;omega
  refine t ?_;clear t;let tm:=I.c.tm O;show eu _ _ E [↑r,↑a,δ L,δ v,δ x] H2;refine#[_,Z,r,J,_,Z,N.ins,Z,_,Z,_,Z,r,J,V,W,m,_,o,_,x,v,Y,S,Z,#[N,X,h4,G.2,UK],h7.mono tm,UK,λv3 g3 c0 H3 p3 n3 c3 k3=>fE _ _ #[B,S.app fh,v3,g3,c0,_,Z,by rw[j,zY],?_,by rw[Kn];exact p3,n3,by rw[Kn];exact c3,O.trans k3]];rw[ew];exact h6
 .let⟨pre,fh,v,W,o,o4,rfl,j,y,X,h4,N,O⟩:=h;rw[O1]at y;let ep:pre= .nil:=by
   rcases y.last with ⟨_,e⟩ | ⟨ws,v,B,S,D,_⟩
   .exact e
   .exact absurd D UL
  rw[ep]at j;refine#[_,Z,q v W o H' ?_ h4 ?_ O]
  .rw[j];exact X
  .rw[j];exact N
theorem Fv:ah P w K mg base aE k f i z13z (nG C 0):=by
 let n:∀v H Q E,¬nG C 0 v H Q E:=λv H Q E h=>by let⟨I,D,F,a,g,m,d,j,x,p,B,y,b,_,_,_,_,e,_⟩:=h;exact absurd e$ Oi _
 exact#[λv H Q E h=>absurd h (n v H Q E),λA o s H c u v Q E _ _ _ _ h=>absurd h (n v H Q E)]
theorem IU(c:CK K C)(FB:aQ K "place_of_body" "Cutting.place_of_body" yR g f)(F:aQ K "place_of" "Cutting.place_of" yW A a)(i:aQ K "place_of_cut" "Cutting.place_of_cut" yS D b)(j:aQ K "ways_of" "Cutting.ways_of" yZ E d)
  (B:aw K f z13z []) (H:a8 K C "place_of_body" g) (k:aw K a z7z []) (l:a8 K C "place_of" A) (o:aw K b z7z []) (p:a8 K C "place_of_cut" D) (q:aw K d z22z []) (r:a8 K C "ways_of" E)
  (s:Cl P w K mg base 2 T G ["body"] gO "many_cuts") (t:Cl P w K mg base 31 U I z3z (gu 7) "used_ahead_of") (u:Cl P w K mg base 1 Y J z4z iM "deed_of") (v:Cl P w K mg base 8 fG L z2z gr "place_of_give") (x:Cl P w K mg base 11 fS N z3z iU "place_of_set") (y:mg "len"=θ) (m:mg "tuple"=θ) (M:mg "reversed"=θ):
  ∀n:Nat,n<=8->ah P w K mg base aE (4*n+31) g f z13z (nG C n)
 |0,_=>Fv
 |n+1,h=>by
  let O:=IU c FB F i j B H k l o p q r s t u v x y m M n UK;let Q:=FJ j c O B H;let R:=FE i c UK Q q r s t u y m;let S:=FG F c R o p v x;let z:=FD FB c S k l M;let e:4*n+35=4*(n+1)+31:=by omega
  rw[e]at z;exact z
theorem Zr{X:Cx}{K:β}{n:Nat}(a:X.K=K)(b:X.calm=ν)(h:En X e t)
  (c:(assignEach e X.env).length=n) (H:(assignEach e X.env).findIdx? (·.1)=θ):PG X (.Tuple e k p) (rh K n t):=by
 subst a;exact zM b h c H
abbrev g3(K:β)(i j k:Nat):TG:=rh K 3 (dA (bE i)$ dA (bE j)$ dA (bE k) tH)
theorem HX{t:_L.St}(h:t.length=3):∃a b c,t=[a,b,c]:=by
 cases t with
 |nil=>cases h
 |cons a r=>
  cases r with
  |nil=>cases h
  |cons b R=>
   cases R with
   |nil=>cases h
   |cons c d=>
    cases d with
    |nil=>exact#[a,b,c,Z]
    |cons _ _=>cases h
noncomputable abbrev ve:cv:=bK 61
noncomputable abbrev pf:cv:=bK 62
structure Df where
 f:ρ
 p:η
 pa:η
 pb:η
 b:Bd
def Ay(H:Hp)(d:Df)(v:V):Prop:=∃B,v= .ref d.p/\H d.p=δ (.tup [.str d.f,.ref d.pa,.ref d.pb])/\H d.pb=δ (.tup B)/\dG H d.b B
def b6(H:Hp):List Df->List V->Prop
 | [],a=>a=[]
 |d::D,a=>∃v r,a=v::r/\Ay H d v/\b6 H D r
theorem Ay.mono(k:ai H a)(h:Ay H d v):Ay a d v:=by let⟨b,e,c,f,g⟩:=h;exact#[b,e,k _ _ c,k _ _ f,g.mono k]
theorem b6.mono(k:ai H b):∀{a:List V},b6 H D a->b6 b D a:=by
 induction D with
 |nil=>exactλh=>h
 |cons d D i=>rintro a ⟨v,r,e,c,f⟩;exact#[v,r,e,c.mono k,i f]
theorem b6.snoc{d:Df}(a:Ay H d v):∀{D:List Df} {b:List V},b6 H D b->b6 H (D++[d]) (b++[v])
 | [],_,h=>by let e:_=[]:=h;rw[e];exact#[v,[],Z,a,Z]
 |_::_,_,z=>by let⟨u,r,e,c,f⟩:=z;exact #[u,r++[v],by rw[e];rfl,c,b6.snoc a f]
theorem b6.len:∀{d:List Df} {v:List V},b6 H d v->v.length=d.length
 | [],_,h=>by let e:_=[]:=h;rw[e];rfl
 |_::_,_,z=>by let⟨u,r,e,b,a⟩:=z;rw[e,Md,Md,b6.len a]
theorem b6.at:∀{D:List Df} {b:List V},b6 H D b->∀(i:Nat) (v:V),b[i]?=δ v->∃d,D[i]?=δ d/\Ay H d v
 | [],_,h,i,v,a=>by let e:_=[]:=h;rw[e]at a;simp at a
 |d::_,_,q,0,v,a=>by let⟨u,r,e,c,f⟩:=q;rw[e]at a;cases a;exact#[d,Z,c]
 |_::D,_,q,i+1,v,a=>by let⟨u,r,e,c,f⟩:=q;rw[e]at a;simpa using b6.at f i v (by simpa using a)
def i9(d:Df):Prop:=(∃y:List ρ,y.length<=20/\d.b.Ok y)/\d.b.dep < 8/\d.b.size<=3000
noncomputable def Ia(n:η):Pc:=#[λx=>x∈(Tm.num 0).vars,#[[],.give n]]
def hV(n:η)(d:Df):Pc×List Ct:=pB (d.b.cuts:Int) d.b (Ia n) []
def eY(n:η)(d:Df):Tr:=aB [aN d.f,rW d.pa,ij (hV n d).1.w,aB ((hV n d).2.reverse.map ER)]
def n9(K:β)(n:η):Prop:=∀H:Hp,aC K H n [.str "num",.int 0]
inductive pI(C:η)(f:List V)(H:Hp)(Q:VK)(c:XK):Prop
 |mk(e d a:η)(b:Bd)(g:List V)(_:f=[.ref e,.ref a])(_:H e=δ (.ins C d []))(_:H a=δ (.tup g))(_:dG H b g)(_:b.size<=10000000)(_:∀(fa:η) (H':Hp),H fa=θ->Cg H' C e d fa (b.cuts:Int) [] []->aD e H H'->Q .non H')
inductive mG(K:β)(c:η)(e:List V)(H:Hp)(Q:VK)(a:XK):Prop
 |mk(d:Df)(b:List V)(_:e=[.str d.f,.ref d.pa,.ref d.pb])(_:H d.pb=δ (.tup b))(_:dG H d.b b)(_:i9 d)(_:∀(v:V) (H':Hp),aP H' (eY c d) v []->ae H H'->Q v H')
inductive mE(K:β)(e:η)(f:List V)(H:Hp)(Q:VK)(b:XK):Prop
 |mk(a:η)(c:List Df)(g:List V)(_:f=[.ref a])(_:H a=δ (.tup g))(_:b6 H c g)(_:c.length<=1000)(_:∀d∈c,i9 d)(_:∀(v:V) (H':Hp),aP H' (aB (c.map (eY e))) v []->ae H H'->Q v H')
theorem pZ{K:β}{t:TE}{Q:List V->Hp->Prop}{H:Hp}(x:H a=δ (.tup g))(u:b6 H D g)(R:D.length<=1000)
  (Pv:Nat->List V->Hp->Prop) (z:Pv 0 [] H) (A:∀i Y h,Pv i Y h->ae H h/\Y.length<=i)
  (C:∀i d B Y h,D[i]?=δ d->h d.pb=δ (.tup B)->dG h d.b B->Pv i Y h->t (δ (.str d.f)::δ (.ref d.pa)::δ (.ref d.pb)::l) h λy j=>Pv (i+1) (Y++[y]) j)
  (E:∀Y h,Pv D.length Y h->Q Y h):eU (wX K a) 3 l (g3 K 0 1 2) mJ t Q H:=by
 let F:=aI;let S:=u.len;refine#[λi m Y h=>m=D.length - i/\i<=D.length/\Pv i Y h,#[D.length,UL,LF _,z],?_];intro i m Y h c;let⟨rfl,T,p⟩:=c;let⟨s,U⟩:=A i Y h p;let c:aC K h a g:=aC.of (s _ _ x);by_cases n:i < D.length
 .let I:i < g.length:=by omega
  refine .inr #[#[g,g[i],c,Ls I],UK,Pv$ i+1,λJ j L=>#[D.length - (i+1),UK,Z,n,L],λv j W o y=>?_];let⟨e,y⟩:=y;subst e;let q:=y g c;let⟨d,r,B,rfl,M,N,O⟩:=(u.mono$ ae.tm s).at i v q;let⟨X,t2,t3,rfl⟩:=HX o;refine#[d.p,_,Z,aC.of M,Z,_,_,Z,_,_,Z,_,_,Z,Z,#[[δ _,δ _,δ _],Z,Z],?_];exact C i d B Y j r N O p
 .let e:i=D.length:=by omega
  subst e;exact .inl #[#[g,c,UK],E Y h p]
theorem Gi:ak ["self","body"] ["self","body"] (aa u5):=bJ
theorem C3(F:aQ K "__init__" "Cutting.__init__" u5 f t)(d:CK K C)(u:Cl P w K mg base 2 M v ["body"] gO "many_cuts"):ah P w K mg base aE 3 f t ["self","body"] (pI C):=by
 refine F.ok Gi λy A O s H V Q E B h=>?_
 let⟨i,D,a,b,x,rfl,G,I,J,L,q⟩:=h;refine#[_,(jd (@qp _ _ _ _ _ _ _ _ (pv 0) (u.e B.m$ ja (pv 1) jb) Z)$ jg$ @qp _ _ _ _ _ _ _ _ (pv 0) (jI jb) Z),?_];refine aj λS l=>#[_,Z,a,b,x,Z,I,J,L,λT k=>#[_,Z,i,C,D,_,Z,k _ _ G,d.cl,d.nm,UJ,l _ _ ?_]];clear l;refine#[lN,λg n=>#[_,Z,i,C,D,_,Z,ar jc n,d.cl,d.nf,(by show 1 < 1000;decide),?_]];let N:g≠i:=λe=>by rw[e,jc]at n;cases n
 let p:H g=θ:=by
  cases e:H g with
  |none=>rfl
  |some o=>rw[ji N,k _ _ e]at n;cases n
 refine q g _ p #[jc,by rw[ji N,jc],Z] λc o r e=>?_;rw[ji r,ji (λz=>by rw[z,p]at e;cases e),ji r];exact k _ _ e
theorem oG:ak ["name","params","body","cutting","first"] z19z (aa ve):=bJ
theorem yq(F:rx K "part_made" ve f fd)(t:CK K C)(mk:Mk K C fI)(GI:ah P w K mg base aE 3 fI u ["self","body"] (pI C))(bI:aw K u ["self","body"] [])(mC:mg "Cutting"=↑C)(M:mg "NOUGHT"=↑n)(no:n9 K n)(GB:ah P w K mg base aE 63 fB x z13z (nG C 8))(bB:aw K x z13z [])(hB:a8 K C "place_of_body" fB)(cG:Cl P w K mg base 8 fG f0 z2z (pK K) "place_of_give")(y:mg "tuple"=θ)(z:mg "reversed"=θ):ah P w K mg base aE 64 f fd z19z (mG K n):=by
 refine F.ok oG λc0 A O s H vs Q E B h=>?_
 let⟨d,G,rfl,hb,a,I,q⟩:=h;refine#[_,(jd (jy 3 oG.nd$ Q0 mk GI B.m Z mC bI .nil bH$ ja (pv 2) jb)$ jd (jy 4 oG.nd$ j7 (pv 3) t.cl hB GB B.m bB .nil bH$ ja (pv 2)$ ja (cG.e B.m$ ja (kh (v:=.ref n) Z M Z) jb) jb)$ jg$ jo$ jh$ ja (pv 0)$ ja (pv 1)$ ja (jz$ pv 4)$ ja (@rV _ _ _ _ _ _ _ _ _ Z Z y Ni Z z Sb (kU (pv 3) Z) UJ UJ UJ UJ UN UN UN UN) jb),?_];let b0:=aI;obtain⟨⟨ys,y0,ok⟩,J,hz⟩:=I;refine aj λF1 j=>#[_,Z,λi D N L n0=>?_];let S:ae H (af (af H D$ .own i) i$ .ins C D []):=λc o e=>by rw[ji$ jl e N,ji$ jl e L];exact e
 refine#[i,D,d.pb,d.b,G,Z,jc,S _ _ hb,a.mono$ ae.tm S,UK,λp H1 nf R k1=>#[Z,j _ _ ?_]];clear j;let s1:ae H H1:=λc o e=>k1 c o (jl e N) (S _ _ e);let T:H p=θ:=S.free nf;refine aj λF1 j=>#[_,Z,i,D,_,Z,R.ins,Z,_,Z,n,ys,Z,no _,UK,λv g H2 p2 n2 k2=>?_];let ng:g≠p:=λe=>by rw[e,R.fd]at n2;cases n2
 let U:=s1.trans k2;refine#[i,D,p,d.pb,g,_,[],[],G,Ia n,v,ys,d.b,Z,#[R.same k2,p2,ng,ok,by show 0+0+d.b.size<=_;omega],U _ _ hb,a.mono$ ae.tm U,J,λv3 g3 k V p3 n3 W k3=>j _ _ ?_];clear j;let⟨r3,w3,rfl,X,Y⟩:=wI p3;let s3:ae H V:=λc o e=>k3 c o (jl e T) (U _ _ e);refine#[_,Z,_,Z,ju X Z #[_,Z,i,C,D,_,_,Z,W.ins,t.cl,t.nf,Z,p,k,Z,aJ.of W.fd,λl nl=>#[su,λr nr=>?_]]];let s5:ae V (af (af V l$ .tup k.reverse) r$ .tup [.str d.f,.ref d.pa,w3,.ref l]):=(jf nl).trans (jf nr);refine q (.ref r) _ ?_$ s3.trans s5;refine jD jc$ jm Z jR$ jm Z Jw$ jm Z (Y.mono$ ae.tm s5)$ jm Z (jD (ar jc nr) ?_) jC;let e:=Zp (W.tr.mono$ ae.tm s5);rw[<- List.map_reverse]at e;exact e
theorem DS:ak ["program"] ["program"] (aa pf):=bJ
noncomputable def vQ:hG:=#[.function,[(".0",.local),("name",.local),("params",.local),("body",.local),("part_made",.globalImplicit)],μ,μ,[]]
theorem ua:(z19z:List ρ).Nodup:=by decide+kernel
theorem EO:bu ["program"] (aa pf) vQ z19z 3 []:=sr
theorem yn(F:rx K "made" pf f p)(C:Cl P w K mg base 64 U t z19z (mG K N) "part_made")(M:mg "tuple"=θ):ah P w K mg base aE 65 f p ["program"] (mE K N):=by
 refine F.ok DS λu A o s H V Q E x h=>?_
 let⟨a,D,X,rfl,g,y,B,O,q⟩:=h;refine#[_,(jg$ jo$ jE jL Z M Ni$ ja (@zi _ _ _ _ _ _ _ (z19z) (3) ([]) _ _ _ _ Z (zN$ pv 0) EO (λ_ _ _ _ _=>(Zr (K:=K) (n:=3) Z Z (jB (jw (i:=0) ua Z$ Φ Z)$ jB (jw (i:=1) ua Z$ Φ Z)$ jB (jw (i:=2) ua Z$ Φ Z) kE) Z Z)) (λ_ _ _ _ _=>(@zz _)) (λ_ _ _ _ _=>(C.e x.m$ ja (pv 0)$ ja (pv 1)$ ja (pv 2) jb)) (by intro _;rfl)) jb),?_];refine#[_,Z,a,Z,#[_,aC.of g],?_];refine pZ g y B (λi V b=>aP b (aH ((D.take i).map$ eY N)) .non V/\ae H b/\i<=D.length) #[Z,ae.refl _,LF _] (λi V b h=>#[h.2.1,?_]) (λi d G V b c I J h=>?_) (λV b h l L=>?_)
 .rw[zp h.1,Lw,Mb];exact O6 ..
 .let R:i < D.length:=by
   rcases O2 i D.length with z |z
   .exact z
   .rw[MM z]at c;cases c
  refine#[_,Z,_,Z,_,Z,d,G,Z,I,J,O d$ LS c,λv Y T j=>#[?_,h.2.1.trans j,R]];rw[M1,c,Mc];exact J2 (jm Z T jC)$ h.1.mono$ ae.tm j
 .refine#[l,V,Z,.inl #[aJ.of jc,λr S=>?_]];let s:ae b (af (af b l$ .lst V) r$ .tup V):=(jf L).trans (jf S);refine q (.ref r) _ (jD jc ?_)$ h.2.1.trans s;let e:=h.1;rw[MG]at e;exact e.mono$ ae.tm s
noncomputable abbrev vg:cv:=bK 69
noncomputable abbrev vh:cv:=bK 70
noncomputable abbrev o0:cv:=bK 71
def a6(p q:η)(H h:Hp):Prop:=∀b o,b≠p->b≠q->H b=δ o->h b=δ o
theorem a6.refl:a6 p q H H:=λ_ _ _ _ h=>h
theorem a6.trans(a:a6 p q H d)(b:a6 p q d e):a6 p q H e:=λc o n m h=>b c o n m (a c o n m h)
theorem aD.two(a:aD p H b):a6 p q H b:=λc o n _ h=>a c o n h
theorem a6.of_same(a:ae H b):a6 p q H b:=λc o _ _ h=>a c o h
theorem a6.at:a6 p q H (af H q o):=λb u _ m e=>by rw[ji m];exact e
def dD(H:Hp)(q:η):Prop:=∃k:Int,H q=δ (.lst [.int k])
theorem dD.new{o:HO}(h:dD H q)(n:H r=θ):dD (af H r o) q:=let #[k,e]:=h;#[k,ar e n]
theorem dD.ne(h:dD H q)(B:ap H p):q≠p:=by let⟨k,e⟩:=h;let⟨a,b,_,_,_,d⟩:=B.ob;exact jO e d (by intro z;cases z)
theorem dD.but(h:dD H q)(B:ap H p)(k:aD p H a):dD a q:=by let n:=h.ne B;let⟨z,e⟩:=h;exact#[z,k _ _ n e]
theorem a6.tm(k:a6 p q H h)(B:ap H p)(s:dD H q):ai H h:=λb x e=>by let⟨a,c,_,_,_,f⟩:=B.ob;let⟨z,g⟩:=s;exact k b _ (jO e f (by intro w;cases w)) (jO e g (by intro w;cases w)) e
noncomputable def gE(H:Hp)(q:η):Int:=match H q with
 |some (.lst [.int k])=>k
 |_=>0
theorem Jx{H:Hp}(e:H q=δ (.lst [.int k])):gE H q=k:=by unfold gE;rw[e]
theorem Yg{h:Hp}(s:dD H q)(k:∀o,H q=δ o->h q=δ o):gE h q=gE H q:=by let⟨z,e⟩:=s;rw[Jx e,Jx$ k _ e]
theorem kK(B:ap H p)(s:dD H q)(k:aD p H h):gE h q=gE H q:=Yg s λo e=>k _ _ (s.ne B) e
theorem ky(s:dD H q)(k:ae H h):gE h q=gE H q:=Yg s λo e=>k _ _ e
def GZ(H:Hp)(c:ρ×List ρ)(v:V):Prop:=∃p t,v= .ref p/\H p=δ (.tup [.str c.1,.ref t])/\H t=δ (.tup$ c.2.map ri)
def dP(H:Hp):List (ρ×List ρ)->List V->Prop
 | [],a=>a=[]
 |c::C,a=>∃v r,a=v::r/\GZ H c v/\dP H C r
theorem dP.mono(k:ai H b):∀{c:List (ρ×List ρ)} {a:List V},dP H c a->dP b c a
 | [],_,h=>h
 |_::_,_,z=>by obtain⟨v,r,e,⟨p,t,E,d,f⟩,g⟩:=z;exact #[v,r,e,#[p,t,E,k _ _ d,k _ _ f],dP.mono k g]
theorem dP.snoc(a:GZ H c v):∀{C:List (ρ×List ρ)} {b:List V},dP H C b->dP H (C++[c]) (b++[v])
 | [],_,h=>by let e:_=[]:=h;rw[e];exact#[v,[],Z,a,Z]
 |_::_,_,z=>by let⟨u,r,e,d,f⟩:=z;exact #[u,r++[v],by rw[e];rfl,d,dP.snoc a f]
theorem dP.len:∀{c:List (ρ×List ρ)} {v:List V},dP H c v->v.length=c.length
 | [],_,h=>by let e:_=[]:=h;rw[e];rfl
 |_::_,_,z=>by let⟨u,r,e,b,a⟩:=z;rw[e,Md,Md,dP.len a]
theorem dP.at:∀{C:List (ρ×List ρ)} {b:List V},dP H C b->∀(i:Nat) (v:V),b[i]?=δ v->∃c,C[i]?=δ c/\GZ H c v
 | [],_,h,i,v,a=>by let e:_=[]:=h;rw[e]at a;simp at a
 |c::_,_,q,0,v,a=>by let⟨u,r,e,d,f⟩:=q;rw[e]at a;cases a;exact#[c,Z,d]
 |_::C,_,q,i+1,v,a=>by let⟨u,r,e,d,f⟩:=q;rw[e]at a;simpa using dP.at f i v (by simpa using a)
theorem DB(h:dP H C a)(i:0<=k)(j:k < (a.length:Int)):∃v c,dO a k=δ v/\c∈C/\GZ H c v:=by
 let b:k.toNat < a.length:=by omega
 let d:k=((k.toNat:Nat):Int):=by omega
 let E:a[k.toNat]?=δ a[k.toNat]:=Ls b;let e:dO a ((k.toNat:Nat):Int)=δ a[k.toNat]:=jJ E;rw[<- d]at e;let⟨c,f,g⟩:=h.at _ _ E;exact#[_,c,e,LS f,g]
def Bd.fit(h:List (ρ×List ρ))(y:List ρ)(d:Nat)(b:Bd):Prop:=(b.Ok y/\b.Cs (h.map λc=>(c.1,c.2.length)))/\b.dep<=d
theorem Zs:Bd.fit h y d .nil:=#[#[trivial,trivial],LF _]
theorem Cd{H:List (ρ×List ρ)}{l:Lf}(h:l.Ok y)(k:l.Cs (H.map λc=>(c.1,c.2.length))):Bd.fit H y d (.lf p l .nil):=#[#[#[h,trivial],k,trivial],LF _]
theorem Zt{a b:Bd}(h:a.fit H y d)(k:b.fit H y d):(a.app b).fit H y d:=#[#[Km h.1.1 k.1.1,Kl h.1.2 k.1.2],by rw[zo];let:=h.2;let:=k.2;omega]
theorem xI{a b:Bd}(c:dq y T)(h:a.fit H y d)(k:b.fit H y d):Bd.fit H y (d+1) (.ite p t T a b .nil):=#[#[#[c,h.1.1,k.1.1,trivial],h.1.2,k.1.2,trivial],by show max (max a.dep b.dep+1) 0<=d+1;let:=h.2;let:=k.2;omega]
theorem tj{a:Bd}(H:dq y T)(h:a.fit b y d):Bd.fit b y (d+1) (.loop p t T a .nil):=#[#[#[H,h.1.1,trivial],h.1.2,trivial],by show max (a.dep+1) 0<=d+1;let:=h.2;omega]
noncomputable def IV:Nat->Nat
 |0=>1
 |d+1=>1+2*(5*IV d)
inductive iV(b:List V)(H:Hp)(Q:VK)(a:XK):Prop
 |mk(p g:η)(c:List ρ)(_:b=[.ref p,.ref g])(_:ap H p)(_:H g=δ (.lst (c.map ri)))(_:1<=c.length)(_:c.length<=20)(_:∀(r:η) (T:Tm) (H':Hp),bh H' T r->dq c T->ap H' p->aD p H H'->Q (.ref r) H')
structure nP(H:Hp)(p g h sp:η)(ys:List ρ)(hs:List (ρ×List ρ)):Prop where
 B:ap H p
 g:H g=δ (.lst$ ys.map ri)
 y1:1<=ys.length
 y2:ys.length<=20
 h:∃hv,H h=δ (.lst hv)/\dP H hs hv
 h1:1<=hs.length
 h2:hs.length<=20
 h3:∀c∈hs,c.2.length<=6
 s:dD H sp
theorem nP.gsp{H:Hp}{p g h S:η}{y:List ρ}{b:List (ρ×List ρ)}(G:nP H p g h S y b):g≠S:=by
 let⟨k,e⟩:=G.s;refine jO G.g e λz=>?_;injection z with z;let c:=G.y1
 match y,c,z with
 |a::r,_,z=>injection z with d _;cases d
theorem nP.hsp{H:Hp}{p g h S:η}{y:List ρ}{f:List (ρ×List ρ)}(G:nP H p g h S y f):h≠S/\h≠p:=by
 let⟨k,e⟩:=G.s;let⟨j,E,l⟩:=G.h;let⟨a,b,_,_,_,m⟩:=G.B.ob;let n:=G.h1;let:∃q r,j= .ref q::r:=by
  match f,n,l with
  |c::C,_,#[v,r,e,#[q,t,o,_],_]=>exact#[q,r,by rw[e,o]]
 let⟨q,r,rfl⟩:=this;refine#[jO E e λz=>?_,jO E m λz=>?_]
 .injection z with z;injection z with d _;cases d
 .injection z with z;injection z with d _;cases d
theorem nP.but2{H a:Hp}{p g h S:η}{y:List ρ}{b:List (ρ×List ρ)}(G:nP H p g h S y b)(B:ap a p)(s:dD a S)(k:a6 p S H a):nP a p g h S y b:=by let⟨c,e,E⟩:=G.h;exact#[B,k _ _ (qt G.B G.g) G.gsp G.g,G.y1,G.y2,#[c,k _ _ G.hsp.2 G.hsp.1 e,E.mono$ k.tm G.B G.s],G.h1,G.h2,G.h3,s]
theorem nP.but{H a:Hp}{p g h S:η}{y:List ρ}{b:List (ρ×List ρ)}(G:nP H p g h S y b)(B:ap a p)(k:aD p H a):nP a p g h S y b:=G.but2 B (G.s.but G.B k) k.two
inductive lK(n:Nat)(f:List V)(H:Hp)(Q:VK)(a:XK):Prop
 |mk(p g h e:η)(d:Nat)(i:List ρ)(c:List (ρ×List ρ))(_:f=[.ref p,.ref g,.ref h,.ref e,.int (d:Int)])(_:nP H p g h e i c)(_:d < n)(_:0 < gE H e)(_:∀(r:η) (b:Bd) (H':Hp),dG H' b [.ref r]->(b.size:Int)+gE H' e<=gE H e->0<=gE H' e->b.fit c i d->ap H' p->dD H' e->a6 p e H H'->Q (.ref r) H')
inductive gM(n:Nat)(f:List V)(H:Hp)(Q:VK)(a:XK):Prop
 |mk(p g h e:η)(d:Nat)(i:List ρ)(c:List (ρ×List ρ))(_:f=[.ref p,.ref g,.ref h,.ref e,.int (d:Int)])(_:nP H p g h e i c)(_:d < n)(_:0<=gE H e)(_:∀(r:η) (b:Bd) (bs:List V) (H':Hp),H' r=δ (.tup bs)->dG H' b bs->(b.size:Int)+gE H' e<=gE H e->0<=gE H' e->b.fit c i d->ap H' p->dD H' e->a6 p e H H'->Q (.ref r) H')
theorem vM:ak ["_law_box_here","_law_names_here","_law_kind"] z26z (aa vg):=bJ
theorem yt(F:rx K "_law_spot" vg f M)(C:Cl P w K mg base 1 Y N z0z aZ "_law_take")(O:Cl P w K mg base 6 fM R z12z (cy 4) "_law_term"):ah P w K mg base aE 7 f M z26z iV:=by
 refine F.ok vM λS A o s H vs Q E a h=>?_
 let⟨p,g,y,rfl,B,I,i,j,q⟩:=h;refine#[_,(jd (jy 2 vM.nd$ C.e a.m$ ja (pv 0)$ ja je jb)$ jd (jx (jA Qm (pv 2) je$ aG _) (jg$ jo$ O.e a$ ja (pv 0)$ ja (pv 1)$ ja je jb) jp)$ jd (jx (ze$ pv 2) (jg$ jo$ jh$ ja jk$ ja (jv kj (jv kj (jv Jv je je) je)$ C.e a.m$ ja (pv 0)$ ja je jb) jb) jp)$ jg$ jo$ jh$ ja jk$ ja (C.e a.m$ ja (pv 0)$ ja je jb) jb),?_];let k:g≠p:=qt B I;refine#[_,Z,p,8,Z,B,UJ,UJ,λkd J k0 k1 l L=>?_];let t:J g=δ (.lst$ y.map ri):=by rw[L g k];exact I
 let u:aD p H J:=aD.of_eq L;refine#[_,Z,_,_,Z,Z,_,Z,?_];refine bV (λc=>?_) (λc=>?_)
 .exact#[_,Z,_,Z,p,g,1,y,Z,l,t,i,j,UJ,UJ,λr T v U dT W b X=>q r T v U #[W,UK] b (u.trans X)]
 refine#[_,Z,Z,_,Z,?_];refine bV (λc=>?_) (λc=>?_)
 .refine#[_,_,Z,Z,#[UJ,UJ,UJ],_,_,Z,Z,_,Z,p,4,Z,l,UJ,UJ,λD v d x b z=>#[_,_,Z,Z,bL,λr n=>?_]];exact q r (.num (1000000000000000000 - 1 - D)) _ jc #[#[UK,UK],(by show 0 < 6;decide)] (b.upd_new n) ((u.trans$ aD.of_eq z).upd_new n)
 .refine#[_,Z,p,12,Z,l,UJ,UJ,λD v d x b z=>#[bL,λr n=>?_]];exact q r (.num D) _ jc #[#[d,UK],(by show 0 < 6;decide)] (b.upd_new n) ((u.trans$ aD.of_eq z).upd_new n)
theorem lI:ak z38z z5z (aa vh):=bJ
noncomputable def sd:hG:=#[.function,[(".0",.local),("_law_one",.local),("_law_term",.globalImplicit),("_law_box_here",.free),("_law_names_here",.free)],μ,μ,[]]
theorem CN:(z33z:List ρ).Nodup:=by decide+kernel
theorem BV:bu z38z (aa vh) sd z33z 1 [0,1]:=sr
def RH(p g h s:η)(d:Nat)(k:Int)(y:ρ)(H:Hp)(a:_L.St)(b:Hp):Prop:=a=[↑p,↑g,↑h,↑s,δ$ .int (d:Int),δ$ .int k,δ$ .str y,θ,θ,θ]/\b=H
theorem Dc(F:rx K "_law_statement" vh f fd)(cT:Cl P w K mg base 1 fT f0 z0z aZ "_law_take")(cM:Cl P w K mg base 6 fM f3 z12z (cy 4) "_law_term")(cP:Cl P w K mg base 7 fP f4 z26z iV "_law_spot"){L:Nat}(cB:Cl P w K mg base (L+9) fB f5 z5z (gM n) "_law_body")(ml:mg "len"=θ)(m0:mg "tuple"=θ):ah P w K mg base aE (L+10) f fd z5z (lK$ n+1):=by
 refine F.ok lI λc3 A o2 s H vs Q E U h=>?_
 let⟨p,g,h,S,d,ys,hs,rfl,G0,hd,b7,q⟩:=h;refine#[_,(jd (jy 5 lI.nd$ cT.e U.m$ ja (pv 0)$ ja je jb)$ jd (jy 6 lI.nd$ jr jq (pv 1) (cT.e U.m$ ja (pv 0)$ ja (jF jN Z ml ME$ ja (pv 1) jb) jb) (λ_ _=>Z))$ jd (zf (jv kj (jr jq (pv 3) je (λ_ _=>Z)) je)$ qO (pv 3) je zB)$ jd (jx (jA Qm (pv 5) je$ aG _) (jg$ jo$ jh$ ja jk$ ja (pv 6)$ ja (cP.e U.m$ ja (pv 0)$ ja (pv 1) jb) jb) jp)$ jd (jx (PW.pt$ Ka (ze$ pv 5)$ Jt$ ze$ pv 5) (jg$ jo$ jh$ ja jk$ ja (cP.e U.m$ ja (pv 0)$ ja (pv 1) jb)$ ja (cM.e U.m$ ja (pv 0)$ ja (pv 1)$ ja je jb) jb) jp)$ jd (jx (PW.pt$ Ka (ze$ pv 5)$ Jt$ ze$ pv 5) (jd (zf (jr jq (pv 2) (cT.e U.m$ ja (pv 0)$ ja (jF jN Z ml ME$ ja (pv 2) jb) jb) (λ_ _=>Z))$ zM (n:=2) Z$ jB (jw (i:=7) lI.nd Z$ Φ Z)$ jB (jw (i:=8) lI.nd Z$ Φ Z) kE)$ jg$ jo$ jh$ ja jk$ ja (pv 6)$ ja (pv 7)$ ja (jE jL Z m0 Ni$ ja (@zi _ _ _ _ _ _ _ (z33z) (1) ([0,1]) _ _ _ _ Z (zN$ pv 8) BV (λ_ _ _ _ _=>(jw (i:=0) CN Z$ Φ Z)) (λ_ _ _ _ _=>(@zz _)) (λ_ _ _ _ _=>(cM.e U.m$ ja (pv 1)$ ja (pv 2)$ ja je jb)) (by intro _;rfl)) jb) jb) jp)$ jd (j3$ jx (PW.pt$ Ju (ze$ pv 5)$ qA$ jA qX (pv 4) je$ aG _) (jd (jy 9 lI.nd$ cB.e U$ ja (pv 0)$ ja (pv 1)$ ja (pv 2)$ ja (pv 3)$ ja (jv kj (pv 4) je) jb)$ jg$ jo$ jh$ ja jk$ ja (cM.e U.m$ ja (pv 0)$ ja (pv 1)$ ja je jb)$ ja (pv 9)$ ja (cB.e U$ ja (pv 0)$ ja (pv 1)$ ja (pv 2)$ ja (pv 3)$ ja (jv kj (pv 4) je) jb) jb) jp)$ jd (j3$ jx (PW.pt$ Ju (ze$ pv 5)$ qA$ jA qX (pv 4) je$ aG _) (jg$ jo$ jh$ ja jk$ ja (cM.e U.m$ ja (pv 0)$ ja (pv 1)$ ja je jb)$ ja (cB.e U$ ja (pv 0)$ ja (pv 1)$ ja (pv 2)$ ja (pv 3)$ ja (jv kj (pv 4) je) jb) jb) jp)$ jd (jx (ze$ pv 5) (jg$ jo$ jh$ ja jk$ ja (cM.e U.m$ ja (pv 0)$ ja (pv 1)$ ja je jb) jb) jp)$ jg$ jo$ jh$ ja jk$ ja (pv 6)$ ja (cM.e U.m$ ja (pv 0)$ ja (pv 1)$ ja je jb) jb),?_];let b9:=aI;let B:=G0.B;let c4:g≠p:=qt B G0.g;refine aj λF1 u=>#[_,Z,p,10,Z,B,UJ,UJ,λkd H1 k0 k1 B1 e1=>u _ _ ?_];clear u;let G1:=G0.but B1 (aD.of_eq e1);let y1:=G0.y1;let y2:=G0.y2;refine aj λF1 u=>#[_,Z,_,Z,_,Z,g,_,Z,.inl$ aJ.of G1.g,p,_,Z,B1,by rw[Lw];omega,by rw[Lw];omega,λd2 H2 d1 d0 B2 e2=>?_];rw[Lw]at d0;let G2:=G1.but B2 (aD.of_eq e2);let⟨y,hy,a2⟩:=Kk (ys:=ys) d1 d0;refine#[g,_,_,_,Z,Z,aJ.of G2.g,a2,u _ _ ?_];clear u;let⟨k,hk⟩:=G2.s;let ek:gE H S=k:=((kK B1 G1.s$ aD.of_eq e2).trans$ kK B G0.s$ aD.of_eq e1).symm.trans (Jx hk);refine aj λF1 u=>#[_,Z,S,_,_,_,Z,Z,aJ.of hk,Z,_,_,Z,Z,_,Z,S,_,_,0,Z,Z,hk,Z,u _ _ ?_];clear u;let s0:=G2.s.ne B2;let B3:ap (af H2 S$ .lst ([.int k].set 0 (.int$ k - 1))) p:=B2.eq (ji$ Me s0);let s3:dD (af H2 S$ .lst ([.int k].set 0 (.int$ k - 1))) S:=#[k - 1,jc];let K3:a6 p S H (af H2 S$ .lst ([.int k].set 0 (.int$ k - 1))):=((aD.of_eq e1).trans$ aD.of_eq e2).two.trans a6.at;let G:=G0.but2 B3 s3 K3;let e3:gE (af H2 S$ .lst ([.int k].set 0 (.int$ k - 1))) S=k - 1:=Jx jc;generalize af H2 S (.lst ([.int k].set 0 (.int$ k - 1)))=H3 at B3 s3 K3 G e3;let l0:∀(l:Lf) (M:List V) (j:Hp) (r:η),wY j l M->l.Ok ys->l.Cs (hs.map λc=>(c.1,c.2.length))->nP j p g h S ys hs->a6 p S H j->gE j S=k - 1->j r=θ->Q (.ref r) (af j r$ .tup M):=λl M j r hl ok cs C K4 e4 nr=>
  q r (.lf r l .nil) _ #[M,[],Z,jc,hl.mono$ ae.tm$ jf nr,Z] (by rw[ky C.s$ jf nr];show((0+1:Nat):Int)+_<=_;omega) (by rw[ky C.s$ jf nr];omega) (Cd ok cs) (C.B.upd_new nr) (C.s.new nr) (K4.trans$ a6.of_same$ jf nr)
 refine aj λF1 u=>om λG' D=>#[_,Z,_,_,Z,Z,_,Z,D _ _ ?_];clear D;refine bV (λc=>?_) (λc=>u _ _ ?_)
 .refine#[_,Z,_,Z,_,Z,p,g,ys,Z,G.B,G.g,y1,y2,λr T j W oT B4 J=>#[fq,λt N=>?_]];exact l0 (.rd y r T) _ j t #[Z,W] #[hy,oT] trivial (G.but B4 J) (K3.trans J.two) ((kK G.B G.s J).trans e3) N
 let wr:∀(r:η) (T0:Tm) (j:Hp),bh j T0 r->dq ys T0->ap j p->aD p H3 j->dM (cy 4) [] E0 (am (a9 0)$ am (a9 1)$ am (tC$ .int 2) aL) [↑p,↑g,↑h,↑S,δ$ .int (d:Int),δ$ .int kd,δ$ .str y,θ,θ,θ] j (λv o=>3<=υ/\∀t,o t=θ->Q (.ref t) (af o t$ .tup [.str "write",.ref r,v])):=λr T0 j h4 o1 B4 J=>by refine#[_,Z,_,Z,p,g,2,ys,Z,B4,(G.but B4 J).g,y1,y2,UJ,UJ,λX T o W dT gT R a=>#[UJ,λt N=>?_]];exact l0 (.wr r X T0 T) _ o t #[Z,h4.but B4 a,W] #[o1,gT,UK] trivial (G.but R$ J.trans a) (K3.trans (J.trans a).two) ((kK G.B G.s$ J.trans a).trans e3) N
 refine aj λF1 u=>om λG' D=>?_;let Y:G' ν H3:=D _ _ (Cy #[_,Z,_,Z,p,g,ys,Z,G.B,G.g,y1,y2,λr T0 j h4 o1 B4 J=>wr r T0 j h4 o1 B4 J]);refine#[_,Z,Z,_,Z,bV (λc=>Y) (λc=>#[_,Z,Z,_,Z,AE Y λc2=>D _ _ (aX c2$ u _ _ ?_)])];clear Y D u;let⟨hv,hh,hH⟩:=G.h;let hl:=hH.len;let h1:=G0.h1;let h2:=G0.h2;let c1:∀(f':ρ) (ps:List ρ) (h':(f',ps.length)∈hs.map λc=>(c.1,c.2.length)) (t:η) (j:Hp),nP j p g h S ys hs->a6 p S H j->gE j S=k - 1->j t=δ (.tup$ ps.map ri)->ps.length<=6->
   eU (wX K t) 1 [↑p,↑g] (bE 0) mJ (dM (cy 4) [] E0$ am (a9 1)$ am (a9 2)$ am (tC$ .int 1) aL) (λM o=>∀l,o l=θ->∃p' y0,[rs l]=[.ref p']/\((aJ K (af o l$ .lst M) p' y0/\∀l2,af o l (.lst M) l2=θ->4<=υ/\∀r,af (af o l$ .lst M) l2 (.tup y0) r=θ->Q (.ref r) (af (af (af o l$ .lst M) l2$ .tup y0) r$ .tup [.str "call",.str y,.str f',.ref l2]))∨(aC K (af o l$ .lst M) p' y0/\4<=υ/\∀r,af o l (.lst M) r=θ->Q (.ref r) (af (af o l$ .lst M) r$ .tup [.str "call",.str y,.str f',.ref p'])))) j:=λf' ps h' t j C K4 e4 ht c5=>by
  refine zX (K:=K) (xs:=ps.map ri) (by rw[Lw];omega) (λi M o=>∃ts:List (η×Tm),M=ts.map (λc=>rs c.1)/\ts.length=i/\(∀c∈ts,bh o c.2 c.1/\dq ys c.2)/\ap o p/\aD p j o) #[[],Z,Z,(λ_ h=>absurd h Ma),C.B,aD.refl] (λi M o h5=>?_) ?_ ?_
  .let⟨ts,rfl,e5,_,_,a⟩:=h5;exact#[aC.of$ a.tm C.B _ _ ht,by rw[Lw,e5];exact Lx _]
  .intro i x M o hx a3;let⟨ts,rfl,e5,h5,R,a⟩:=a3;refine#[_,Z,_,Z,p,g,1,ys,Z,R,(C.but R a).g,y1,y2,UJ,UJ,λX T H6 W dT gT B6 k6=>#[ts++[(X,T)],by rw[Mc];rfl,by rw[Ly,e5];rfl,λc hc=>?_,B6,a.trans k6]];rcases γ.mp hc with hc |hc
   .exact#[(h5 c hc).1.but R k6,(h5 c hc).2]
   .rw[τ.mp hc];exact#[W,gT,(by show T.depth < 6;omega)]
  .rintro M o ⟨ts,rfl,e5,h5,R,a⟩ l nl;refine#[l,_,Z,.inl #[aJ.of jc,λl2 n0=>#[UJ,λr nr=>?_]]];let O:=C.but R a;let s6:ae o (af (af o l$ .lst$ ts.map λc=>rs c.1) l2$ .tup$ ts.map λc=>rs c.1):=(jf nl).trans (jf n0);rw[Lw]at e5;exact l0 (.cl y f' l2 ts) _ _ r #[Z,jc,λc hc=>(h5 c hc).1.same s6] #[hy,UK,λc hc=>(h5 c hc).2] (by show(f',ts.length)∈_;rw[e5];exact h') (O.but2 ((O.B.upd_new nl).upd_new n0) ((O.s.new nl).new n0)$ a6.of_same s6) ((K4.trans a.two).trans$ a6.of_same s6) ((ky O.s s6).trans ((kK C.B C.s a).trans e4)) nr
 refine aj λF1 u=>om λG' D=>?_;let Y:G' ν H3:=by refine D _ _$ Cy ?_;clear u D;refine aj λF2 f2=>#[_,Z,_,Z,_,Z,h,_,Z,.inl$ aJ.of hh,p,_,Z,G.B,UK,UK,λd4 j d3 d5 B4 e4=>?_];let C:=G.but B4 (aD.of_eq e4);let J:aD p H3 j:=aD.of_eq e4;let a4:=hH.mono (J.tm G.B);let⟨v,c0,a',a0,p4,t4,rfl,z1,z2⟩:=DB a4 d3 d5;refine#[h,_,_,_,Z,Z,aJ.of$ J _ _ G.hsp.2 hh,a',p4,_,Z,aC.of z1,Z,_,_,Z,_,_,Z,Z,f2 _ _ ?_];clear f2;refine#[_,Z,_,Z,_,Z,t4,Z,#[_,aC.of z2],?_];exact c1 c0.1 c0.2 (dw.mpr #[c0,a0,Z]) t4 j C (K3.trans J.two) ((kK G.B G.s J).trans e3) z2$ G0.h3 c0 a0
 refine#[_,Z,Z,_,Z,bV (λc=>Y) (λc=>#[_,Z,Z,_,Z,AE Y λc2=>D _ _ (aX c2$ u _ _ ?_)])];clear Y D u;let l1:∀(c:(0:Int) < (d:Int)),∃d':Nat,d=d'+1:=λc=>#[d - 1,UK];refine aj λF1 u=>dF (RH p g h S d kd y H3) (λE6 eR f6=>?_) λσ0 H' z=>?_
 .clear u;refine om λG' D=>#[_,Z,Z,_,Z,?_];refine bV (λc=>?_) (λc=>D _ _ (rj$ f6 _ _ #[Z,Z]));refine#[_,Z,_,_,Z,Z,_,Z,D _ _ ?_];clear D;refine bV (λc2=>?_) (λc2=>f6 _ _ #[Z,Z]);clear f6;let⟨d',rfl⟩:=l1 (Mu c2);let ed:(((d'+1:Nat):Int) - 1)=((d':Nat):Int):=by omega
  refine#[_,Z,_,Z,_,Z,_,Z,_,Z,_,_,Z,Z,p,g,h,S,d',ys,hs,(by show [rs p,rs g,rs h,rs S,rm (((d'+1:Nat):Int) - 1)]=_;rw[ed]),G,UK,UK,λr b bs j b1 b2 c6 b4 b5 B4 s4 J=>?_];let C:=G.but2 B4 s4 J;refine#[_,Z,_,Z,p,g,2,ys,Z,C.B,C.g,y1,y2,UJ,UJ,λX T o W dT gT R a=>?_];let O:=C.but R a;refine#[_,Z,_,Z,_,Z,_,Z,_,Z,_,Z,_,_,Z,Z,p,g,h,S,d',ys,hs,(by show [rs p,rs g,rs h,rs S,rm (((d'+1:Nat):Int) - 1)]=_;rw[ed]),O,UK,(by rw[kK C.B C.s a];exact b4),λr3 b3 b0 H6 h6 h7 a1 h8 h0 B6 s6 k6=>#[su,λt N=>?_]];let G6:=O.but2 B6 s6 k6;let tm:ai j H6:=λb' xs e=>k6.tm O.B O.s _ _ (a.tm C.B _ _ e);let I:ai H6 (af H6 t$ .tup [.str "if",.ref X,.ref r,.ref r3]):=ae.tm (jf N);rw[eR];refine q t (.ite t X T b b3 .nil) _ #[r,r3,bs,b0,[],Z,jc,(W.mono$ k6.tm O.B O.s).mono I,I _ _$ tm _ _ b1,I _ _ h6,(b2.mono tm).mono I,h7.mono I,Z] (by let x1:=kK C.B C.s a;rw[ky G6.s$ jf N];show((b.size+b3.size+0+1:Nat):Int)+_<=_;omega) (by rw[ky G6.s$ jf N];exact h8) (xI #[gT,UK] b5 h0) (G6.B.upd_new N) (G6.s.new N) (((K3.trans J).trans$ a.two.trans k6).trans$ a6.of_same$ jf N)
 let⟨rfl,e⟩:=z;rw[e];refine u _ _ ?_;clear u;refine aj λF1 u=>dF (RH p g h S d kd y H3) (λE6 eR f6=>?_) λσ0 H' z=>?_
 .clear u;refine om λG' D=>#[_,Z,Z,_,Z,?_];refine bV (λc=>?_) (λc=>D _ _ (rj$ f6 _ _ #[Z,Z]));refine#[_,Z,_,_,Z,Z,_,Z,D _ _ ?_];clear D;refine bV (λc2=>?_) (λc2=>f6 _ _ #[Z,Z]);clear f6;let⟨d',rfl⟩:=l1 (Mu c2);let ed:(((d'+1:Nat):Int) - 1)=((d':Nat):Int):=by omega
  refine#[_,Z,_,Z,p,g,2,ys,Z,G.B,G.g,y1,y2,UJ,UJ,λX T o W dT gT R a=>?_];let O:=G.but R a;refine#[_,Z,_,Z,_,Z,_,Z,_,Z,_,_,Z,Z,p,g,h,S,d',ys,hs,(by show [rs p,rs g,rs h,rs S,rm (((d'+1:Nat):Int) - 1)]=_;rw[ed]),O,UK,(by rw[kK G.B G.s a];omega),λr3 b3 b0 H6 h6 h7 a1 h8 h0 B6 s6 k6=>#[fq,λt N=>?_]];let G6:=O.but2 B6 s6 k6;let I:ai H6 (af H6 t$ .tup [.str "while",.ref X,.ref r3]):=ae.tm (jf N);rw[eR];refine q t (.loop t X T b3 .nil) _ #[r3,b0,[],Z,jc,(W.mono$ k6.tm O.B O.s).mono I,I _ _ h6,h7.mono I,Z] (by let x1:=kK G.B G.s a;rw[ky G6.s$ jf N];show((b3.size+0+1:Nat):Int)+_<=_;omega) (by rw[ky G6.s$ jf N];exact h8) (tj #[gT,UK] h0) (G6.B.upd_new N) (G6.s.new N) ((K3.trans$ a.two.trans k6).trans$ a6.of_same$ jf N)
 let⟨rfl,e⟩:=z;rw[e];refine u _ _ ?_;clear u;refine aj λF1 u=>om λG' D=>#[_,Z,Z,_,Z,D _ _ ?_];clear D;refine bV (λc=>?_) (λc=>u _ _ ?_)
 .refine#[_,Z,_,Z,p,g,2,ys,Z,G.B,G.g,y1,y2,UJ,UJ,λX T o W dT gT R a=>#[bL,λt N=>?_]];exact l0 (.gv X T) _ o t #[Z,W] #[gT,UK] trivial (G.but R a) (K3.trans a.two) ((kK G.B G.s a).trans e3) N
 .refine#[_,Z,_,Z,_,Z,p,g,3,ys,Z,G.B,G.g,y1,y2,UJ,UJ,λX T o W dT gT R a=>#[fq,λt N=>?_]];exact l0 (.st y X T) _ o t #[Z,W] #[hy,gT,UK] trivial (G.but R a) (K3.trans a.two) ((kK G.B G.s a).trans e3) N
theorem oF:ak ["_law_box_here","_law_names_here","_law_heads","_law_spare","_law_deep","_law_body_here","_law_k"] z5z (aa o0):=bJ
theorem Zu(F:rx K "_law_body" o0 f fd)(cT:Cl P w K mg base 1 fT f0 z0z aZ "_law_take"){L:Nat}(cS:Cl P w K mg base (L+8) fS f1 z5z (lK n) "_law_statement")(mr:mg "range"=θ)(m2:mg "tuple"=θ):ah P w K mg base aE (L+9) f fd z5z (gM n):=by
 refine F.ok oF λc0 A o1 s H v Q E hr h=>?_
 let⟨p,g,h,S,d,ys,hs,rfl,G,hd,h0,q⟩:=h;refine#[_,(jd (jy 5 oF.nd$ jI jb)$ jd (ki Ml Z (kY Z mr$ ja (cT.e hr.m$ ja (pv 0)$ ja je jb) jb) (jw (i:=6) oF.nd Z$ Φ Z)$ jg$ jx (jA qX (jr jq (pv 3) je (λ_ _=>Z)) je$ aG _) (jg$ jQ$ kM LM L9 LZ jT (pv 5)$ ja (cS.e hr$ ja (pv 0)$ ja (pv 1)$ ja (pv 2)$ ja (pv 3)$ ja (pv 4) jb) jb) jp)$ jg$ jo$ jE jL Z m2 Ni$ ja (pv 5) jb),?_];let b0:=aI;refine#[LF _,λl N=>?_];let s0:ae H (af H l$ .lst []):=jf N;let O:nP (af H l$ .lst []) p g h S ys hs:=G.but2 (G.B.upd_new N) (G.s.new N) (a6.of_same s0);let l1:af H l (.lst []) l=δ (.lst []):=jc;let lp:l≠p:=G.B.ne N;let D:l≠S:=λe=>by let⟨k,z⟩:=G.s;rw[<- e,N]at z;cases z
 let k1:a6 p S H (af H l$ .lst []):=a6.of_same s0;let R:gE (af H l$ .lst []) S=gE H S:=ky G.s s0;generalize af H l (.lst [])=H1 at O l1 k1 R;refine#[_,Z,p,6,Z,O.B,UJ,UJ,λm H2 m0 m1 B2 e2=>#[_,Z,UK,UK,?_]];let G2:=O.but B2 (aD.of_eq e2);refine Qv (lo:=0) (λi σ I=>∃(o6:Option V) (v:List V) (b:Bd),σ=[↑p,↑g,↑h,↑S,δ$ .int (d:Int),↑l,o6]/\I l=δ (.lst v)/\dG I b v/\((b.size:Int)+gE I S<=gE H S/\0<=gE I S)/\b.fit hs ys d/\v.length<=i/\ap I p/\dD I S/\a6 p S H I)
  #[θ,[],.nil,Z,by rw[e2 l lp];exact l1,Z,(by rw[kK O.B O.s$ aD.of_eq e2,R];exact#[by show((0:Nat):Int)+_<=_;omega,h0]),Zs,LF _,B2,G2.s,k1.trans (aD.of_eq e2).two] ?_ ?_
 .intro i σ H3 hi J;let⟨o6,v,b,rfl,a,u,j,x,h1,T,C,U⟩:=J;let G3:=G.but2 T C U;let⟨kk,W⟩:=id C;refine#[_,Z,S,_,_,_,Z,Z,aJ.of W,Z,_,_,Z,Z,_,Z,?_];refine bV (λc=>?_) (λc=>?_)
  .refine#[_,Z,.inl #[Z,_,aJ.of a],_,Z,_,Z,_,Z,_,Z,_,Z,p,g,h,S,d,ys,hs,Z,G3,hd,(by rw[Jx W];exact Mu c),λr b4 H4 h2 h5 h3 h4 B4 s4 k4=>?_];let X:H4 l=δ (.lst v):=k4 _ _ lp D a;refine#[l,_,_,Z,Z,X,UK,?_];let tm:ai H4 (af H4 l$ .lst$ v++[.ref r]):=λb' xs e=>by rw[ji$ jO e X (by intro z;cases z)];exact e
   let Y:ai H3 H4:=k4.tm T C;refine#[_,_,b.app b4,Z,jc,(h2.mono tm).app ((u.mono Y).mono tm),?_,Zt x h4,by rw[Ly];show v.length+1<=i+1;omega,B4.eq$ ji$ Me lp,?_,λb' o n1 n2 e=>?_]
   .rw[jY,Yg s4 λo e=>by rw[ji$ Me D];exact e];let⟨z1,z2⟩:=j;exact#[UK,h3]
   .let⟨z,hz⟩:=s4;exact#[z,by rw[ji$ Me D];exact hz]
   .rw[ji$ jl e N];exact k4 _ _ n1 n2$ U _ _ n1 n2 e
  .exact#[_,v,b,Z,a,u,j,x,UK,T,C,U]
 .intro σ H3 J;let⟨o6,v,b,rfl,a,u,j,x,h1,T,C,U⟩:=J;refine#[_,Z,l,v,Z,.inl #[aJ.of a,λt M=>?_]];let hm:(m).toNat<=5:=by omega
  refine q t b v _ jc (u.mono$ ae.tm$ jf M) (by rw[ky C$ jf M];exact j.1) (by rw[ky C$ jf M];exact j.2) x (T.upd_new M) (C.new M)$ U.trans$ a6.of_same$ jf M
theorem ug:ah P w K mg base aE 8 f c z5z (lK 0):=by
 let n:∀v H Q E,¬lK 0 v H Q E:=λv H Q E h=>by let⟨p,g,h,S,d,y,e,_,_,b,_⟩:=h;exact absurd b$ Oi _
 exact#[λv H Q E h=>absurd h (n v H Q E),λA o s H a u v Q E _ _ _ _ h=>absurd h (n v H Q E)]
theorem Gs(F:rx K "_law_statement" vh f e)(FB:rx K "_law_body" o0 g a)(c:Cl P w K mg base 1 r k z0z aZ "_law_take")(C:Cl P w K mg base 6 s l z12z (cy 4) "_law_term")(h:Cl P w K mg base 7 t o z26z iV "_law_spot")(b:aw K e z5z [])(M:mg "_law_statement"=↑f)(B:aw K a z5z [])(i:mg "_law_body"=↑g)(j:mg "len"=θ)(m:mg "tuple"=θ)(d:mg "range"=θ):
  ∀n:Nat,ah P w K mg base aE (n+n+8) f e z5z (lK n)/\ah P w K mg base aE (n+n+9) g a z5z (gM n)
 |0=>#[ug,Zu (L:=0) FB c #[ug,b,F.kp,M] d m]
 |n+1=>by
  let I:=Gs F FB c C h b M B i j m d n;let E:n+n+10=n+1+(n+1)+8:=by omega
  let p:n+n+2+9=n+1+(n+1)+9:=by omega
  let H:=Dc (L:=n+n) F c C h #[I.2,B,FB.kp,i] j m;let q:=Zu (L:=n+n+2) FB c #[H,b,F.kp,M] d m;rw[<- E,<- p];exact#[H,q]
theorem ES{x:List V}(h:k<=x.length):aS x θ (δ (k:Int))=x.take k:=by
 unfold aS;rw[HT.sIx_nat,HT.sIx_none];let e:min k x.length=k:=by omega
 rw[e];simp
noncomputable abbrev DE:cv:=bK 72
theorem xE(h:0<=d)(H:d < 4):∃D:Nat,dO [rm 3,.int 3,.int 3,.int 5] d=δ (.int (D:Int))/\D < 6/\IV D<=111111/\D<=5:=by
 rcases(by omega:d=0∨d=1∨d=2∨d=3) with rfl |rfl |rfl |rfl
 .exact#[3,Z,UJ,UJ,UJ]
 .exact#[3,Z,UJ,UJ,UJ]
 .exact#[3,Z,UJ,UJ,UJ]
 .exact#[5,Z,UJ,UJ,UJ]
theorem sL{ys:List ρ}{k:Int}(h:ys.length=20)(H:14<=k)(a:k<=20):1<=(bj ys (δ 8)$ δ k).length/\(bj ys (δ 8)$ δ k).length<=20:=by
 refine#[?_,by let:=qv ys (δ 8) (δ k);omega];let e:(8:Int)=((8:Nat):Int):=rfl;let E:k=((k.toNat:Nat):Int):=by omega
 unfold bj;rw[e,E,HT.sIx_nat,HT.sIx_nat,Mb,Nj];omega
theorem xt{ss:List ρ}(h:0<=k):(bj ss θ$ δ k).length<=k.toNat:=by
 let e:k=((k.toNat:Nat):Int):=by omega
 unfold bj;rw[e,HT.sIx_nat,HT.sIx_none,Mb];omega
theorem gn{t u:TS}(h:∀E:a7,(∀a b,u D a b->E.nx a b)->t E c H):dy t u D c H:=h { D with nx:=u D } λ_ _ h=>h
def EB(h:List (ρ×List ρ)):Prop:=∀c∈h,c.1.length<=20/\c.2.length<=6
def IZ(H:Hp)(D:List Df):Prop:=∀d∈D,∃p:List ρ,H d.pa=δ (.tup$ p.map ri)/\p.length<=100
theorem Jk{a:Type}{P:a->Prop}{X:List a}{x:a}(h:∀c∈X,P c)(H:P x):∀c∈X++[x],P c:=λc b=>by
 rcases γ.mp b with h1 |h1
 .exact h c h1
 .rw[τ.mp h1];exact H
def j'(H:Hp)(D:List Df)(N:List Nat):Prop:=D.length=N.length/\∀(i:Nat) (d:Df) (n:Nat),D[i]?=δ d->N[i]?=δ n->∃p:List ρ,H d.pa=δ (.tup$ p.map ri)/\p.length=n/\n<=100
theorem j'.mono(h:j' H D N)(k:ai H a):j' a D N:=#[h.1,λi d n b c=>let #[p,e,l]:=h.2 i d n b c;#[p,k _ _ e,l]]
theorem j'.snoc{d:Df}{p:List ρ}(h:j' H D N)(e:H d.pa=δ (.tup$ p.map ri))(l:p.length<=100):j' H (D++[d]) (N++[p.length]):=by
 refine#[by rw[Ly,Ly,h.1];rfl,λi c n a b=>?_];by_cases f:i < D.length
 .rw[Nq f]at a;rw[Nq (by rw[<- h.1];exact f)]at b;exact h.2 i c n a b
 .let g:i < (D++[d]).length:=(ξ.mp a).1;rw[Ly]at g;let E:i=D.length:=by let:i < D.length+1:=g;omega
  subst E;rw[Nl$ Lx _,O1]at a;rw[h.1,Nl$ Lx _,O1]at b;cases a;cases b;exact#[p,e,Z,l]
theorem j'.v(h:j' H D n):IZ H D:=λd b=>by
 let⟨i,a,e⟩:=hJ.mp b;let c:D[i]?=δ d:=by rw[<- e];exact Ls a
 let⟨p,e,l,k⟩:=h.2 i d _ c (Ls (by rw[<- h.1];exact a));exact#[p,e,UK]
def nX(D:List Df)(n:List Nat):Prop:=(∀d∈D,i9 d/\d.b.Cs ((D.map Df.f).zip n))/\(D.map Df.f).Nodup/\∀y∈D.map Df.f,y.length<=20
inductive pF(c:List V)(H:Hp)(Q:VK)(a:XK):Prop
 |mk(p:η)(T b:Int)(_:c=[.ref p,.int T,.int b])(_:ap H p)(_:1<=T)(_:T<=8)(_:0<=b)(_:b<=40)(_:∀(r:η) (ds:List Df) (xs:List V) (H':Hp),H' r=δ (.tup xs)->b6 H' ds xs->(ds.length:Int)=T->∀ns:List Nat,nX ds ns->j' H' ds ns->ap H' p->aD p H H'->Q (.ref r) H')
theorem cX:ak ["_law_box_here","_law_total","_law_room","_law_words","_law_most","_law_heads","_law_k","_law_turn","_law_row","_law_some","_law_deep","_law_defs","_law_f","_law_params","_law_spare","_law_body_here"] z34z (aa DE):=bJ
inductive AJ(p k:η)(T j:Int)(H:Hp)(b:_L.St)(c:Hp):Prop
 |mk(a:List ρ)(d:b=[↑p,δ (.int T),δ (.int j),↑k,θ,θ,θ,θ,θ,θ,θ,θ,θ,θ,θ,θ])(e:c k=δ (.lst (a.map ri)))(f:a.length=20)(g:(∀y∈a,y.length<=20)/\(a.take 8).Nodup)(h:ap c p)(i:aD p H c)
inductive AI(p t k:η)(T s m:Int)(u:List ρ)(H:Hp)(i:Nat)(v:_L.St)(a:Hp):Prop
 |mk(o q r:Option V)(l:List (ρ×List ρ))(n:List V)(b:v=[↑p,δ (.int T),δ (.int s),↑t,δ (.int m),↑k,o,q,r,θ,θ,θ,θ,θ,θ,θ])(c:a k=δ (.lst n))(d:dP a l n)(e:l.length=i)(f:EB l/\l.map (·.1)=u.take i)(g:a t=δ (.lst (u.map ri)))(h:ap a p)(j:aD p H a)
inductive AK(p G y F h:η)(T E m:Int)(j:Nat)(I:List ρ)(z:List (ρ×List ρ))(A:List V)(H:Hp)(i:Nat)(J:_L.St)(g:Hp):Prop
 |mk(B C D b c e f:Option V)(k:List Df)(l:List V)(n:J=[↑p,δ (.int T),δ (.int E),↑G,δ (.int m),↑y,B,C,D,↑F,δ (.int (j:Int)),↑h,b,c,e,f])(o:g h=δ (.lst l))(q:b6 g k l)(r:k.length=i)(s:(∀d∈k,i9 d/\d.b.Cs (z.map λc=>(c.1,c.2.length)))/\k.map Df.f=(z.map (·.1)).take i)(t:g y=δ (.lst A))(u:dP g z A)(v:g F=δ (.lst (I.map ri)))(w:ap g p)(x:aD p H g)(a:j' g k ((z.map λc=>c.2.length).take i))
inductive AL(v:List (ρ×List ρ))(D:List ρ)(p C u z h B A:η)(T y m:Int)(i:Nat)(w x:Option V)(c:ρ×List ρ)(e:Hp)(j:Nat)(E:_L.St)(d:Hp):Prop
 |mk(a:Option V)(f:η)(b:Bd)(g:List V)(k:E=[↑p,δ (.int T),δ (.int y),↑C,δ (.int m),↑u,a,w,x,↑z,δ (.int (i:Int)),↑h,δ (.str c.1),↑B,↑A,↑f])(l:d f=δ (.tup g))(n:dG d b g)(o:(b.size:Int)+gE d A<=y/\0<=gE d A)(q:b.fit v D i)(r:ap d p)(s:dD d A)(t:a6 p A e d)
theorem CV(F:rx K "_law_any" DE f fd)(cT:Cl P w K mg base 1 fT j2 z0z aZ "_law_take")(cA:Cl P w K mg base 2 fA l4 z21z eN "_law_names")(cB:Cl P w K mg base 21 fB l5 z5z (gM 6) "_law_body")(ml:mg "len"=θ)(mr:mg "range"=θ)(m0:mg "tuple"=θ)(mi:mg "int"=θ):ah P w K mg base aE 22 f fd z34z pF:=by
 refine F.ok cX λl6 A o5 s H vs Q E hr h=>?_
 let⟨p,T,Y,rfl,B,l7,l8,f7,l9,q⟩:=h;refine#[_,(jd (jy 3 cX.nd$ cA.e hr.m$ ja (pv 0)$ ja je jb)$ jd (j3$ jx (ze$ cT.e hr.m$ ja (pv 0)$ ja je jb) (jg$ zf (jK kH (pv 3) jW$ jG je)$ @uG _ _ _ _ _ _ _ _ _ (pv 3) je je (by intro _;rfl)) jp)$ jd (jy 4 cX.nd$ jr jq (jI$ ja je$ ja je jb) (jE qG Z mi Ta$ ja (qE qo (cT.e hr.m$ ja (pv 0)$ ja je jb) je$ aG _) jb) (λ_ _=>Z))$ jd (jy 5 cX.nd$ jI jb)$ jd (ki Ml Z (kY Z mr$ ja (pv 1) jb) (jw (i:=6) cX.nd Z$ Φ Z)$ jd (jy 7 cX.nd$ jv jU je$ cT.e hr.m$ ja (pv 0)$ ja je jb)$ jd (jy 8 cX.nd$ jv qr (jK kH (pv 3) (jG$ pv 7)$ jG je)$ jK kH (pv 3) (jG je)$ jG$ pv 7)$ jg$ jQ$ kM LM L9 LZ jT (pv 5)$ ja (jh$ ja (jr jq (pv 3) (pv 6) (λ_ _=>Z))$ ja (jE jL Z m0 Ni$ ja (jK kH (pv 8) jW$ jG$ cT.e hr.m$ ja (pv 0)$ ja (pv 4) jb) jb) jb) jb)$ jd (jy 9 cX.nd$ jK kH (pv 3) (jG je)$ jG$ jv jU je$ cT.e hr.m$ ja (pv 0)$ ja je jb)$ jd (jy 10 cX.nd$ jr jq (jI$ ja je$ ja je$ ja je$ ja je jb) (cT.e hr.m$ ja (pv 0)$ ja je jb) (λ_ _=>Z))$ jd (jy 11 cX.nd$ jI jb)$ jd (ki Ml Z (qC$ pv 5) (zM (n:=2) Z$ jB (jw (i:=12) cX.nd Z$ Φ Z)$ jB (jw (i:=13) cX.nd Z$ Φ Z) kE)$ jd (jy 14 cX.nd$ jI$ ja (pv 2) jb)$ jd (jy 15 cX.nd$ jh jb)$ jd (ki Ml Z (kY Z mr$ ja je jb) (jw (i:=6) cX.nd Z$ Φ Z)$ jg$ jy 15 cX.nd$ jv j4 (pv 15)$ cB.e hr$ ja (pv 0)$ ja (pv 9)$ ja (pv 5)$ ja (pv 14)$ ja (pv 10) jb)$ jg$ jQ$ kM LM L9 LZ jT (pv 11)$ ja (jh$ ja (pv 12)$ ja (pv 13)$ ja (pv 15) jb) jb)$ jg$ jo$ jE jL Z m0 Ni$ ja (pv 11) jb),?_];let l':=aI;refine gn λE1 m1=>?_;refine#[_,Z,p,20,Z,B,UJ,UJ,λW ys H1 c4 f9 c5 C B1 k1=>?_];refine m1 _ _ ?_;refine gn λE2 m2=>?_;let wp:W≠p:=B.ne c4;refine dF (AJ p W T Y H) (λE0 _ fm=>?_) λσ0 H2 l=>?_
 .clear m2;refine om λG' g'=>#[_,Z,p,2,Z,B1,UJ,UJ,λd1 H2 m' o' B2 e2=>?_];let h0:H2 W=δ (.lst$ ys.map ri):=by rw[e2 W wp];exact f9
  let k2:=k1.trans (aD.of_eq e2);refine#[Z,_,Z,g' _ _ ?_];clear g';refine bV (λc=>?_) (λc=>fm _ _ #[ys,Z,h0,UK,#[C.1,C.2.sublist$ Nr _ _],B2,k2]);refine#[_,Z,_,Z,W,_,Z,aJ.of h0,λsl n0=>?_];let f':W≠sl:=λe=>by rw[<- e,h0]at n0;cases n0
  let p1:=B2.ne n0;refine#[_,Z,W,sl,_,_,_,_,Z,Z,Z,Z,ar h0 n0,jc,f',UJ,UJ,by rw[Lw];omega,?_,?_]
  .let:=zn (ys.map ri) θ (δ 2);rw[Lw]at this ⊢;omega
  let e2:aS (ys.map ri) θ (δ 2)=(ys.take 2).map ri:=by rw[show(2:Int)=((2:Nat):Int) from Z,ES (by rw[Lw];omega),Ox]
  refine fm _ _ #[ys.take 8++ys.take 2++ys.drop 10,Z,?_,?_,?_,(B2.upd_new n0).eq$ ji$ Me wp,?_]
  .rw[jc,e2,Mc,Mc,Ox,Tw,Ox];rfl
  .rw[Ly,Ly,Mb,Mb,Nj];omega
  .refine#[λy hy=>?_,?_]
   .rcases γ.mp hy with h |h
    .rcases γ.mp h with h |h
     .exact C.1 y$ MD h
     .exact C.1 y$ MD h
    .exact C.1 y$ R4 h
   .rw[PH,List.take_append_of_le_length (by rw[Mb];omega),Tj];exact C.2.sublist$ Nr _ _
  .exact(k2.upd_new n0).upd_own c4
 let⟨ys,rfl,h0,c5,C,B2,k2⟩:=l;refine m2 _ _ ?_;clear m1 m2;refine gn λE3 m3=>?_;refine#[bL,λl1 n7=>?_];refine#[_,Z,p,3,Z,B2.upd_new n7,UJ,UJ,λd2 H3 p2 p3 B3 e3=>?_];let k3:aD p H2 H3:=((aD.refl).upd_new n7).trans (aD.of_eq e3);let l0:=B2.ne n7;let g0:H3 l1=δ (.lst [.int 4,.int 7]):=by rw[e3 l1 l0];exact jc
 refine#[Z,.inr #[_,Z,?_]];let a4:∀c:Bool,∃m:Int,dO [rm 4,rm 7] (if c then 1 else 0)=δ (.int m)/\4<=m/\m<=7:=λc=>by
  cases c
  .exact#[4,Z,UJ,UJ]
  .exact#[7,Z,UJ,UJ]
 let⟨m,hm,m4,m7⟩:=a4 _;refine#[l1,_,_,_,Z,Z,aJ.of g0,hm,?_];refine m3 _ _ ?_;refine gn λE4 m4=>?_;let c6:H3 W=δ (.lst$ ys.map ri):=k3 _ _ wp h0;let k0:=k2.trans k3;refine#[LF _,λhl n1=>?_];refine m4 _ _ ?_;refine gn λE5 m5=>?_;let h4:=B3.ne n1;let n5:H hl=θ:=by
  cases z:H hl with
  |none=>rfl
  |some o=>have:=k0 _ _ h4 z;rw[n1]at this;cases this
 let wh:W≠hl:=λe=>by rw[<- e,c6]at n1;cases n1
 refine eQ λJ j=>#[_,Z,T,Z,UK,UK,j _ _ ?_];clear j;refine kX (lo:=0) (AI p W hl T Y m ys H)
  #[θ,θ,θ,[],[],Z,jc,Z,Z,#[(λc hc=>nomatch hc),Z],ar c6 n1,B3.upd_new n1,k0.upd_own n5] ?_ ?_
 .intro D' _ i σ H4 hi f0 Gq u l;let⟨o6,o7,o8,hs,hv,rfl,a',h6,c9,h7,b1,B4,k4⟩:=l;refine u ?_;clear u m5 m3 m4;show dy (eu _ _) _ D' _ _;refine gn λF1 f1=>?_;refine#[_,Z,p,6,Z,B4,UJ,UJ,λD H5 g1 g2 B5 e5=>?_];let k5:aD p H4 H5:=aD.of_eq e5;let h8:=k5 _ _ wp b1;let b2:=k5 _ _ h4 a';let b3:=h6.mono (k5.tm B4);refine#[_,_,Z,Z,?_];refine f1 _ _ ?_;show dy (eu _ _) _ D' _ _;refine gn λF2 f2=>?_;refine#[_,Z,_,Z,_,Z,_,Z,W,_,Z,aJ.of h8,λs1 n'=>?_];refine#[_,Z,_,Z,_,Z,_,Z,W,_,Z,aJ.of$ ar h8 n',λs2 b4=>?_];let L1:=qv ys (δ (8+D)) (δ 14);let L0:=qv ys (δ 8) (δ (8+D));let L3:=zn (ys.map ri) (δ (8+D)) (δ 14);let L4:=zn (ys.map ri) (δ 8) (δ (8+D));rw[Lw]at L3 L4;refine#[s1,s2,_,_,Z,Z,ar jc b4,jc,UK,λrl c'=>?_];refine f2 _ _ ?_;let er:aS (ys.map ri) (δ (8+D)) (δ 14)++aS (ys.map ri) (δ 8) (δ (8+D))=(bj ys (δ (8+D)) (δ 14)++bj ys (δ 8) (δ (8+D))).map ri:=by rw[zD,zD,Mc]
  let s6:ae H5 (af (af (af H5 s1$ .lst$ aS (ys.map ri) (δ (8+D))$ δ 14) s2$ .lst$ aS (ys.map ri) (δ 8)$ δ (8+D)) rl$ .lst$ aS (ys.map ri) (δ (8+D)) (δ 14)++aS (ys.map ri) (δ 8) (δ (8+D))):=((jf n').trans$ jf b4).trans (jf c');let r6:af (af (af H5 s1$ .lst$ aS (ys.map ri) (δ (8+D))$ δ 14) s2$ .lst$ aS (ys.map ri) (δ 8)$ δ (8+D)) rl (.lst$ aS (ys.map ri) (δ (8+D)) (δ 14)++aS (ys.map ri) (δ 8) (δ (8+D))) rl=δ (.lst ((bj ys (δ (8+D)) (δ 14)++bj ys (δ 8) (δ (8+D))).map ri)):=by rw[jc,er]
  let B6:ap (af (af (af H5 s1$ .lst$ aS (ys.map ri) (δ (8+D))$ δ 14) s2$ .lst$ aS (ys.map ri) (δ 8)$ δ (8+D)) rl$ .lst$ aS (ys.map ri) (δ (8+D)) (δ 14)++aS (ys.map ri) (δ 8) (δ (8+D))) p:=((B5.upd_new n').upd_new b4).upd_new c';generalize af (af (af H5 s1$ .lst$ aS (ys.map ri) (δ (8+D))$ δ 14) s2$ .lst$ aS (ys.map ri) (δ 8)$ δ (8+D)) rl (.lst$ aS (ys.map ri) (δ (8+D)) (δ 14)++aS (ys.map ri) (δ 8) (δ (8+D)))=H6 at s6 r6 B6;let LR:(bj ys (δ (8+D)) (δ 14)++bj ys (δ 8) (δ (8+D))).length<=40:=by rw[Ly];omega
  generalize bj ys (δ (8+D)) (δ 14)++bj ys (δ 8) (δ (8+D))=r0 at r6 LR;let d4:=s6 _ _ h8;let h':=s6 _ _ b2;let ei:(0:Int)+(i:Int)=(i:Int):=Int.zero_add _;rw[ei];obtain⟨y,b5⟩:∃y,ys[i]?=δ y:=#[_,Ls (by omega:i < ys.length)];let hy:=LS b5;let a4:dO (ys.map ri) (i:Int)=δ (.str y):=jJ (by rw[LK,b5];rfl);let rp:rl≠p:=qt B6 r6;refine#[_,Z,.inl #[Z,_,aJ.of h'],_,Z,_,Z,W,_,_,_,Z,Z,aJ.of d4,a4,_,Z,_,Z,_,Z,p,m,Z,B6,UK,UK,λd7 H7 d0 d6 B7 e7=>?_];let k7:aD p H6 H7:=aD.of_eq e7;refine#[_,Z,rl,_,Z,aJ.of$ k7 _ _ rp r6,λs3 d8=>?_];refine#[s3,_,Z,.inl #[aJ.of jc,λt nt=>#[bL,λr nr=>?_]]];rw[zD]at nt nr ⊢;let L8:=xt (ss:=r0) d0;generalize bj r0 θ (δ d7)=ps at*;let s8:ae H7 (af (af (af H7 s3$ .lst$ ps.map ri) t$ .tup$ ps.map ri) r$ .tup [.str y,.ref t]):=((jf d8).trans$ jf nt).trans (jf nr);let t8:af (af (af H7 s3$ .lst$ ps.map ri) t$ .tup$ ps.map ri) r (.tup [.str y,.ref t]) t=δ (.tup$ ps.map ri):=ar jc nr;let r8:af (af (af H7 s3$ .lst$ ps.map ri) t$ .tup$ ps.map ri) r (.tup [.str y,.ref t]) r=δ (.tup [.str y,.ref t]):=jc;let B8:ap (af (af (af H7 s3$ .lst$ ps.map ri) t$ .tup$ ps.map ri) r$ .tup [.str y,.ref t]) p:=((B7.upd_new d8).upd_new nt).upd_new nr;generalize af (af (af H7 s3$ .lst$ ps.map ri) t$ .tup$ ps.map ri) r (.tup [.str y,.ref t])=R at s8 t8 r8 B8;let d':=s8 _ _ (k7 _ _ h4 h');let g4:=s8 _ _ (k7 _ _ wp d4);let h5:=h6.len;refine#[hl,_,_,Z,Z,d',UK,?_];let tm:ai R (af R hl$ .lst$ hv++[.ref r]):=λb xs e=>by rw[ji$ jO e d' (by intro z;cases z)];exact e
  let g5:=((b3.mono$ ae.tm s6).mono$ k7.tm B6).mono (ae.tm s8);refine f0 _ _ #[_,_,_,hs++[(y,ps)],_,Z,jc,(g5.mono tm).snoc #[r,t,Z,tm _ _ r8,tm _ _ t8],by rw[Ly,c9];rfl,#[Jk h7.1 #[C.1 y hy,by show ps.length<=6;omega],by rw[Mc,h7.2,NM,b5];rfl],by rw[ji wh];exact g4,B8.eq$ ji$ Me h4,?_];refine aD.upd_own (λb o n e=>?_) n5;exact s8 _ _$ k7 _ _ n$ s6 _ _$ k5 _ _ n$ k4 _ _ n e
 intro σ H4 l;obtain⟨o6,o7,o8,hs,hv,rfl,a',h6,c9,⟨h7,e0⟩,b1,B4,k4⟩:=l;refine m5 _ _ ?_;refine gn λE6 m6=>?_;refine#[_,Z,_,Z,_,Z,p,7,Z,B4,UJ,UJ,λD H5 g1 g2 B5 e5=>?_];let k5:aD p H4 H5:=aD.of_eq e5;let h8:=k5 _ _ wp b1;let b2:=k5 _ _ h4 a';let b3:=h6.mono (k5.tm B4);refine#[_,_,Z,Z,_,Z,W,_,Z,aJ.of h8,λsm n3=>?_];refine m6 _ _ ?_;refine gn λE7 m7=>?_;let⟨z1,z2⟩:=sL (ys:=ys) (k:=14+D) c5 UK UK;let m6:af H5 sm (.lst$ aS (ys.map ri) (δ 8)$ δ (14+D)) sm=δ (.lst ((bj ys (δ 8)$ δ (14+D)).map ri)):=by rw[jc,zD]
 let k6:aD p H (af H5 sm$ .lst$ aS (ys.map ri) (δ 8)$ δ (14+D)):=(k4.trans k5).upd_new n3;let h':=ar (o:=.lst (aS (ys.map ri) (δ 8)$ δ (14+D))) b2 n3;let e4:=b3.mono (ae.tm$ jf (o:=.lst (aS (ys.map ri) (δ 8)$ δ (14+D))) n3);let B6:=B5.upd_new (o:=.lst (aS (ys.map ri) (δ 8)$ δ (14+D))) n3;generalize af H5 sm (.lst$ aS (ys.map ri) (δ 8)$ δ (14+D))=H6 at m6 k6 h' e4 B6;generalize bj ys (δ 8) (δ (14+D))=zs at m6 z1 z2;let s':=qt B6 m6;refine#[su,λl2 b7=>?_];refine#[_,Z,p,4,Z,B6.upd_new b7,UJ,UJ,λd7 H7 d0 d6 B7 e7=>?_];let k7:aD p H6 H7:=((aD.refl).upd_new b7).trans (aD.of_eq e7);let l3:=B6.ne b7;let g6:H7 l2=δ (.lst [.int 3,.int 3,.int 3,.int 5]):=by rw[e7 l2 l3];exact jc
 let⟨dp,g7,g8,p4,p6⟩:=xE d0 d6;refine#[l2,_,_,_,Z,Z,aJ.of g6,g7,?_];refine m7 _ _ ?_;refine gn λE8 m8=>?_;let m7:=k7 _ _ s' m6;let b':=k7 _ _ h4 h';let i0:=e4.mono (k7.tm B6);let k9:=k6.trans k7;refine#[LF _,λdl N=>?_];refine m8 _ _ ?_;refine gn λE9 m9=>?_;let d3:=B7.ne N;let n6:H dl=θ:=by
  cases z:H dl with
  |none=>rfl
  |some o=>have:=k9 _ _ d3 z;rw[N]at this;cases this
 let e6:hl≠dl:=λe=>by rw[<- e,b']at N;cases N
 let s5:sm≠dl:=λe=>by rw[<- e,m7]at N;cases N
 let p7:=h6.len;refine eQ λJ j=>#[_,Z,hl,Z,#[_,aJ.of$ ar b' N],j _ _ ?_];clear j;refine QL (K:=K) (a:=hl) (xs:=hv) (AK p W hl sm dl T Y m dp zs hs hv H)
  #[_,_,_,_,_,_,_,[],[],Z,jc,Z,Z,#[(λc hc=>nomatch hc),Z],ar b' N,i0.mono$ ae.tm$ jf N,ar m7 N,B7.upd_new N,k9.upd_own n6,#[Z,(λi d n h=>nomatch h)]] ?_ ?_ ?_
 .intro i σ R _ l;let⟨o6,o7,o8,o1,o2,o3,o4,ds,dv,rfl,h5,hD,a0,x,hh,hd,c0,B8,k8,p0⟩:=l;exact aJ.of hh
 .intro D' _ i v σ R hx f0 Gq u l;let⟨o6,o7,o8,o1,o2,o3,o4,ds,dv,rfl,h5,hD,a0,x,hh,hd,c0,B8,k8,p0⟩:=l;let p9:i < hv.length:=(ξ.mp hx).1;let⟨c,hc,q0,t0,rfl,w1,w2⟩:=hd.at i v hx;refine u ?_;clear u m9;let i1:=LS hc;let e8:=h7 c i1;refine Li λF6 f6=>#[q0,_,Z,aC.of w1,Z,_,_,Z,_,_,Z,Z,f6 _ _ ?_];clear f6;show dy (eu _ _) _ D' _ _;refine gn λF1 f1=>?_;refine#[_,Z,i8,λM n2=>?_];refine f1 _ _ ?_;show dy (eu _ _) _ D' _ _;refine gn λF2 f2=>?_;refine#[lN,λb0 n4=>?_];refine f2 _ _ ?_;show dy (D7 _ _ _) _ D' _ _;refine gn λF3 f3=>?_;let s9:ae R (af (af R M$ .lst [.int Y]) b0$ .tup []):=(jf n2).trans (jf n4);let s4:dD (af (af R M$ .lst [.int Y]) b0$ .tup []) M:=#[Y,ar jc n4];let b9:af (af R M$ .lst [.int Y]) b0 (.tup []) b0=δ (.tup []):=jc;let B9:ap (af (af R M$ .lst [.int Y]) b0$ .tup []) p:=(B8.upd_new n2).upd_new n4;let e9:gE (af (af R M$ .lst [.int Y]) b0$ .tup []) M=Y:=Jx (ar jc n4);generalize af (af R M$ .lst [.int Y]) b0 (.tup [])=H9 at s9 s4 b9 B9 e9;let e':H M=θ:=by
   cases z:H M with
   |none=>rfl
   |some o=>have:=k8 _ _ (B8.ne n2) z;rw[n2]at this;cases this
  let i2:dl≠M:=λe=>by rw[<- e,h5]at n2;cases n2
  let G9:nP H9 p sm hl M zs hs:=#[B9,s9 _ _ c0,z1,z2,#[hv,s9 _ _ hh,hd.mono$ ae.tm s9],UK,UK,λc hc=>(h7 c hc).2,s4];refine eQ λJ j=>#[_,Z,UJ,UJ,j _ _ ?_];clear j;refine kX (lo:=0) (AL hs zs p W hl sm dl t0 M T Y m dp o7 o8 c H9)
   #[_,b0,.nil,[],Z,b9,Z,(by rw[e9];exact#[by show((0:Nat):Int)+_<=_;omega,f7]),Zs,B9,s4,a6.refl] ?_ ?_
  .intro p' _ j σ G hj fin2 Gq u l;let⟨o9,bb,Bb,bs,rfl,c1,a1,a2,I,B0,U,L⟩:=l;refine u ?_;clear u f1 f2 f3;let G0:=G9.but2 B0 U L;refine#[_,Z,_,Z,_,Z,_,Z,_,Z,_,Z,p,sm,hl,M,dp,zs,hs,Z,G0,g8,a2.2,λr b q1 H0 X a3 i3 c2 c3 B' S k'=>?_];let tm:=k'.tm B0 U;let lb:=a1.len;let q2:=a3.len;let⟨i4,i'⟩:=a2;refine#[bb,r,_,_,Z,Z,tm _ _ c1,X,UK,λr2 H' f4 s0=>?_];let j0:ap H' p:=by let⟨a,b,h1,h2,h3,h⟩:=B'.ob;exact#[a,b,h1,h2,h3,s0 _ _ h]
   let s7:dD H' M:=by let⟨z,hz⟩:=S;exact#[z,s0 _ _ hz]
   refine fin2 _ _ #[_,r2,Bb.app b,_,Z,f4,(a3.mono$ ae.tm s0).app ((a1.mono tm).mono$ ae.tm s0),?_,Zt I c3,j0,s7,L.trans$ k'.trans$ a6.of_same s0];rw[jY,ky S s0];exact#[UK,c2]
  .intro σ G l;let⟨o9,bb,Bb,bs,rfl,c1,a1,a2,I,B0,U,L⟩:=l;refine f3 _ _ ?_;let O:G dl=δ (.lst dv):=L _ _ d3 i2 (s9 _ _ h5);let G0:=G9.but2 B0 U L;let t3:ai R G:=λb xs e=>L.tm B9 s4 _ _ (s9 _ _ e);refine#[_,Z,.inl #[Z,_,aJ.of O],_,Z,_,Z,_,Z,fq,λr nr=>?_];let S:ae G (af G r$ .tup [.str c.1,.ref t0,.ref bb]):=jf nr;let j1:=hD.len;let f5:Bb.size<=40:=by let⟨i4,i'⟩:=a2;omega
   refine#[dl,_,_,Z,Z,S _ _ O,UK,?_];let X:af G r (.tup [.str c.1,.ref t0,.ref bb]) r=δ (.tup [.str c.1,.ref t0,.ref bb]):=jc;let B':=B0.upd_new (o:=.tup [.str c.1,.ref t0,.ref bb]) nr;generalize af G r (.tup [.str c.1,.ref t0,.ref bb])=H0 at S X B';let tm:ai H0 (af H0 dl$ .lst$ dv++[.ref r]):=λb xs e=>by rw[ji$ jO e (S _ _ O) (by intro z;cases z)];exact e
   let t2:ai G (af H0 dl$ .lst$ dv++[.ref r]):=λb xs e=>tm _ _ (S _ _ e);let t1:ai R (af H0 dl$ .lst$ dv++[.ref r]):=λb xs e=>t2 _ _ (t3 _ _ e);refine f0 _ _ #[_,_,_,_,_,_,_,ds++[#[c.1,r,t0,bb,Bb]],_,Z,jc,(hD.mono t1).snoc #[bs,Z,tm _ _ X,t2 _ _ c1,a1.mono t2],by rw[Ly,a0];rfl,#[Jk x.1 #[#[#[zs,z2,I.1.1],M7 I.2 UK,LJ f5 UJ],I.1.2],by rw[Mc,x.2,NM,LK,hc];rfl],?_,hd.mono t1,?_,B'.eq$ ji$ Me d3,?_,(by rw[NM,LK,hc];exact(p0.mono t1).snoc (d:=#[c.1,r,t0,bb,Bb]) (t1 _ _ w2) (LJ e8.2 UJ))]
   .let⟨q3,e1,e2⟩:=G0.h;rw[ji e6];exact S _ _$ L _ _ G9.hsp.2 G9.hsp.1$ s9 _ _ hh
   .rw[ji s5];exact S _ _ G0.g
   .refine aD.upd_own (λb o n e=>?_) n6;exact S _ _$ L _ _ n (jl e e')$ s9 _ _$ k8 _ _ n e
 .intro σ R l;let⟨o6,o7,o8,o1,o2,o3,o4,ds,dv,rfl,h5,hD,a0,x,hh,hd,c0,B8,k8,p0⟩:=l;refine m9 _ _ ?_;refine#[_,Z,dl,dv,Z,.inl #[aJ.of h5,λt nt=>?_]];let nn:(ds.map Df.f).Nodup:=by
   rw[x.2,e0];refine List.Nodup.sublist (Nr _ _) ?_;let e:∀m,m<=8->ys.take m=(ys.take 8).take m:=λm hm=>by rw[Tj,ND hm]
   rw[e _ UK];exact C.2.sublist$ Nr _ _
  exact q t ds dv _ jc (hD.mono$ ae.tm$ jf nt) UK (hs.map λc=>c.2.length) #[λd hd=>#[(x.1 d hd).1,by let e:=x.2;rw[MP (by rw[Lw];omega)]at e;rw[e];let z:=(x.1 d hd).2;rw[show(hs.map λc=>(c.1,c.2.length))=(hs.map (·.1)).zip (hs.map λc=>c.2.length) by rw[List.zip_map']]at z;exact z],nn,λy hy=>by rw[x.2,e0]at hy;exact C.1 y$ MD$ MD hy] (by let z:=p0.mono (ae.tm$ jf (o:=.tup dv) nt);rw[MP (by rw[Lw];omega)]at z;exact z) (B8.upd_new nt) (k8.upd_new nt)
theorem lN:0<=υ:=by decide
theorem i8:1<=υ:=by decide
theorem bL:2<=υ:=by decide
theorem fq:3<=υ:=by decide
theorem su:4<=υ:=by decide
theorem ai.trans(a:ai H h)(b:ai h d):ai H d:=λc x e=>b c x (a c x e)
theorem ai.refl:ai H H:=λ_ _ e=>e
def fj(H:Hp)(y:List ρ)(k:Nat)(a:η):Prop:=∃T,bh H T a/\T.Good y/\T.depth<=k
theorem fj.mono(h:fj H y k a)(m:ai H b):fj b y k a:=let #[T,c,d]:=h;#[T,c.mono m,d]
theorem fj.ok(h:fj H y k a)(m:k < 6):∃T,bh H T a/\dq y T:=let #[T,b,c,d]:=h;#[T,b,c,M7 d m]
section
variable {Cf:ik}{H:Hp}{ys:List ρ}
theorem Ed(h:H a=δ (.tup [.str "num",.int n]))(b:0<=n)(c:n < 1000000000000000000):fj H ys 0 a:=#[.num n,h,#[b,c],LF _]
theorem wC(h:H a=δ (.tup [.str "var",.str x]))(b:x∈ys):fj H ys 0 a:=#[.var x,h,b,LF _]
def Sg(s:ρ):Prop:=∃i,i < 6/\s=Il i
theorem Bv(h:H a=δ (.tup [.str "op",.str s,.ref b,.ref c]))(d:Sg s)(e:fj H ys j b)(f:fj H ys k c)(q:j < n)(r:k < n):fj H ys n a:=by let⟨i,g,rfl⟩:=d;let⟨B,l,m,t⟩:=e;let⟨C,o,p,u⟩:=f;exact#[.op i B C,#[b,c,h,l,o],#[g,m,p],by show max B.depth C.depth+1<=n;omega]
theorem zj:Sg "+":=#[0,UJ,UM]
theorem Ky:Sg "-":=#[1,UJ,UM]
theorem XE:Sg "*":=#[2,UJ,UM]
theorem Ae:Sg "/":=#[3,UJ,UM]
theorem Q5:Sg "<":=#[4,UJ,UM]
theorem Gp:Sg "=":=#[5,UJ,UM]
theorem yE(h:0<=d)(a:d < 4):∃s,dO [ri "+",.str "+",.str "*",.str "-"] d=δ (.str s)/\Sg s:=by
 rcases(by omega:d=0∨d=1∨d=2∨d=3) with rfl |rfl |rfl |rfl
 .exact#[_,Z,zj]
 .exact#[_,Z,zj]
 .exact#[_,Z,XE]
 .exact#[_,Z,Ky]
theorem yD(h:0<=d)(a:d < 3):∃c,dO (Str.cps "<=*").toList d=δ c/\Sg #[(ε [c])]:=by
 rcases(by omega:d=0∨d=1∨d=2) with rfl |rfl |rfl
 .exact#[_,Z,Q5]
 .exact#[_,Z,Gp]
 .exact#[_,Z,XE]
theorem FN{P:η->Prop}(e:0<=d)(f:d < 2)(h:P a)(c:P b):∃x,dO [rs a,.ref b] d=↑x/\P x:=by
 rcases(by omega:d=0∨d=1) with rfl |rfl
 .exact#[_,Z,h]
 .exact#[_,Z,c]
theorem FP{P:η->Prop}(g:0<=d)(i:d < 3)(h:P a)(e:P b)(f:P c):∃x,dO [rs a,.ref b,.ref c] d=↑x/\P x:=by
 rcases(by omega:d=0∨d=1∨d=2) with rfl |rfl |rfl
 .exact#[_,Z,h]
 .exact#[_,Z,e]
 .exact#[_,Z,f]
theorem FQ{P:η->Prop}(h:P a)(d:P b)(c:Bool):∃x,dO [rs a,.ref b] (if c then 1 else 0)=↑x/\P x:=by
 cases c
 .exact#[_,Z,h]
 .exact#[_,Z,d]
def cf(Cf:ik)(H:Hp)(ys:List ρ)(d:Nat)(v:V):Prop:=∃s,io H v s/\(s.Ok ys/\s.Cs Cf)/\s.dep<=d/\s.size<=1+20*d
def gX(Cf:ik)(H:Hp)(ys:List ρ)(d:Nat)(x:List V):Prop:=∃b,dG H b x/\(b.Ok ys/\b.Cs Cf)/\b.dep<=d/\b.size<=(1+20*d)*x.length
theorem cf.mono(h:cf Cf H ys d v)(m:ai H a):cf Cf a ys d v:=let #[s,b,c]:=h;#[s,b.mono m,c]
theorem gX.mono(h:gX Cf H ys d x)(m:ai H a):gX Cf a ys d x:=let #[s,b,c]:=h;#[s,b.mono m,c]
theorem cf.up(h:cf Cf H ys 0 v):cf Cf H ys d v:=let #[s,a,b,c,e]:=h;#[s,a,b,UK,UK]
theorem Ko:gX Cf H ys d []:=#[.nil,Z,#[trivial,trivial],LF _,LF _]
theorem Jy{xs:List V}(h:gX Cf H ys d xs)(g:gX Cf H ys d z):gX Cf H ys d (xs++z):=by let⟨a,c,A,f,i⟩:=h;let⟨b,e,B,j,k⟩:=g;refine#[a.app b,e.app c,#[Km A.1 B.1,Kl A.2 B.2],by rw[zo];omega,?_];rw[jY,Ly,Nat.mul_add];omega
theorem zA(h:cf Cf H ys d v):gX Cf H ys d [v]:=by let⟨s,a,b,c,e⟩:=h;exact#[s,a.bd,b,c,by show s.size<=(1+20*d)*1;omega]
theorem jX(h:cf Cf H ys d v)(g:gX Cf H ys d xs):gX Cf H ys d (v::xs):=Jy (xs:=[v]) (zA h) g
theorem Qp{l:Lf}(h:H p=δ (.tup v))(a:wY H l v)(b:l.Ok ys)(c:l.Cs Cf):cf Cf H ys 0 (.ref p):=#[.lf p l .nil,.lf p l v h a,#[#[b,trivial],c,trivial],Lx 0,Lx 1]
theorem Gx(h:H p=δ (.tup [.str "read",.str x,.ref t]))(a:x∈ys)(b:fj H ys k t)(c:k < 6:=by decide):cf Cf H ys 0 (.ref p):=by let⟨T,d,e⟩:=b.ok c;exact Qp (l:=.rd x t T) h #[Z,d] #[a,e] trivial
theorem Gy(h:H p=δ (.tup [.str "set",.str x,.ref t]))(a:x∈ys)(b:fj H ys k t)(c:k < 6:=by decide):cf Cf H ys 0 (.ref p):=by let⟨T,d,e⟩:=b.ok c;exact Qp (l:=.st x t T) h #[Z,d] #[a,e] trivial
theorem Gv(h:H p=δ (.tup [.str "give",.ref t]))(a:fj H ys k t)(b:k < 6:=by decide):cf Cf H ys 0 (.ref p):=by let⟨T,c,d⟩:=a.ok b;exact Qp (l:=.gv t T) h #[Z,c] d trivial
theorem Gz(h:H p=δ (.tup [.str "write",.ref t,.ref u]))(a:fj H ys k t)(b:fj H ys j u)(c:k < 6:=by decide)(d:j < 6:=by decide):cf Cf H ys 0 (.ref p):=by let⟨T,e,f⟩:=a.ok c;let⟨U,g,i⟩:=b.ok d;exact Qp (l:=.wr t u T U) h #[Z,e,g] #[f,i] trivial
theorem Gu{f:ρ}(h:H p=δ (.tup [.str "call",.str x,.str f,.ref q]))(b:x∈ys)(a:(f,2)∈Cf)(d:H q=δ (.tup [.ref t,.ref u]))(e:fj H ys k t)(g:fj H ys j u)(i:k < 6:=by decide)(m:j < 6:=by decide):cf Cf H ys 0 (.ref p):=by
 let⟨T,n,o⟩:=e.ok i;let⟨U,r,s⟩:=g.ok m;refine Qp (l:=.cl x f q [(t,T),(u,U)]) h #[Z,d,λc hc=>?_] #[b,(by show 2<=6;decide),λc hc=>?_] a
 .rcases Ξ.mp hc with rfl |hc
  .exact n
  .rw[τ.mp hc];exact r
 .rcases Ξ.mp hc with rfl |hc
  .exact o
  .rw[τ.mp hc];exact s
theorem Gw(h:H p=δ (.tup [.str "if",.ref t,.ref q,.ref Q]))(e:fj H ys k t)(f:H q=δ (.tup A))(g:H Q=δ (.tup B))(G:gX Cf H ys 0 A)(i:gX Cf H ys 0 B)(r:A.length+B.length<=20)(j:k < 6:=by decide):cf Cf H ys 1 (.ref p):=by let⟨T,l,m⟩:=e.ok j;let⟨a,n,c,s,u⟩:=G;let⟨b,o,d,v,x⟩:=i;exact#[.ite p t T a b .nil,.ite p t T a b q Q A B h l f g n o,#[#[m,c.1,d.1,trivial],c.2,d.2,trivial],(by show max (max a.dep b.dep+1) 0<=1;omega),(by show a.size+b.size+0+1<=21;omega)]
theorem wc(h:H p=δ (.tup [.str "while",.ref t,.ref q]))(c:fj H ys k t)(d:H q=δ (.tup A))(g:gX Cf H ys 0 A)(l:A.length<=20)(e:k < 6:=by decide):cf Cf H ys 1 (.ref p):=by let⟨T,f,i⟩:=c.ok e;let⟨a,j,b,m,n⟩:=g;exact#[.loop p t T a .nil,.loop p t T a q A h f d j,#[#[i,b.1,trivial],b.2,trivial],(by show max (a.dep+1) 0<=1;omega),(by show a.size+0+1<=21;omega)]
def oN(Cf:ik)(n:Nat)(H:Hp)(r:η)(f:ρ):Prop:=∃d:Df,Ay H d (.ref r)/\(i9 d/\d.b.Cs Cf)/\∃p:List ρ,H d.pa=δ (.tup$ p.map ri)/\p.length=n/\d.f=f
theorem oN.mono(h:oN Cf n H r f)(m:ai H a):oN Cf n a r f:=let #[d,b,c,p,e,g]:=h;#[d,b.mono m,c,p,m _ _ e,g]
theorem EZ{f:ρ}{p:List ρ}(h:H r=δ (.tup [.str f,.ref a,.ref b]))(d:H a=δ (.tup$ p.map ri))(e:p.length=n)(i:H b=δ (.tup x))(g:gX Cf H ys 1 x)(l:x.length<=100)(j:ys.length<=20):oN Cf n H r f:=by let⟨c,k,C,m,o⟩:=g;exact#[#[f,r,a,b,c],#[x,Z,h,i,k],#[#[#[ys,j,C.1],(by show c.dep < 8;omega),(by show c.size<=3000;omega)],C.2],p,d,e,Z]
structure Wd(H0 H:Hp)(p wl:η)(ys:List ρ):Prop where
 B:ap H p
 K:aD p H0 H
 w:H wl=δ (.lst$ ys.map ri)
theorem Wd.np(h:Wd b H p a ys):a≠p:=qt h.B h.w
theorem Wd.same(h:Wd a H p b ys)(s:ae H c):Wd a c p b ys:=#[h.B.same s,h.K.trans$ aD.of_same s,s _ _ h.w]
theorem Wd.but(h:Wd b H p c ys)(B:ap a p)(k:aD p H a):Wd b a p c ys:=#[B,h.K.trans k,k _ _ h.np h.w]
theorem Wd.own{xs:List V}(h:Wd a H p b ys)(n:a l=θ)(L:l≠p)(c:l≠b):Wd a (af H l$ .lst z) p b ys:=#[h.B.eq$ ji$ Me L,h.K.upd_own n,by rw[ji$ Me c];exact h.w]
theorem QU(h:H l=δ (.lst x)):ai H (af H l$ .lst a):=λb u e=>by rw[ji$ jO e h (by intro z;cases z)];exact e
end
inductive nE(d:List V)(H:Hp)(Q:VK)(c:XK):Prop
 |mk(p a b:η)(e:List ρ)(k:Nat)(_:d=[.ref p,.ref a,.ref b])(_:ap H p)(_:fj H e k a)(_:fj H e k b)(_:∀(r:η) (H':Hp),fj H' e (k+1) r->ap H' p->aD p H H'->Q (.ref r) H')
inductive dj(n:Nat)(b:List V)(H:Hp)(Q:VK)(a:XK):Prop
 |mk(p c:η)(f g:ρ)(d:List ρ)(_:b=[.ref p,.str f,.str g,.ref c])(_:ap H p)(_:H c=δ (.lst (d.map ri)))(_:d.length=6)(_:∀(r:η) (H':Hp),oN [(g,2)] n H' r f->ap H' p->aD p H H'->Q (.ref r) H')
noncomputable abbrev Ih:cv:=bK 73
noncomputable abbrev oB:cv:=bK 74
noncomputable abbrev ip:cv:=bK 75
noncomputable abbrev gg:cv:=bK 76
noncomputable abbrev uW:cv:=bK 77
theorem HY{A:List V}(h:A.length=5):∃a b c d e,A=[a,b,c,d,e]:=by
 cases A with
 |nil=>cases h
 |cons a r=>
  cases r with
  |nil=>cases h
  |cons b R=>
   cases R with
   |nil=>cases h
   |cons c f=>
    cases f with
    |nil=>cases h
    |cons d g=>
     cases g with
     |nil=>cases h
     |cons e i=>
      cases i with
      |nil=>exact#[a,b,c,d,e,Z]
      |cons _ _=>cases h
theorem J'{n:Nat}:on (n+1) 0=δ 0:=by unfold on;rw[LP UJ,LP UK];rfl
theorem K'{n:Nat}:on (n+2) 1=δ 1:=by unfold on;rw[LP UJ,LP UK];rfl
theorem lR:dO (v::u::y) 1=δ u:=jJ (j:=1) Z
structure Fw(p:η)(H H':Hp):Prop where
 t:ai H H'
 b:aD p H H'
theorem Fw.refl:Fw p H H:=#[ai.refl,aD.refl]
theorem Fw.trans(a:Fw p H h)(b:Fw p h c):Fw p H c:=#[a.t.trans b.t,a.b.trans b.b]
theorem Fw.new{p:η}{H:Hp}{o:HO}(n:H r=θ):Fw p H (af H r o):=#[ae.tm$ jf n,aD.of_same$ jf n]
theorem Fw.same(s:ae H h):Fw p H h:=#[ae.tm s,aD.of_same s]
theorem Fw.but(B:ap H p)(c:aD p H h):Fw p H h:=#[c.tm B,c]
def n8(P:Hp->V->Prop):Prop:=∀H h v,ai H h->P H v->P h v
def Ev(a:Hp)(p W:η)(y:List ρ)(b:Hp)(c:_L.St)(t:TE)(P:Hp->V->Prop):Prop:=∀(H:Hp) (Q:VK),Fw p b H->Wd a H p W y->(∀v h,P h v->Wd a h p W y->Fw p H h->Q v h)->t c H Q
def PT(y:List ρ)(k:Nat)(H:Hp)(v:V):Prop:=∃a,v= .ref a/\fj H y k a
def PB(C:ik)(y:List ρ)(d n:Nat)(H:Hp)(v:V):Prop:=∃a x,v= .ref a/\H a=δ (.tup x)/\gX C H y d x/\x.length<=n
def PN(y:List ρ)(_:Hp)(v:V):Prop:=∃x,v= .str x/\x∈y
def PG(_:Hp)(v:V):Prop:=∃s,v= .str s/\Sg s
def PP(n:Nat)(H:Hp)(v:V):Prop:=∃(a:η) (x:List ρ),v= .ref a/\H a=δ (.tup$ x.map ri)/\x.length=n
def sq(y:ρ)(_:Hp)(v:V):Prop:=v= .str y
def PD(C:ik)(n:Nat)(f:ρ)(H:Hp)(v:V):Prop:=∃a,v= .ref a/\oN C n H a f
section
variable {Cf:ik}{ys:List ρ}{H0 Hb:Hp}{p wl:η}{σ:_L.St}
theorem aq:n8 (PT ys k):=λ_ _ _ m #[a,e,h]=>#[a,e,h.mono m]
theorem du:n8 (PB Cf ys d n):=λ_ _ _ m #[a,x,e,h,H,b]=>#[a,x,e,m _ _ h,H.mono m,b]
theorem dR:n8 λH v=>cf Cf H ys d v:=λ_ _ _ m h=>h.mono m
theorem ig:n8 (PD Cf n f):=λ_ _ _ m #[a,e,h]=>#[a,e,h.mono m]
theorem Ev.up{P R:Hp->V->Prop}(h:Ev H0 p wl ys Hb σ t P)(k:∀H v,P H v->R H v):Ev H0 p wl ys Hb σ t R:=λH Q m W q=>h H Q m W λv a x=>q v a (k _ _ x)
theorem jH{P:Hp->V->Prop}(e:σ[i]?=δ (δ v))(M:n8 P)(h:P Hb v):Ev H0 p wl ys Hb σ (a9 i) P:=λH Q m W q=>#[v,e,q v H (M _ _ _ m.t h) W .refl]
theorem zR(h:Sg s):Ev H0 p wl ys Hb σ (tC$ .str s) PG:=λH Q m W q=>q _ H #[s,Z,h] W .refl
theorem j6{K:β}(e:σ[j]?=δ (↑wl))(a:0<=i)(b:i < (ys.length:Int)):Ev H0 p wl ys Hb σ (dW (lr K) (a9 j)$ tC$ .int i) (PN ys):=λH Q m W q=>by let⟨y,c,h⟩:=Kk (ys:=ys) a b;exact#[_,e,wl,_,_,_,Z,Z,aJ.of W.w,h,q _ H #[y,Z,c] W .refl]
theorem ke{Q:VK}{P:Hp->V->Prop}(W:Wd H0 H p wl ys)(q:∀v h,P h v->Wd H0 h p wl ys->Fw p H h->Q v h)(n:H r=θ)(x:ai H (af H r o)->af H r o r=δ o->P (af H r o) (.ref r)):Q (.ref r) (af H r o):=
 q _ _ (x (ae.tm$ jf n) jc) (W.same$ jf n) (.new n)
abbrev wS(n:Int):TE:=dM aZ [] E0 (am (a9 0)$ am (tC$ .int n) aL)
def PK(n:Int)(_:Hp)(v:V):Prop:=∃d:Int,v= .int d/\0<=d/\d < n
theorem zb(e:σ[0]?=δ (↑p))(h:1<=n)(c:n<=1000):Ev H0 p wl ys Hb σ (wS n) (PK n):=λH Q m W q=>
 #[_,e,p,n,Z,W.B,UK,UK,λd f D a b E=>q _ _ #[d,Z,D,a] (W.but b$ aD.of_eq E) (.but W.B$ aD.of_eq E)]
theorem kf(h:Ev H0 p wl ys Hb σ t (PK n))(g:n<=1000000000000000000):Ev H0 p wl ys Hb σ (bn$ am (tC$ .str "num")$ am t aL) (PT ys 0):=λH Q m W q=>
 h H _ m W λv i #[d,e,D,j] a b=>#[bL,λr N=>ke (P:=PT ys 0) a (λV c x f k=>q V c x f (b.trans k)) N λ_ z=>#[r,Z,Ed (by rw[z,e]) D UK]]
theorem JP(h:0<=n)(a:n < m):Ev H0 p wl ys Hb σ (tC$ .int n) (PK m):=λH Q _ W q=>q _ H #[n,Z,h,a] W .refl
theorem QV(h:Ev H0 p wl ys Hb σ t (PK n))(c:0<=m):Ev H0 p wl ys Hb σ (dW (wQ λi j=>rm (i+j)) (tC$ .int m) t) (PK$ m+n):=λH Q M W q=>
 h H _ M W λv a #[d,e,D,f] b k=>#[m,d,Z,e,q _ a #[m+d,Z,UK,UK] b k]
theorem qY(h:Ev H0 p wl ys Hb σ t (PN ys)):Ev H0 p wl ys Hb σ (bn$ am (tC$ .str "var")$ am t aL) (PT ys 0):=λH Q m W q=>
 h H _ m W λv i #[d,e,a] b c=>#[bL,λr n=>ke (P:=PT ys 0) b (λV f x g k=>q V f x g (c.trans k)) n λ_ z=>#[r,Z,wC (by rw[z,e]) a]]
theorem zH{n:Nat}(h:Ev H0 p wl ys Hb σ T PG)(f:Ev H0 p wl ys Hb σ g (PT ys j))(i:Ev H0 p wl ys Hb σ l (PT ys k))(o:j < n)(u:k < n):Ev H0 p wl ys Hb σ (bn$ am (tC$ .str "op")$ am T$ am g$ am l aL) (PT ys n):=λH Q m W q=>
 h H _ m W λM v #[s,E,X] y c=>f v _ (m.trans c) y λO A #[a,B,C] D d=>i A _ ((m.trans c).trans d) D λR S #[b,F,G] I e=>#[su,λr N=>ke (P:=PT ys n) I (λV J x L k=>q V J x L (((c.trans d).trans e).trans k)) N λt z=>
  #[r,Z,Bv (by rw[z,E,B,F]) X ((C.mono e.t).mono t) (G.mono t) o u]]
theorem Fg(e:σ[0]?=δ (↑p)):Ev H0 p wl ys Hb σ (dW yK (tC$ .str "<=*")$ wS 3) PG:=λH Q m W q=>
 zb e UJ UJ H _ m W λv h #[d,E,D,a] b k=>by let⟨g,i,x⟩:=yD D a;exact#["<=*",d,g,Z,E,UM,i,q _ h #[_,Z,x] b k]
theorem Y3{K:β}(e:σ[0]?=δ (↑p))(r:Ev H0 p wl ys Hb σ T (PT ys k))(s:Ev H0 p wl ys Hb σ u (PT ys k)):Ev H0 p wl ys Hb σ (dW (lr K) (nL$ am T$ am u aL)$ wS 2) (PT ys k):=λH Q m W q=>
 r H _ m W λV y #[a,E,X] z c=>s y _ (m.trans c) z λA C #[b,D,F] h f=>#[bL,λl n=>zb e UJ UJ _ _ (((m.trans c).trans f).trans$ .new n) (h.same$ jf n) λv G #[d,I,J,L] M j=>by
  let⟨g,i,x⟩:=FN (P:=fj C ys k) J L (X.mono f.t) F;rw[<- E,<- D]at i;let t:=(Fw.new (p:=p) (o:=HO.lst [V,A]) n).trans j;exact#[l,_,d,_,Z,I,aJ.of$ j.b _ _ (h.B.ne n) jc,i,q _ G #[g,Z,x.mono t.t] M ((c.trans f).trans t)]]
theorem AN{K:β}(e:σ[0]?=δ (↑p))(u:Ev H0 p wl ys Hb σ T (PT ys k))(y:Ev H0 p wl ys Hb σ z (PT ys k))(A:Ev H0 p wl ys Hb σ C (PT ys k)):Ev H0 p wl ys Hb σ (dW (lr K) (nL$ am T$ am z$ am C aL)$ wS 3) (PT ys k):=λH Q m W q=>
 u H _ m W λV D #[a,E,X] F f=>y D _ (m.trans f) F λG I #[b,J,L] M h=>A I _ ((m.trans f).trans h) M λN O #[c,R,S] r j=>#[fq,λl n=>zb e UJ UJ _ _ ((((m.trans f).trans h).trans j).trans$ .new n) (r.same$ jf n) λv U #[d,Y,d0,d1] W4 s=>by
  let⟨g,i,x⟩:=FP (P:=fj O ys k) d0 d1 (X.mono (h.trans j).t) (L.mono j.t) S;rw[<- E,<- J,<- R]at i;let t:=(Fw.new (p:=p) (o:=HO.lst [V,G,N]) n).trans s;exact#[l,_,d,_,Z,Y,aJ.of$ s.b _ _ (r.B.ne n) jc,i,q _ U #[g,Z,x.mono t.t] W4 (((f.trans h).trans j).trans t)]]
theorem Fd{K:β}(e:σ[0]?=δ (↑p))(r:1<=n)(s:n<=1000)(u:Ev H0 p wl ys Hb σ T (PT ys k))(y:Ev H0 p wl ys Hb σ z (PT ys k)):Ev H0 p wl ys Hb σ (dW (lr K) (nL$ am T$ am z aL)$ Hj (λX H Q=>(∃i,X=[rm i]/\Q (rm i) H)∨∃k,X=[V.bl k]/\Q (rm (if k=ν then 1 else 0)) H)$ am (dW FT (wS n)$ tC$ .int 0) aL) (PT ys k):=λH Q m W q=>
 u H _ m W λA C #[a,E,D] F c=>y C _ (m.trans c) F λG I #[b,J,L] h f=>#[bL,λl N=>zb e r s _ _ (((m.trans c).trans f).trans$ .new N) (h.same$ jf N) λv M #[d,O,S,U] R j=>by
  subst O;refine#[Z,.inr #[_,Z,?_]];let⟨g,i,x⟩:=FQ (P:=fj I ys k) (D.mono f.t) L _;rw[<- E,<- J]at i;let t:=(Fw.new (p:=p) (o:=HO.lst [A,G]) N).trans j;exact#[l,_,_,_,Z,Z,aJ.of$ j.b _ _ (h.B.ne N) jc,i,q _ M #[g,Z,x.mono t.t] R ((c.trans f).trans t)]]
theorem Kd(e:σ[0]?=δ (↑p))(h:Ev H0 p wl ys Hb σ T (PT ys k))(g:Ev H0 p wl ys Hb σ i (PT ys k)):Ev H0 p wl ys Hb σ (dM nE [] E0$ am (a9 0)$ am T$ am i aL) (PT ys$ k+1):=λH Q m W q=>
 #[_,e,h H _ m W λv j #[a,E,x] l d=>g j _ (m.trans d) l λV y #[b,n,X] c f=>#[p,a,b,ys,k,by rw[E,n];rfl,c.B,x.mono f.t,X,λr o s u C=>q _ o #[r,Z,s] (c.but u C) ((d.trans f).trans$ .but c.B C)]]
theorem xG{w:ρ}{T a:TE}{A B R:Hp->V->Prop}(M:n8 A)(d:n8 B)(e:Ev H0 p wl ys Hb σ T A)(f:Ev H0 p wl ys Hb σ a B)(h:∀H r u v,H r=δ (.tup [.str w,u,v])->A H u->B H v->R H (.ref r)):Ev H0 p wl ys Hb σ (bn$ am (tC$ .str w)$ am T$ am a aL) R:=λH Q m W q=>
 e H _ m W λC g X i b=>f g _ (m.trans b) i λD E j l c=>#[fq,λr n=>ke (P:=R) l (λo s x y k=>q o s x y ((b.trans c).trans k)) n λt z=>h _ _ _ _ z (M _ _ _ t$ M _ _ _ c.t X) (d _ _ _ t j)]
theorem HR{w:ρ}{T:TE}{A R:Hp->V->Prop}(M:n8 A)(a:Ev H0 p wl ys Hb σ T A)(h:∀H r u,H r=δ (.tup [.str w,u])->A H u->R H (.ref r)):Ev H0 p wl ys Hb σ (bn$ am (tC$ .str w)$ am T aL) R:=λH Q m W q=>
 a H _ m W λf g X b c=>#[bL,λr n=>ke (P:=R) b (λv d x e k=>q v d x e (c.trans k)) n λt z=>h _ _ _ z (M _ _ _ t X)]
theorem BZ{w:ρ}{T d e:TE}{A B C R:Hp->V->Prop}(M:n8 A)(f:n8 B)(g:n8 C)(i:Ev H0 p wl ys Hb σ T A)(j:Ev H0 p wl ys Hb σ d B)(l:Ev H0 p wl ys Hb σ e C)(h:∀H r u v x,H r=δ (.tup [.str w,u,v,x])->A H u->B H v->C H x->R H (.ref r)):Ev H0 p wl ys Hb σ (bn$ am (tC$ .str w)$ am T$ am d$ am e aL) R:=λH Q m W q=>
 i H _ m W λL n X o a=>j n _ (m.trans a) o λO s y D b=>l s _ ((m.trans a).trans b) D λS U E F c=>#[su,λr N=>ke (P:=R) F (λG I x J k=>q G I x J (((a.trans b).trans c).trans k)) N λt z=>h _ _ _ _ _ z (M _ _ _ t$ M _ _ _ (b.trans c).t X) (f _ _ _ t$ f _ _ _ c.t y) (g _ _ _ t E)]
theorem xY:n8 (PN ys):=λ_ _ _ _ h=>h
theorem qZ{t T:TE}{k:Nat}(h:Ev H0 p wl ys Hb σ t (PN ys))(b:Ev H0 p wl ys Hb σ T (PT ys k))(c:k < 6):Ev H0 p wl ys Hb σ (bn$ am (tC$ .str "read")$ am t$ am T aL) (λH v=>cf Cf H ys 0 v):=xG xY aq h b λH r u v z #[x,e,d] #[a,E,f]=>Gx (by rw[z,e,E]) d f c
theorem Ja{t T:TE}{k:Nat}(h:Ev H0 p wl ys Hb σ t (PN ys))(b:Ev H0 p wl ys Hb σ T (PT ys k))(c:k < 6):Ev H0 p wl ys Hb σ (bn$ am (tC$ .str "set")$ am t$ am T aL) (λH v=>cf Cf H ys 0 v):=xG xY aq h b λH r u v z #[x,e,d] #[a,E,f]=>Gy (by rw[z,e,E]) d f c
theorem Ke{t T:TE}{j k:Nat}(h:Ev H0 p wl ys Hb σ t (PT ys j))(b:Ev H0 p wl ys Hb σ T (PT ys k))(c:j < 6)(d:k < 6):Ev H0 p wl ys Hb σ (bn$ am (tC$ .str "write")$ am t$ am T aL) (λH v=>cf Cf H ys 0 v):=xG aq aq h b λH r u v z #[x,e,f] #[a,E,g]=>Gz (by rw[z,e,E]) f g c d
theorem Kf{t:TE}{k:Nat}(h:Ev H0 p wl ys Hb σ t (PT ys k))(b:k < 6):Ev H0 p wl ys Hb σ (bn$ am (tC$ .str "give")$ am t aL) (λH v=>cf Cf H ys 0 v):=HR aq h λH r v z #[a,e,c]=>Gv (by rw[z,e]) c b
theorem sW{n o T c:TE}{j k:Nat}(C:Ev H0 p wl ys Hb σ n (PN ys)){f:ρ}(D:Ev H0 p wl ys Hb σ o (sq f))(d:(f,2)∈Cf)(F:Ev H0 p wl ys Hb σ T (PT ys j))(G:Ev H0 p wl ys Hb σ c (PT ys k))(I:j < 6)(J:k < 6):Ev H0 p wl ys Hb σ (bn$ am (tC$ .str "call")$ am n$ am o$ am (bn$ am T$ am c aL) aL) (λH v=>cf Cf H ys 0 v):=by
 let' R:Hp->V->Prop:=λH v=>∃q a b,v= .ref q/\H q=δ (.tup [.ref a,.ref b])/\fj H ys j a/\fj H ys k b
 let M:n8 R:=λ_ _ _ m #[q,a,b,e,g,L,i]=>#[q,a,b,e,m _ _ g,L.mono m,i.mono m];let N:Ev H0 p wl ys Hb σ (bn$ am T$ am c aL) R:=λH Q m W q=>
  F H _ m W λv2 O #[a,E,X] S s=>G O _ (m.trans s) S λv3 H3 #[b,l,U] Y A=>#[bL,λr nr=>ke (P:=R) Y (λv' H' x W' k=>q v' H' x W' ((s.trans A).trans k)) nr λt z=>#[r,a,b,Z,by rw[z,E,l],(X.mono A.t).mono t,U.mono t]]
 exact BZ xY (B:=sq f) (λ_ _ _ _ h=>h) M C D N λH r u v x z #[y,e1,g] (E:v= .str f) #[q,a,b,l,i,h4,h5]=>Gu (f:=f) (by rw[z,e1,E,l]) g d i h4 h5 I J
theorem sY{t T b:TE}{k n m:Nat}(h:Ev H0 p wl ys Hb σ t (PT ys k))(c:Ev H0 p wl ys Hb σ T (PB Cf ys 0 n))(d:Ev H0 p wl ys Hb σ b (PB Cf ys 0 m))(e:k < 6)(s:n+m<=20):Ev H0 p wl ys Hb σ (bn$ am (tC$ .str "if")$ am t$ am T$ am b aL) (λH v=>cf Cf H ys 1 v):=
 BZ aq du du h c d λH r u v x z #[a,E,f] #[Q,X,g,i,j,y] #[A,B,l,o,q,C]=>Gw (by rw[z,E,g,l]) f i o j q UK e
theorem AR{t T:TE}{k n:Nat}(h:Ev H0 p wl ys Hb σ t (PT ys k))(b:Ev H0 p wl ys Hb σ T (PB Cf ys 0 n))(c:k < 6)(i:n<=20):Ev H0 p wl ys Hb σ (bn$ am (tC$ .str "while")$ am t$ am T aL) (λH v=>cf Cf H ys 1 v):=
 xG aq du h b λH r u v z #[a,e,d] #[q,x,E,f,g,j]=>wc (by rw[z,e,E]) d f g UK c
theorem AG{d:Nat}:Ev H0 p wl ys Hb σ (bn aL) (PB Cf ys d 0):=λH Q m W q=>#[lN,λr n=>ke (P:=PB Cf ys d 0) W q n λt z=>#[r,[],Z,z,Ko,Lx 0]]
theorem JH(h:Ev H0 p wl ys Hb σ T (λH v=>cf Cf H ys d v)):Ev H0 p wl ys Hb σ (bn$ am T aL) (PB Cf ys d 1):=λH Q m W q=>
 h H _ m W λf g X a b=>#[i8,λr n=>ke (P:=PB Cf ys d 1) a (λV c x e k=>q V c x e (b.trans k)) n λt z=>#[r,_,Z,z,zA$ X.mono t,Lx 1]]
theorem Qq(h:Ev H0 p wl ys Hb σ T (λH v=>cf Cf H ys d v))(c:Ev H0 p wl ys Hb σ e (λH v=>cf Cf H ys d v)):Ev H0 p wl ys Hb σ (bn$ am T$ am e aL) (PB Cf ys d 2):=λH Q m W q=>
 h H _ m W λs f X g a=>c f _ (m.trans a) g λu y i j b=>#[bL,λr n=>ke (P:=PB Cf ys d 2) j (λV l x o k=>q V l x o ((a.trans b).trans k)) n λt z=>#[r,_,Z,z,jX ((X.mono b.t).mono t)$ zA$ i.mono t,Lx 2]]
theorem AH(h:Ev H0 p wl ys Hb σ T (λH v=>cf Cf H ys d v))(e:Ev H0 p wl ys Hb σ f (λH v=>cf Cf H ys d v))(g:Ev H0 p wl ys Hb σ i (λH v=>cf Cf H ys d v)):Ev H0 p wl ys Hb σ (bn$ am T$ am f$ am i aL) (PB Cf ys d 3):=λH Q m W q=>
 h H _ m W λC j X l a=>e j _ (m.trans a) l λD n o s b=>g n _ ((m.trans a).trans b) s λE F u y c=>#[fq,λr N=>ke (P:=PB Cf ys d 3) y (λV A x B k=>q V A x B (((a.trans b).trans c).trans k)) N λt z=>#[r,_,Z,z,jX ((X.mono (b.trans c).t).mono t)$ jX ((o.mono c.t).mono t)$ zA$ u.mono t,Lx 3]]
theorem qQ(h:Ev H0 p wl ys Hb σ T (PB Cf ys d n))(e:Ev H0 p wl ys Hb σ f (PB Cf ys d m))(B:n+m<=100):Ev H0 p wl ys Hb σ (dW uQ T f) (PB Cf ys d$ n+m):=λH Q M W q=>
 h H _ M W λV g #[a,x,E,i,X,L] j c=>e g _ (M.trans c) j λC D #[b,z,l,o,u,F] v k=>#[a,b,x,z,E,l,k.t _ _ i,o,LJ (show x.length+z.length<=100 by omega) UJ,λr y A s=>q _ y #[r,_,Z,A,Jy ((X.mono k.t).mono$ ae.tm s)$ u.mono$ ae.tm s,by rw[Ly];omega] (v.same s) ((c.trans k).trans$ .same s)]
theorem Qr(e:σ[i]?=δ (δ$ .str x)):Ev H0 p wl ys Hb σ (a9 i) (sq x):=jH e (λ_ _ _ _ h=>h) Z
theorem Qs(h:Ev H0 p wl ys Hb σ T (sq f))(g:Ev H0 p wl ys Hb σ i (PP m))(j:Ev H0 p wl ys Hb σ l (PB Cf ys 1 n))(O:n<=100)(o:ys.length<=20):Ev H0 p wl ys Hb σ (bn$ am T$ am i$ am l aL) (PD Cf m f):=λH Q M W q=>
 h H _ M W λv s (E:v= .str f) u c=>g s _ (M.trans c) u λR y #[a,S,A,B,L] C d=>j y _ ((M.trans c).trans d) C λU Y #[b,xs,D,F,X,l4] G e=>#[fq,λr N=>ke (P:=PD Cf m f) G (λV I x J k=>q V I x J (((c.trans d).trans e).trans k)) N λt z=>
  #[r,Z,EZ (f:=f) (by rw[z,E,A,D]) (t _ _$ e.t _ _ B) L (t _ _ F) (X.mono t) UK o]]
theorem sZ(h:Ev H0 p wl ys Hb σ T (PN ys)):Ev H0 p wl ys Hb σ (bn$ am T aL) (PP 1):=λH Q m W q=>
 h H _ m W λV f #[X,e,_] a b=>#[i8,λr n=>ke (P:=PP 1) a (λv c x d k=>q v c x d (b.trans k)) n λt z=>#[r,[X],Z,by rw[z,e];rfl,Z]]
theorem AO(h:Ev H0 p wl ys Hb σ T (PN ys))(b:Ev H0 p wl ys Hb σ c (PN ys)):Ev H0 p wl ys Hb σ (bn$ am T$ am c aL) (PP 2):=λH Q m W q=>
 h H _ m W λV d #[X,e,_] f a=>b d _ (m.trans a) f λs u #[g,E,_] i j=>#[bL,λr n=>ke (P:=PP 2) i (λv l x o k=>q v l x o ((a.trans j).trans k)) n λt z=>#[r,[X,g],Z,by rw[z,e,E];rfl,Z]]
theorem cf.lift(h:cf Cf H ys 0 v):cf Cf H ys 1 v:=h.up
theorem PB.lift(h:PB Cf ys 0 n H v):PB Cf ys 1 n H v:=let #[a,x,e,c,#[b,B,d,g,i],f]:=h;#[a,x,e,c,#[b,B,d,UK,UK],f]
theorem PB.more(h:PB Cf ys d n H v)(k:n<=m):PB Cf ys d m H v:=let #[a,x,e,b,c,f]:=h;#[a,x,e,b,c,LJ f k]
theorem Jb{a b:TS}(W:Wd H0 H p wl ys)(e:σ[0]?=δ (↑p))(g:1<=n)(i:n<=1000)(j:∀h,Wd H0 h p wl ys->Fw p H h->a D σ h)(l:∀h,Wd H0 h p wl ys->Fw p H h->b D σ h):i5 (i6$ dW FT (wS n)$ tC$ .int 0) a b D σ H:=
 zb (Hb:=H) e g i H _ .refl W λv c #[d,E,m,o] f k=>by subst E;exact#[Z,_,Z,bV (λ_=>j c f k) (λ_=>l c f k)]
theorem jS{D:a7}{P:Hp->V->Prop}(W:Wd H0 H p wl ys)(h:Ev H0 p wl ys H σ t P)(q:∀v a,P a v->Wd H0 a p wl ys->Fw p H a->D.nx (σ.set i$ δ v) a):eu t (bE i) D σ H:=h H _ .refl W q
theorem Kq{D:a7}{P:Hp->V->Prop}(W:Wd H0 H p wl ys)(h:Ev H0 p wl ys H σ t P)(q:∀v a,P a v->Wd H0 a p wl ys->D.rt v a):fi t D σ H:=h H _ .refl W λv a x b _=>q v a x b
theorem Ac{K:β}{D:a7}(W:Wd H0 H p wl ys)(d:Ev H0 p wl ys H σ T (PT ys 0))(e:Ev H0 p wl ys H σ f (PT ys 0))(g:Ev H0 p wl ys H σ l (PT ys 0))
  (q:∀u v w h,PT ys 0 h u->PT ys 0 h v->PT ys 0 h w->Wd H0 h p wl ys->Fw p H h->D.nx (((σ.set k$ δ w).set j$ δ v).set i$ δ u) h):Br K (bn$ am T$ am f$ am l aL) i j k D σ H:=
 d H _ .refl W λV m x o a=>e m _ a o λs y X z b=>g y _ (a.trans b) z λA E B C c=>#[fq,λr n=>#[r,_,_,_,Z,aC.of jc,q V s A _ (aq _ _ _ (ae.tm$ jf n)$ aq _ _ _ (b.trans c).t x) (aq _ _ _ (ae.tm$ jf n)$ aq _ _ _ c.t X) (aq _ _ _ (ae.tm$ jf n) B) (C.same$ jf n) (((a.trans b).trans c).trans$ .new n)]]
structure Ow(H0 H:Hp)(p wl l:η)(xs:List V):Prop where
 hl:H l=δ (.lst xs)
 np:l≠p
 lw:l≠wl
 l0:H0 l=θ
theorem Ow.fw(o:Ow H0 H p wl l x)(k:Fw p H h):Ow H0 h p wl l x:=#[k.b _ _ o.np o.hl,o.np,o.lw,o.l0]
theorem Ow.new(W:Wd H0 H p wl ys)(n:H l=θ):Ow H0 (af H l$ .lst x) p wl l x:=#[jc,W.B.ne n,(λe=>by let z:=W.w;rw[<- e,n]at z;cases z),W.K.none W.B n]
theorem FL{D:a7}(W:Wd H0 H p wl ys)(b:Ev H0 p wl ys H σ t (λH v=>cf Cf H ys 0 v))(q:∀l v h,Ow H0 h p wl l [v]->cf Cf h ys 0 v->Wd H0 h p wl ys->Fw p H h->D.nx (σ.set i$ ↑l) h):eu (nL$ am t aL) (bE i) D σ H:=
 b H _ .refl W λV c x a k=>#[i8,λl n=>q l V _ (.new a n) (x.mono$ ae.tm$ jf n) (a.same$ jf n) (k.trans$ .new n)]
theorem FM{D:a7}(W:Wd H0 H p wl ys)(c:Ev H0 p wl ys H σ T (λH v=>cf Cf H ys 0 v))(d:Ev H0 p wl ys H σ e (λH v=>cf Cf H ys 0 v))(q:∀l u v h,Ow H0 h p wl l [u,v]->cf Cf h ys 0 u->cf Cf h ys 0 v->Wd H0 h p wl ys->Fw p H h->D.nx (σ.set i$ ↑l) h):eu (nL$ am T$ am e aL) (bE i) D σ H:=
 c H _ .refl W λV f x g k=>d f _ k g λj m X a b=>#[bL,λl n=>q l V j _ (.new a n) ((x.mono b.t).mono$ ae.tm$ jf n) (X.mono$ ae.tm$ jf n) (a.same$ jf n) ((k.trans b).trans$ .new n)]
theorem Jz{K:β}{D:a7}(W:Wd H0 H p wl ys)(a:σ[i]?=δ (↑l))(o:Ow H0 H p wl l xs)(b:xs.length<=100)(c:Ev H0 p wl ys H σ T (λH v=>cf Cf H ys 0 v))
  (q:∀v h,cf Cf h ys 0 v->Ow H0 h p wl l (xs++[v])->Wd H0 h p wl ys->ai H h->D.nx σ h):pO (Iq K "list" lW (a9 i)$ am T aL) D σ H:=
 #[_,a,.inl #[Z,_,aJ.of o.hl],c H _ .refl W λv e x d k=>#[l,xs,v,Z,Z,(o.fw k).hl,M7 b UJ,q v _ (x.mono$ QU (o.fw k).hl) #[jc,o.np,o.lw,o.l0] (d.own (xs:=xs) o.l0 o.np o.lw) (k.t.trans$ QU (o.fw k).hl)]]
theorem Am{K:β}{D:a7}(W:Wd H0 H p wl ys)(h:σ[i]?=δ (↑l))(o:Ow H0 H p wl l (u::v::z))
  (q:∀a,Ow H0 a p wl l (v::u::z)->Wd H0 a p wl ys->ai H a->D.nx σ a):eu (bn$ am (dW (lr K) (a9 i)$ tC$ .int 1)$ am (dW (lr K) (a9 i)$ tC$ .int 0) aL) (rh K 2$ dA (Ci (a9 i) (tC$ .int 0) oZ)$ dA (Ci (a9 i) (tC$ .int 1) oZ) tH) D σ H:=
 #[_,h,l,_,_,_,Z,Z,aJ.of o.hl,lR,_,h,l,_,_,_,Z,Z,aJ.of o.hl,fo,bL,λt N=>#[t,_,Z,aC.of jc,Z,_,_,Z,_,h,l,_,0,0,Z,Z,ar o.hl N,J' (n:=z.length+1),_,_,Z,_,h,l,_,1,1,Z,Z,jc,K' (n:=z.length),Z,
  q _ #[jc,o.np,o.lw,o.l0] (((W.same$ jf N).own (xs:=u::v::z) o.l0 o.np o.lw).own (xs:=u::v::z) o.l0 o.np o.lw) (((ae.tm$ jf N).trans$ QU$ ar o.hl N).trans$ QU jc)]]
theorem AQ{K:β}{n:Nat}(e:σ[i]?=δ (↑l))(o:Ow H0 Hb p wl l x)(h:gX Cf Hb ys 0 x)(a:x.length<=n):Ev H0 p wl ys Hb σ (Hj (λx H Q=>∃p ys,x=[rs p]/\((aJ K H p ys/\∀(l:η),H l=θ->Q (rs l) (af H l$ HO.tup ys))∨aC K H p ys/\Q (rs p) H))$ am (a9 i) aL) (PB Cf ys 0 n):=λH Q m W q=>
 #[_,e,l,x,Z,.inl #[aJ.of (o.fw m).hl,λr N=>ke (P:=PB Cf ys 0 n) W q N λt z=>#[r,x,Z,z,(h.mono m.t).mono t,a]]]
theorem BR{D:a7}(W:Wd H0 H p wl ys)(u:σ[i]?=δ (↑l))(y:σ[j]?=δ (↑m))(o:Ow H0 H p wl l x)(O:Ow H0 H p wl m z)(C:x.length+z.length<=100)(E:gX Cf H ys 0 x)(F:gX Cf H ys 0 z)
  (G:Ev H0 p wl ys H σ T (λH v=>cf Cf H ys 0 v)) (I:Ev H0 p wl ys H σ J (λH v=>cf Cf H ys 0 v)) (q:∀r U h,Ow H0 h p wl r U->gX Cf h ys 0 U->U.length<=x.length+z.length+2->Wd H0 h p wl ys->Fw p H h->D.nx (σ.set i$ ↑r) h):
  eu (dW yJ (dW yJ (a9 i)$ a9 j)$ nL$ am T$ am J aL) (bE i) D σ H:=
 #[_,u,_,y,l,m,_,_,Z,Z,o.hl,O.hl,LJ C UJ,λc n=>G _ _ (.new n) (W.same$ jf n) λV L X M k=>I L _ ((Fw.new n).trans k) M λe R Q A s=>#[bL,λd N=>#[c,d,_,_,Z,Z,ar ((k.trans s).b _ _ (W.B.ne n) jc) N,jc,by
  let:=aI;show(x++z).length+2<=υ;rw[Ly];omega,λr a=>q r _ _ (.new (A.same$ jf N) a) (by
   let f:=(((Fw.new n).trans k).trans s).trans ((Fw.new (p:=p) (o:=HO.lst [V,e]) N).trans$ Fw.new (o:=HO.lst ((x++z)++[V,e])) a);let g:=(Fw.new (p:=p) (o:=HO.lst [V,e]) N).trans (Fw.new (o:=HO.lst ((x++z)++[V,e])) a);exact Jy (Jy (E.mono f.t)$ F.mono f.t)$ jX ((X.mono s.t).mono g.t)$ zA$ Q.mono g.t) (by rw[Ly,Ly];exact Lx _) ((A.same$ jf N).same$ jf a) ((((Fw.new n).trans k).trans s).trans ((Fw.new N).trans$ Fw.new a))]]]
theorem Zv{K:β}{D:a7}(W:Wd H0 H p wl ys)(k:σ[3]?=δ (↑wl))(l:ys.length=6)
  (q:∀a b c d e g,PT ys 0 g a->PT ys 0 g b->PT ys 0 g c->PT ys 0 g d->PT ys 0 g e->Wd H0 g p wl ys->D.nx (((((σ.set 4$ δ a).set 5$ δ b).set 6$ δ c).set 7$ δ d).set 8$ δ e) g):
  eu (wg (AY K$ Hk (yM K) (a9 3) mK$ nM$ tC$ rm 5) 1 [] (bE 0) mJ$ bn$ am (tC$ ri "var")$ am (a9 0) aL) (HS K 5$ dA (bE 4)$ dA (bE 5)$ dA (bE 6)$ dA (bE 7)$ dA (bE 8) tH) D σ H:=by
 let B:=aI;refine#[_,k,_,Z,wl,_,Z,aJ.of W.w,λs n=>?_];let E:aS (ys.map ri) θ (δ 5)=(ys.take 5).map ri:=by rw[show(5:Int)=((5:Nat):Int) from Z,ES (by rw[Lw];omega),Ox]
 let t:af H s (.lst$ aS (ys.map ri) θ$ δ 5) s=δ (.lst ((ys.take 5).map ri)):=by rw[E];exact jc
 let S:=jf (o:=HO.lst (aS (ys.map ri) θ$ δ 5)) n;generalize af H s (.lst$ aS (ys.map ri) θ$ δ 5)=A at t S;refine#[s,Z,#[_,aJ.of t],?_];refine p5 (K:=K) (a:=s) (xs:=(ys.take 5).map ri) (by rw[Lw,Mb];omega) (λi j g=>j.length=i/\(∀v∈j,PT ys 0 g v)/\ae A g) #[Z,(λ_ h=>absurd h Ma),ae.refl _] (λi j g h=>#[aJ.of$ h.2.2 _ _ t,PL h.1]) (λi x j g C h=>?_) (λj F h L N=>?_)
 .let⟨y,l,rfl⟩:=dw.mp (LS C);exact#[_,Z,bL,λr u=>#[by rw[Ly,h.1];rfl,Jk (λa z=>aq _ _ _ (ae.tm$ jf u) (h.2.1 a z)) #[r,Z,wC jc$ MD l],h.2.2.trans$ jf u]]
 .let e:=h.1;rw[Lw,Mb]at e;let⟨a,b,c,d,f,rfl⟩:=HY (show j.length=5 by omega);let m:=ae.tm (jf (o:=HO.lst [a,b,c,d,f]) N);exact#[L,_,Z,aJ.of jc,Z,_,_,Z,_,_,Z,_,_,Z,_,_,Z,_,_,Z,Z,q a b c d f _ (aq _ _ _ m$ h.2.1 a UL) (aq _ _ _ m$ h.2.1 b UL) (aq _ _ _ m$ h.2.1 c UL) (aq _ _ _ m$ h.2.1 d UL) (aq _ _ _ m$ h.2.1 f UL) (((W.same S).same h.2.2).same$ jf N)]
end
theorem Ii:ak z18z z18z (aa Ih):=bJ
theorem FF(F:rx K "_law_op" Ih f t)(C:Cl P w K mg base 1 T u z0z aZ "_law_take"):ah P w K mg base aE 2 f t z18z nE:=by
 refine F.ok Ii λv A O s H V Q E x h=>?_
 let⟨p,a,b,y,k,rfl,B,z,D,q⟩:=h;refine#[_,(jg$ jo$ jh$ ja jk$ ja (jr jq (jI$ ja jk$ ja jk$ ja jk$ ja jk jb) (C.e x.m$ ja (pv 0)$ ja je jb) (λ_ _=>Z))$ ja (pv 1)$ ja (pv 2) jb),?_];refine#[su,λl n=>#[_,Z,p,4,Z,B.upd_new n,UJ,UJ,λd G I J L j=>?_]];let⟨s,c,M⟩:=yE I J;let g:aD p H G:=((aD.refl).upd_new n).trans (aD.of_eq j);refine#[l,_,_,_,Z,Z,aJ.of (by rw[j l$ B.ne n];exact jc),c,_,Z,_,Z,su,λr N=>?_];let S:=jf (o:=HO.tup [.str "op",.str s,.ref a,.ref b]) N;exact q r _ (Bv jc M ((z.mono$ g.tm B).mono$ ae.tm S) ((D.mono$ g.tm B).mono$ ae.tm S) (MQ _)$ MQ _) (L.upd_new N)$ g.trans$ aD.of_same S
theorem bX:ak ["_law_box_here","_law_f","_law_g","_law_w","_law_x","_law_i","_law_y","_law_spot_here","_law_body_here","_law_deeper","_law_test","_law_early","_law_last"] z35z (aa oB):=bJ
theorem ur(F:rx K "_law_inner" oB f fd)(I:Cl P w K mg base 1 fT c1 z0z aZ "_law_take")(cO:Cl P w K mg base 2 fO c2 z18z nE "_law_op"):ah P w K mg base aE 3 f fd z35z (dj 2):=by
 refine F.ok bX λc3 A o1 s H vs Q E l h=>?_
 let⟨p,T,f0,g,Y,rfl,B,hw,h2,q⟩:=h;refine#[_,(jd (@yH _ _ _ _ _ _ _ _ (4) (5) (6) Z bX.nd Z Z Z (Φ Z) (Φ Z) (Φ Z) (jh$ ja (jh$ ja jk$ ja (jr jq (pv 3) je (λ_ _=>Z)) jb)$ ja (jh$ ja jk$ ja (jr jq (pv 3) je (λ_ _=>Z)) jb)$ ja (jh$ ja jk$ ja (jr jq (pv 3) je (λ_ _=>Z)) jb) jb) (by first |exact .inl Z |exact .inr Z) (by first |exact .inl Z |exact .inr Z) (by first |exact .inl Z |exact .inr Z) UN UN)$ jd (jy 7 bX.nd$ jh$ ja jk$ ja jk$ ja (jr jq (jI$ ja (pv 4)$ ja (pv 5) jb) (I.e l.m$ ja (pv 0)$ ja je jb) (λ_ _=>Z))$ ja (jh$ ja jk$ ja (I.e l.m$ ja (pv 0)$ ja je jb) jb) jb)$ jd (jy 8 bX.nd$ jh$ ja (jh$ ja jk$ ja (jr jq (pv 3) je (λ_ _=>Z))$ ja (pv 7) jb) jb)$ jd (j3$ jx (ze$ I.e l.m$ ja (pv 0)$ ja je jb) (jd (jy 7 bX.nd$ jh$ ja jk$ ja jk$ ja (pv 5)$ ja (jh$ ja jk$ ja (jv jU je$ I.e l.m$ ja (pv 0)$ ja je jb) jb) jb)$ jg$ jy 8 bX.nd$ jv j4 (pv 8)$ jh$ ja (jh$ ja jk$ ja (pv 7)$ ja (cO.e l.m$ ja (pv 0)$ ja (pv 4)$ ja (pv 6) jb) jb) jb) jp)$ jd (j3$ jx (ze$ I.e l.m$ ja (pv 0)$ ja je jb) (jd (jy 9 bX.nd$ jh$ ja jk$ ja (jr jq (pv 3) je (λ_ _=>Z))$ ja (pv 2)$ ja (jh$ ja (jh$ ja jk$ ja jk$ ja (pv 5)$ ja (jh$ ja jk$ ja je jb) jb)$ ja (pv 6) jb) jb)$ jg$ jy 8 bX.nd$ jv j4 (pv 8)$ jh$ ja (jh$ ja jk$ ja (pv 5)$ ja (jh$ ja (pv 9) jb)$ ja (jh jb) jb) jb) jp)$ jd (jy 10 bX.nd$ jh$ ja jk$ ja (jr Ki jk (I.e l.m$ ja (pv 0)$ ja je jb) (λ_ _=>Z))$ ja (pv 6)$ ja (jh$ ja jk$ ja (I.e l.m$ ja (pv 0)$ ja je jb) jb) jb)$ jd (jy 11 bX.nd$ jh$ ja jk$ ja (cO.e l.m$ ja (pv 0)$ ja (pv 4)$ ja (pv 6) jb) jb)$ jd (jy 12 bX.nd$ jh$ ja jk$ ja (cO.e l.m$ ja (pv 0)$ ja (pv 6)$ ja (pv 5) jb) jb)$ jd (jy 8 bX.nd$ jv j4 (pv 8)$ jh$ ja (jh$ ja jk$ ja (pv 10)$ ja (jh$ ja (pv 11) jb)$ ja (jh jb) jb)$ ja (pv 12) jb)$ jg$ jo$ jh$ ja (pv 1)$ ja (jh$ ja (jr jq (pv 3) je (λ_ _=>Z))$ ja (jr jq (pv 3) je (λ_ _=>Z)) jb)$ ja (pv 8) jb),?_];let W0:Wd H H p T Y:=#[B,aD.refl,hw];refine aj λF1 f1=>Ac W0 (qY$ j6 Z UJ UK) (qY$ j6 Z UJ UK) (qY$ j6 Z UJ UK) λvx vi vy J xx X U W1 k1=>f1 _ _ ?_;refine aj λF2 f2=>jS W1 (zH (n:=1) (zR zj) (Y3 Z (jH Z aq xx)$ jH Z aq X) (kf (zb Z UJ UJ) UJ) UJ UJ) λv2 H2 x2 W2 k2=>f2 _ _ ?_;refine aj λF3 f3=>jS W2 (JH$ qZ (Cf:=[(g,2)]) (j6 Z UJ UK) (jH Z aq x2) UJ) λv3 H3 x3 W3 k3=>f3 _ _ ?_;refine aj λF4 f4=>dF (λL u=>∃(o:Option V) (b:V),L=[δ$ rs p,δ$ ri f0,δ$ ri g,δ$ rs T,δ$ vx,δ$ vi,δ$ vy,o,δ b,θ,θ,θ,θ]/\PB [(g,2)] Y 1 2 u b/\Wd H u p T Y/\ai H3 u) (λE4 _ f5=>Jb W3 Z UJ UJ (λH6 W6 k6=>?_) (λH6 W6 k6=>?_)) λσ0 H5 h0=>?_
 .clear f4;let C:ai J H6:=((k2.t.trans k3.t).trans k6.t);refine aj λF7 f7=>jS W6 (zH (n:=1) (zR zj) (jH Z aq$ aq _ _ _ C X) (kf (QV (zb Z UJ UJ) UJ) UJ) UJ UJ) λv7 H7 x7 W7 k7=>f7 _ _ ?_;let D:ai H3 H7:=(k6.t.trans k7.t);let G:ai J H7:=(C.trans k7.t);refine jS W7 (qQ (jH Z du$ du _ _ _ D x3) (JH$ Ke (Cf:=[(g,2)]) (jH Z aq x7) (Kd Z (jH Z aq$ aq _ _ _ G xx)$ jH Z aq$ aq _ _ _ G U) UJ UJ) UJ) λv8 H8 x8 W8 k8=>f5 _ _ ?_;let m0:ai H3 H8:=(D.trans k8.t);exact#[_,_,Z,(PB.lift x8),W8,m0]
 .clear f4;exact f5 _ _ #[_,_,Z,(PB.more (PB.lift$ du _ _ _ k6.t x3) UJ),W6,k6.t]
 let⟨o5,b5,rfl,x5,W5,k5⟩:=h0;refine f4 _ _ ?_;clear f4;refine aj λF9 f9=>dF (λL u=>∃(o:Option V) (b:V),L=[δ$ rs p,δ$ ri f0,δ$ ri g,δ$ rs T,δ$ vx,δ$ vi,δ$ vy,o5,δ b,o,θ,θ,θ]/\PB [(g,2)] Y 1 3 u b/\Wd H u p T Y/\ai H5 u) (λE9 _ f6=>Jb W5 Z UJ UJ (λH0 W k=>?_) (λH0 W k=>?_)) λσ1 H4 h1=>?_
 .clear f9;let M:ai J H0:=(((k2.t.trans k3.t).trans k5).trans k.t);refine aj λF0 f'=>jS W (sW (Cf:=[(g,2)]) (j6 Z UJ UK) (Qr Z) LN (zH (n:=1) (zR Ky) (jH Z aq$ aq _ _ _ M X) (kf (JP UJ (by decide:(1:Int) < 2)) UJ) UJ UJ) (jH Z aq$ aq _ _ _ M U) UJ UJ) λv0 H9 x0 W4 k0=>f' _ _ ?_;let c:ai H5 H9:=(k.t.trans k0.t);let N:ai J H9:=(M.trans k0.t);refine jS W4 (qQ (jH Z du$ du _ _ _ c x5) (JH$ sY (jH Z aq$ aq _ _ _ N X) (JH$ jH Z dR x0) (AG (Cf:=[(g,2)]) (d:=0)) UJ UJ) UJ) λv1 a2 x1 W9 k9=>f6 _ _ ?_;let O:ai H5 a2:=(c.trans k9.t);exact#[_,_,Z,x1,W9,O]
 .clear f9;exact f6 _ _ #[_,_,Z,(PB.more (du _ _ _ k.t x5) UJ),W,k.t]
 let⟨o2,c4,rfl,x4,a3,k'⟩:=h1;refine f9 _ _ ?_;clear f9;let i:ai J H4:=(((k2.t.trans k3.t).trans k5).trans k');refine aj λF5 a4=>jS a3 (zH (n:=1) (Fg Z) (jH Z aq$ aq _ _ _ i U) (kf (zb Z UJ UJ) UJ) UJ UJ) λv4 a0 x9 a' k4=>a4 _ _ ?_;let a:ai J a0:=(i.trans k4.t);refine aj λF6 b0=>jS a' (Kf (Cf:=[(g,2)]) (Kd Z (jH Z aq$ aq _ _ _ a xx)$ jH Z aq$ aq _ _ _ a U) UJ) λv5 b1 x' b2 R=>b0 _ _ ?_;let j:ai J b1:=(a.trans R.t);refine aj λc5 b3=>jS b2 (Kf (Cf:=[(g,2)]) (Kd Z (jH Z aq$ aq _ _ _ j U)$ jH Z aq$ aq _ _ _ j X) UJ) λv6 a1 b4 b7 S=>b3 _ _ ?_;let y:ai H4 a1:=((k4.t.trans R.t).trans S.t);let z:ai a0 a1:=(R.t.trans S.t);refine aj λc6 b9=>jS b7 (qQ (jH Z du$ du _ _ _ y x4) (Qq (sY (jH Z aq$ aq _ _ _ z x9) (JH$ jH Z dR$ dR _ _ _ S.t x') (AG (Cf:=[(g,2)]) (d:=0)) UJ UJ)$ Ev.up (jH Z dR b4) λ_ _=>cf.lift) UJ) λv9 c9 b' c0 c'=>b9 _ _ ?_;refine Kq c0 (Qs (Qr Z) (AO (j6 Z UJ UK)$ j6 Z UJ UK) (jH Z du b') UJ UK) λv u x W'=>?_;let⟨r,rfl,x⟩:=x;exact q r u x W'.B W'.K
theorem bq:ak z39z z20z (aa ip):=bJ
noncomputable def Ql:hG:=#[.function,[(".0",.local),("_law_one",.local)],μ,μ,[]]
theorem YW:(["_law_one"]:List ρ).Nodup:=by decide+kernel
theorem YX:bu z39z (aa ip) Ql ["_law_one"] 1 []:=sr
theorem rM(F:rx K "_law_looped" ip f fd)(C:Cl P w K mg base 1 fT d7 z0z aZ "_law_take")(cO:Cl P w K mg base 2 fO d8 z18z nE "_law_op")(mi:mg "int"=θ)(m6:mg "tuple"=θ):ah P w K mg base aE 3 f fd z20z (dj 1):=by
 refine F.ok bq λd' A b2 s H vs Q E l h=>?_
 let⟨p,W,f0,g,Y,rfl,B,hw,h2,q⟩:=h;refine#[_,(jd (zf (@zi _ _ _ _ _ _ _ (["_law_one"]) (1) ([]) _ _ _ _ Z (qC$ jK kH (pv 3) jW$ jG je) YX (λ_ _ _ _ _=>(jw (i:=0) YW Z$ Φ Z)) (λ_ _ _ _ _=>(@zz _)) (λ_ _ _ _ _=>(jh$ ja jk$ ja (pv 0) jb)) (by intro _;rfl))$ @Zi _ _ _ _ (5) _ Z (jB (jw (i:=4) bq.nd Z$ Φ Z)$ jB (jw (i:=5) bq.nd Z$ Φ Z)$ jB (jw (i:=6) bq.nd Z$ Φ Z)$ jB (jw (i:=7) bq.nd Z$ Φ Z)$ jB (jw (i:=8) bq.nd Z$ Φ Z) kE) UN UN)$ jd (jy 9 bq.nd$ jI$ ja (jh$ ja jk$ ja (jr jq (pv 3) je (λ_ _=>Z))$ ja (jh$ ja jk$ ja jk$ ja (pv 5)$ ja (jh$ ja jk$ ja (C.e l.m$ ja (pv 0)$ ja je jb) jb) jb) jb) jb)$ jd (jQ$ kM LM L9 LZ jT (pv 9)$ ja (jh$ ja jk$ ja (jr jq (pv 3) je (λ_ _=>Z))$ ja (pv 2)$ ja (jh$ ja (pv 7)$ ja (jr jq (jI$ ja (pv 5)$ ja (pv 6) jb) (jE qG Z mi Ta$ ja (qE qo (C.e l.m$ ja (pv 0)$ ja je jb) je$ aG _) jb) (λ_ _=>Z)) jb) jb) jb)$ jd (j3$ jx (ze$ C.e l.m$ ja (pv 0)$ ja je jb) (jd (jy 10 bq.nd$ jh$ ja jk$ ja jk$ ja (pv 5)$ ja (jh$ ja jk$ ja (jv jU je$ C.e l.m$ ja (pv 0)$ ja je jb) jb) jb)$ jg$ jQ$ kM LM L9 LZ jT (pv 9)$ ja (jh$ ja jk$ ja (pv 10)$ ja (jr jq (jI$ ja (pv 6)$ ja (pv 8)$ ja (pv 7) jb) (C.e l.m$ ja (pv 0)$ ja je jb) (λ_ _=>Z)) jb) jb) jp)$ jd (jQ$ kM LM L9 LZ jT (pv 9)$ ja (jh$ ja jk$ ja (jr jq (pv 3) je (λ_ _=>Z))$ ja (cO.e l.m$ ja (pv 0)$ ja (jr jq (jI$ ja (pv 6)$ ja (pv 6)$ ja (pv 7) jb) (C.e l.m$ ja (pv 0)$ ja je jb) (λ_ _=>Z))$ ja (pv 8) jb) jb) jb)$ jd (j3$ jx (ze$ C.e l.m$ ja (pv 0)$ ja je jb) (jg$ zf (jh$ ja (jr jq (pv 9) je (λ_ _=>Z))$ ja (jr jq (pv 9) je (λ_ _=>Z)) jb)$ zM (n:=2) Z$ jB (qO (pv 9) je zB)$ jB (qO (pv 9) je zB) kE) jp)$ jd (jQ$ kM LM L9 LZ jT (pv 9)$ ja (jh$ ja jk$ ja (jr jq (pv 3) je (λ_ _=>Z))$ ja (jh$ ja jk$ ja jk$ ja (pv 5)$ ja (jh$ ja jk$ ja je jb) jb) jb) jb)$ jd (jy 11 bq.nd$ jh$ ja (jh$ ja jk$ ja (jr jq (pv 3) je (λ_ _=>Z))$ ja (jh$ ja jk$ ja (C.e l.m$ ja (pv 0)$ ja je jb) jb) jb)$ ja (jh$ ja jk$ ja (jr jq (pv 3) je (λ_ _=>Z))$ ja (jh$ ja jk$ ja (C.e l.m$ ja (pv 0)$ ja je jb) jb) jb) jb)$ jd (j3$ jx (ze$ C.e l.m$ ja (pv 0)$ ja je jb) (jd (jy 11 bq.nd$ jv j4 (pv 11)$ jh$ ja (jh$ ja jk$ ja (jr jq (pv 3) je (λ_ _=>Z))$ ja (jh$ ja jk$ ja (jv jU je$ C.e l.m$ ja (pv 0)$ ja je jb) jb) jb) jb)$ jg$ jy 11 bq.nd$ jv j4 (pv 11)$ jh$ ja (jh$ ja jk$ ja (jr jq (pv 3) je (λ_ _=>Z))$ ja (jh$ ja jk$ ja jk$ ja (pv 4)$ ja (jh$ ja jk$ ja je jb) jb) jb) jb) jp)$ jd (jy 12 bq.nd$ jh$ ja jk$ ja (jh$ ja jk$ ja jk$ ja (pv 5)$ ja (pv 4) jb)$ ja (jE jL Z m6 Ni$ ja (pv 9) jb) jb)$ jg$ jo$ jh$ ja (pv 1)$ ja (jh$ ja (jr jq (pv 3) je (λ_ _=>Z)) jb)$ ja (jv j4 (pv 11)$ jh$ ja (pv 12)$ ja (jh$ ja jk$ ja (jh$ ja jk$ ja je jb)$ ja (pv 6) jb)$ ja (jh$ ja jk$ ja (pv 6) jb) jb) jb),?_];let W0:Wd H H p W Y:=#[B,aD.refl,hw];refine aj λF1 f1=>Zv W0 Z h2 λvn vi vs vx vy U xn xi xs xx xy W1=>f1 _ _ ?_;refine aj λF2 f2=>FL W1 (qZ (Cf:=[(g,2)]) (j6 Z UJ UK) (zH (n:=1) (zR zj) (jH Z aq xi) (kf (zb Z UJ UJ) UJ) UJ UJ) UJ) λlb u2 H2 o2 x2 W2 k2=>f2 _ _ ?_;refine aj λF3 f3=>Jz W2 Z o2 (show 1<=100 by decide) (sW (Cf:=[(g,2)]) (j6 Z UJ UK) (Qr Z) LN (jH Z aq$ aq _ _ _ k2.t xx) (Fd Z UJ UJ (jH Z aq$ aq _ _ _ k2.t xi)$ jH Z aq$ aq _ _ _ k2.t xs) UJ UJ) λu3 H3 x3 o3 W3 k3=>f3 _ _ ?_;refine aj λF4 f4=>dF (λu c=>∃(o:Option V) (G:List V),u=[δ$ rs p,δ$ ri f0,δ$ ri g,δ$ rs W,δ$ vn,δ$ vi,δ$ vs,δ$ vx,δ$ vy,δ$ rs lb,o,θ,θ]/\Ow H c p W lb (u2::u3::G)/\gX [(g,2)] c Y 0 G/\G.length<=1/\Wd H c p W Y/\ai H3 c) (λE4 _ f5=>Jb W3 Z UJ UJ (λH6 W6 k6=>?_) (λH6 W6 k6=>?_)) λσ2 H5 h3=>?_
 .clear f4;let o6:=o3.fw k6;let R:ai U H6:=((k2.t.trans k3).trans k6.t);refine aj λF7 f7=>jS W6 (zH (n:=1) (zR zj) (jH Z aq$ aq _ _ _ R xi) (kf (QV (zb Z UJ UJ) UJ) UJ) UJ UJ) λv7 H7 x7 W7 k7=>f7 _ _ ?_;let o7:=o6.fw k7;let y:ai U H7:=(R.trans k7.t);refine Jz W7 Z o7 (show 2<=100 by decide) (Ke (Cf:=[(g,2)]) (jH Z aq x7) (AN Z (jH Z aq$ aq _ _ _ y xs) (jH Z aq$ aq _ _ _ y xy)$ jH Z aq$ aq _ _ _ y xx) UJ UJ) λu8 H8 x8 o8 W8 k8=>f5 _ _ ?_;let m5:ai H3 H8:=((k6.t.trans k7.t).trans k8);exact#[_,[u8],Z,o8,zA x8,Lx 1,W8,m5]
 .clear f4;let o6:=o3.fw k6;exact f5 _ _ #[_,[],Z,o6,Ko,UJ,W6,k6.t]
 let⟨w5,G,rfl,o5,zx,zl,W5,k5⟩:=h3;refine f4 _ _ ?_;clear f4;let M:ai U H5:=((k2.t.trans k3).trans k5);refine aj λF9 f9=>Jz W5 Z o5 (show G.length+1+1<=100 by omega) (Ja (Cf:=[(g,2)]) (j6 Z UJ UK) (Kd Z (AN Z (jH Z aq$ aq _ _ _ M xs) (jH Z aq$ aq _ _ _ M xs)$ jH Z aq$ aq _ _ _ M xx)$ jH Z aq$ aq _ _ _ M xy) UJ) λu9 H9 x9 o9 W9 k9=>f9 _ _ ?_;let zy:gX [(g,2)] H9 Y 0 (G++[u9]):=Jy (zx.mono k9) (zA x9);let zm:(G++[u9]).length<=2:=by rw[Ly];exact M6 zl
 refine aj λF0 I=>dF (λu c=>∃(X:List V),u=[δ$ rs p,δ$ ri f0,δ$ ri g,δ$ rs W,δ$ vn,δ$ vi,δ$ vs,δ$ vx,δ$ vy,δ$ rs lb,w5,θ,θ]/\Ow H c p W lb X/\gX [(g,2)] c Y 0 X/\X.length<=4/\Wd H c p W Y/\ai H9 c) (λE1 _ S=>Jb W9 Z UJ UJ (λH0 W4 k=>?_) (λH0 W4 k=>?_)) λσ0 b3 h0=>?_
 .clear I;let o1:=o9.fw k;refine Am W4 Z o1 λH4 b4 b5 k0=>S _ _ ?_;let m0:ai H3 H4:=(((k5.trans k9).trans k.t).trans k0);let m1:ai H2 H4:=((((k3.trans k5).trans k9).trans k.t).trans k0);let z:ai H9 H4:=(k.t.trans k0);exact#[_,Z,b4,jX ((dR _ _ _ m0 x3))$ jX ((dR _ _ _ m1 x2))$ zy.mono z,(show(G++[u9]).length+1+1<=4 by omega),b5,z]
 .clear I;let o1:=o9.fw k;let m2:ai H2 H0:=(((k3.trans k5).trans k9).trans k.t);let m3:ai H3 H0:=((k5.trans k9).trans k.t);exact S _ _ #[_,Z,o1,jX ((dR _ _ _ m2 x2))$ jX ((dR _ _ _ m3 x3))$ zy.mono k.t,(show(G++[u9]).length+1+1<=4 by omega),W4,k.t]
 let⟨X,rfl,b7,ux,ul,b9,b'⟩:=h0;refine I _ _ ?_;clear I;let d:ai U b3:=((M.trans k9).trans b');refine aj λF5 f6=>Jz b9 Z b7 UK (Ja (Cf:=[(g,2)]) (j6 Z UJ UK) (zH (n:=1) (zR zj) (jH Z aq$ aq _ _ _ d xi) (kf (JP UJ (by decide:(1:Int) < 2)) UJ) UJ UJ) UJ) λu0 a1 x1 c0 c1 k1=>f6 _ _ ?_;let b0:gX [(g,2)] a1 Y 0 (X++[u0]):=Jy (ux.mono k1) (zA x1);let bl:(X++[u0]).length<=5:=by rw[Ly];exact M6 ul
 refine aj λF6 f'=>jS c1 (Qq (Ja (Cf:=[(g,2)]) (j6 Z UJ UK) (kf (zb Z UJ UJ) UJ) UJ)$ Ja (Cf:=[(g,2)]) (j6 Z UJ UK) (kf (zb Z UJ UJ) UJ) UJ) λv0 a2 x0 c2 J=>f' _ _ ?_;let o':=c0.fw J;refine aj λe0 L=>dF (λu c=>∃(b:V),u=[δ$ rs p,δ$ ri f0,δ$ ri g,δ$ rs W,δ$ vn,δ$ vi,δ$ vs,δ$ vx,δ$ vy,δ$ rs lb,w5,δ b,θ]/\Ow H c p W lb (X++[u0])/\PB [(g,2)] Y 0 4 c b/\Wd H c p W Y/\ai a2 c) (λE2 _ T=>Jb c2 Z UJ UJ (λc3 a0 a=>?_) (λc3 a0 a=>?_)) λσ1 a3 h1=>?_
 .clear L;let o4:=o'.fw a;refine aj λe1 c4=>jS a0 (qQ (jH Z du$ du _ _ _ a.t x0) (JH$ qZ (Cf:=[(g,2)]) (j6 Z UJ UK) (kf (QV (zb Z UJ UJ) UJ) UJ) UJ) UJ) λv1 c5 x4 c6 k4=>c4 _ _ ?_;let c9:=o4.fw k4;let m4:ai U c5:=((((d.trans k1).trans J.t).trans a.t).trans k4.t);refine jS c6 (qQ (jH Z du x4) (JH$ Ja (Cf:=[(g,2)]) (j6 Z UJ UK) (zH (n:=1) (zR Ae) (jH Z aq$ aq _ _ _ m4 xn) (kf (JP UJ (by decide:(2:Int) < 3)) UJ) UJ UJ) UJ) UJ) λv2 c' x5 d0 a4=>T _ _ ?_;let d1:=c9.fw a4;let N:ai a2 c':=((a.t.trans k4.t).trans a4.t);exact#[_,Z,d1,x5,d0,N]
 .clear L;let o4:=o'.fw a;exact T _ _ #[_,Z,o4,(PB.more (du _ _ _ a.t x0) UJ),a0,a.t]
 let⟨e2,rfl,a',x',d2,b1⟩:=h1;refine L _ _ ?_;clear L;let j:ai U a3:=(((d.trans k1).trans J.t).trans b1);let O:ai a1 a3:=(J.t.trans b1);refine aj λe3 d3=>jS d2 (AR (zH (n:=1) (zR Q5) (jH Z aq$ aq _ _ _ j xi) (jH Z aq$ aq _ _ _ j xn) UJ UJ) (AQ (n:=5) Z a' (b0.mono O) bl) UJ UJ) λv3 d4 d5 d6 k'=>d3 _ _ ?_;let e4:=a'.fw k';let D:ai U d4:=(j.trans k'.t);refine Kq d6 (Qs (Qr Z) (sZ$ j6 Z UJ UK) (qQ (Ev.up (jH Z du$ du _ _ _ k'.t x') λ_ _=>PB.lift) (AH (jH Z dR d5) (Ev.up (Ke (Cf:=[(g,2)]) (kf (JP UJ (by decide:(30:Int) < 31)) UJ) (jH Z aq$ aq _ _ _ D xs) UJ UJ) λ_ _=>cf.lift)$ Ev.up (Kf (Cf:=[(g,2)]) (jH Z aq$ aq _ _ _ D xs) UJ) λ_ _=>cf.lift) UJ) UJ UK) λv c x W'=>?_;let⟨r,rfl,x⟩:=x;exact q r c x W'.B W'.K
theorem HL(b:0<=d)(c:d < 2)(h:cf C H y 0 u)(a:cf C H y 0 v):gX C H y 0 (aS [u,v] θ$ δ (1+d))/\(aS [u,v] θ$ δ (1+d)).length<=2:=by
 rcases(by omega:d=0∨d=1) with rfl |rfl
 .exact#[zA h,by show 1<=2;decide]
 .exact#[jX h$ zA a,by show 2<=2;decide]
def P2(C:ik)(y:List ρ)(H:Hp)(w:V):Prop:=∃a u v,w= .ref a/\H a=δ (.tup [u,v])/\cf C H y 0 u/\cf C H y 0 v
theorem A7:n8 (P2 C y):=λ_ _ _ m #[a,u,v,e,h,H,b]=>#[a,u,v,e,m _ _ h,H.mono m,b.mono m]
section
variable {Cf:ik}{ys:List ρ}{H0 Hb:Hp}{p wl:η}{σ:_L.St}
theorem Cb(h:Ev H0 p wl ys Hb σ T (λH v=>cf Cf H ys 0 v))(c:Ev H0 p wl ys Hb σ d (λH v=>cf Cf H ys 0 v)):Ev H0 p wl ys Hb σ (bn$ am T$ am d aL) (P2 Cf ys):=λH Q m W q=>
 h H _ m W λo e X f a=>c e _ (m.trans a) f λs u g i b=>#[bL,λr n=>ke (P:=P2 Cf ys) i (λV j x l k=>q V j x l ((a.trans b).trans k)) n λt z=>#[r,_,_,Z,z,(X.mono b.t).mono t,g.mono t]]
theorem Ca(e:σ[i]?=δ (δ v))(E:σ[0]?=δ (↑p))(h:P2 Cf ys Hb v):Ev H0 p wl ys Hb σ (Hk DA (a9 i) mK$ nM$ dW (wQ λi j=>rm (i+j)) (tC$ .int 1)$ wS 2) (PB Cf ys 0 2):=λH Q m W q=>
 #[v,e,zb E UJ UJ H _ m W λw y #[d,b,D,c] f k=>#[1,d,Z,b,_,Z,by
  let⟨a,u,A,rfl,g,l,n⟩:=A7 _ _ _ (m.trans k).t h;let z:=HL D c l n;exact#[a,_,Z,g,λr o x s=>q _ o #[r,_,Z,x,z.1.mono$ ae.tm s,z.2] (f.same s) (k.trans$ .same s)]]]
end
theorem aV:ak z40z z20z (aa gg):=bJ
noncomputable def K2:hG:=#[.function,[(".0",.local),("_law_one",.local)],μ,μ,[]]
theorem X8:(["_law_one"]:List ρ).Nodup:=by decide+kernel
theorem X9:bu z40z (aa gg) K2 ["_law_one"] 1 []:=sr
theorem YY(F:rx K "_law_ticking" gg f fd)(C:Cl P w K mg base 1 fT b7 z0z aZ "_law_take")(cO:Cl P w K mg base 2 fO b9 z18z nE "_law_op")(mi:mg "int"=θ)(m1:mg "tuple"=θ):ah P w K mg base aE 3 f fd z20z (dj 1):=by
 refine F.ok aV λc0 A o5 s H vs Q E c h=>?_
 let⟨p,W,f0,g,ys,rfl,B,hw,h1,q⟩:=h;refine#[_,(jd (zf (@zi _ _ _ _ _ _ _ (["_law_one"]) (1) ([]) _ _ _ _ Z (qC$ jK kH (pv 3) jW$ jG je) X9 (λ_ _ _ _ _=>(jw (i:=0) X8 Z$ Φ Z)) (λ_ _ _ _ _=>(@zz _)) (λ_ _ _ _ _=>(jh$ ja jk$ ja (pv 0) jb)) (by intro _;rfl))$ @Zi _ _ _ _ (5) _ Z (jB (jw (i:=4) aV.nd Z$ Φ Z)$ jB (jw (i:=5) aV.nd Z$ Φ Z)$ jB (jw (i:=6) aV.nd Z$ Φ Z)$ jB (jw (i:=7) aV.nd Z$ Φ Z)$ jB (jw (i:=8) aV.nd Z$ Φ Z) kE) UN UN)$ jd (jy 9 aV.nd$ jh$ ja jk$ ja (jv jU je$ C.e c.m$ ja (pv 0)$ ja je jb) jb)$ jd (jy 10 aV.nd$ jI$ ja (jh$ ja jk$ ja (jr jq (pv 3) je (λ_ _=>Z))$ ja (pv 9) jb)$ ja (jh$ ja jk$ ja (jr jq (pv 3) je (λ_ _=>Z))$ ja (jr jq (jI$ ja (pv 5)$ ja (jh$ ja jk$ ja (C.e c.m$ ja (pv 0)$ ja je jb) jb) jb) (C.e c.m$ ja (pv 0)$ ja je jb) (λ_ _=>Z)) jb) jb)$ jd (jQ$ kM LM L9 LZ jT (pv 10)$ ja (jh$ ja jk$ ja (jr jq (pv 3) je (λ_ _=>Z))$ ja (pv 2)$ ja (jh$ ja (jr jq (jI$ ja (pv 7)$ ja (jh$ ja jk$ ja je jb) jb) (C.e c.m$ ja (pv 0)$ ja je jb) (λ_ _=>Z))$ ja (jr jq (jI$ ja (pv 5)$ ja (jh$ ja jk$ ja je jb) jb) (C.e c.m$ ja (pv 0)$ ja je jb) (λ_ _=>Z)) jb) jb) jb)$ jd (j3$ jx (ze$ C.e c.m$ ja (pv 0)$ ja je jb) (jg$ jQ$ kM LM L9 LZ jT (pv 10)$ ja (jh$ ja jk$ ja (jh$ ja jk$ ja jk$ ja (pv 5)$ ja (jh$ ja jk$ ja (C.e c.m$ ja (pv 0)$ ja je jb) jb) jb)$ ja (pv 8) jb) jb) jp)$ jd (jy 11 aV.nd$ jh$ ja jk$ ja je jb)$ jd (jy 12 aV.nd$ jI$ ja (jh$ ja jk$ ja (jr jq (pv 3) je (λ_ _=>Z))$ ja (pv 11) jb)$ ja (jh$ ja jk$ ja (pv 11)$ ja (cO.e c.m$ ja (pv 0)$ ja (pv 6)$ ja (pv 8) jb) jb) jb)$ jd (j3$ jx (ze$ C.e c.m$ ja (pv 0)$ ja je jb) (jg$ jy 12 aV.nd$ jI$ ja (jh$ ja jk$ ja (jr jq (pv 3) je (λ_ _=>Z))$ ja (cO.e c.m$ ja (pv 0)$ ja (pv 6)$ ja (pv 8) jb) jb) jb) jp)$ jd (jy 10 aV.nd$ jv qr (jv qr (pv 10)$ pv 12)$ jI$ ja (jh$ ja jk$ ja (pv 9)$ ja (jh$ ja jk$ ja jk$ ja (pv 5)$ ja (jh$ ja jk$ ja je jb) jb) jb)$ ja (jh$ ja jk$ ja (jr jq (pv 3) je (λ_ _=>Z))$ ja (jh$ ja jk$ ja jk$ ja (pv 5)$ ja (pv 4) jb) jb) jb)$ jd (jy 13 aV.nd$ jh$ ja (jh$ ja jk$ ja (jr jq (pv 3) je (λ_ _=>Z))$ ja (jh$ ja jk$ ja je jb) jb)$ ja (jh$ ja jk$ ja (pv 9)$ ja (jh$ ja jk$ ja (C.e c.m$ ja (pv 0)$ ja je jb) jb) jb) jb)$ jd (jy 14 aV.nd$ jh$ ja jk$ ja (jh$ ja jk$ ja (jr jq (pv 3) je (λ_ _=>Z)) jb)$ ja (jE jL Z m1 Ni$ ja (pv 10) jb) jb)$ jg$ jo$ jh$ ja (pv 1)$ ja (jh$ ja (jr jq (pv 3) je (λ_ _=>Z)) jb)$ ja (jv j4 (jK kO (pv 13) jW$ jG$ jv jU je$ C.e c.m$ ja (pv 0)$ ja je jb)$ jh$ ja (pv 14)$ ja (jh$ ja jk$ ja (pv 6) jb) jb) jb),?_];let W0:Wd H H p W ys:=#[B,aD.refl,hw];refine aj λF1 f1=>Zv W0 Z h1 λvn vi vs vx vy H1 xn xi xs xx xy W1=>f1 _ _ ?_;refine aj λF2 f2=>jS W1 (kf (QV (zb Z UJ UJ) UJ) UJ) λv2 H2 x2 W2 k2=>f2 _ _ ?_;refine aj λF3 f3=>FM W2 (qZ (Cf:=[(g,2)]) (j6 Z UJ UK) (jH Z aq x2) UJ) (qZ (Cf:=[(g,2)]) (j6 Z UJ UK) (Y3 Z (jH Z aq$ aq _ _ _ k2.t xi)$ kf (zb Z UJ UJ) UJ) UJ) λlb u3 w3 H3 o3 x3 y3 W3 k3=>f3 _ _ ?_;let a:ai H1 H3:=(k2.t.trans k3.t);refine aj λF4 f4=>Jz W3 Z o3 (show 2<=100 by decide) (sW (Cf:=[(g,2)]) (j6 Z UJ UK) (Qr Z) LN (Y3 Z (jH Z aq$ aq _ _ _ a xx)$ kf (JP UJ (by decide:(3:Int) < 4)) UJ) (Y3 Z (jH Z aq$ aq _ _ _ a xi)$ kf (JP UJ (by decide:(2:Int) < 3)) UJ) UJ UJ) λu4 H4 x4 o4 W4 k4=>f4 _ _ ?_;refine aj λF5 f5=>dF (λN d=>∃(us:List V),N=[δ$ rs p,δ$ ri f0,δ$ ri g,δ$ rs W,δ$ vn,δ$ vi,δ$ vs,δ$ vx,δ$ vy,δ$ v2,δ$ rs lb,θ,θ,θ,θ]/\Ow H d p W lb us/\gX [(g,2)] d ys 0 us/\us.length<=4/\Wd H d p W ys/\ai H4 d) (λE5 _ f6=>Jb W4 Z UJ UJ (λH7 W7 u=>?_) (λH7 W7 u=>?_)) λσ1 H6 h2=>?_
 .clear f5;let o7:=o4.fw u;let D:ai H1 H7:=((a.trans k4).trans u.t);refine Jz W7 Z o7 (show 3<=100 by decide) (Ke (Cf:=[(g,2)]) (zH (n:=1) (zR zj) (jH Z aq$ aq _ _ _ D xi) (kf (zb Z UJ UJ) UJ) UJ UJ) (jH Z aq$ aq _ _ _ D xy) UJ UJ) λu8 H8 x8 o8 W8 k8=>f6 _ _ ?_;let G:ai H4 H8:=(u.t.trans k8);let I:ai H3 H8:=((k4.trans u.t).trans k8);exact#[_,Z,o8,(jX ((dR _ _ _ I x3))$ jX ((dR _ _ _ I y3))$ jX ((dR _ _ _ G x4))$ jX (x8) Ko),(show 4<=4 by decide),W8,G]
 .clear f5;let o7:=o4.fw u;let J:ai H3 H7:=(k4.trans u.t);exact f6 _ _ #[_,Z,o7,(jX ((dR _ _ _ J x3))$ jX ((dR _ _ _ J y3))$ jX ((dR _ _ _ u.t x4)) Ko),(show 3<=4 by decide),W7,u.t]
 let⟨us,rfl,o6,ux,ul,W6,k6⟩:=h2;refine f5 _ _ ?_;clear f5;refine aj λF9 f9=>jS W6 (kf (JP UJ (by decide:(30:Int) < 31)) UJ) λv9 H9 x9 W9 k9=>f9 _ _ ?_;let o9:=o6.fw k9;let b:ai H1 H9:=(((a.trans k4).trans k6).trans k9.t);refine aj λF0 f7=>FM W9 (qZ (Cf:=[(g,2)]) (j6 Z UJ UK) (jH Z aq x9) UJ) (Ke (Cf:=[(g,2)]) (jH Z aq x9) (Kd Z (jH Z aq$ aq _ _ _ b xs)$ jH Z aq$ aq _ _ _ b xy) UJ UJ) λlm u0 w0 H0 z0 x0 y0 W5 j=>f7 _ _ ?_;let o1:=o9.fw j;refine aj λF6 y=>dF (λN d=>∃(m:η) (zs:List V),N=[δ$ rs p,δ$ ri f0,δ$ ri g,δ$ rs W,δ$ vn,δ$ vi,δ$ vs,δ$ vx,δ$ vy,δ$ v2,δ$ rs lb,δ$ v9,↑m,θ,θ]/\Ow H d p W lb us/\Ow H d p W m zs/\gX [(g,2)] d ys 0 zs/\zs.length<=2/\Wd H d p W ys/\ai H0 d) (λE1 _ L=>Jb W5 Z UJ UJ (λH5 O k=>?_) (λH5 O k=>?_)) λσ0 R h0=>?_
 .clear y;let S:=o1.fw k;let z1:=z0.fw k;let l:ai H1 H5:=((b.trans j.t).trans k.t);refine FL O (Ja (Cf:=[(g,2)]) (j6 Z UJ UK) (Kd Z (jH Z aq$ aq _ _ _ l xs)$ jH Z aq$ aq _ _ _ l xy) UJ) λlq u1 a0 z2 x1 a1 k1=>L _ _ ?_;let o':=S.fw k1;let z:ai H0 a0:=(k.t.trans k1.t);exact#[_,_,Z,o',z2,zA x1,(show 1<=2 by decide),a1,z]
 .clear y;let S:=o1.fw k;let z1:=z0.fw k;exact L _ _ #[_,_,Z,S,z1,(jX ((dR _ _ _ k.t x0))$ jX ((dR _ _ _ k.t y0)) Ko),(show 2<=2 by decide),O,k.t]
 let⟨lm,zs,rfl,a2,z3,zx,zl,a3,T⟩:=h0;refine y _ _ ?_;clear y;let o:ai H2 R:=(((((k3.t.trans k4).trans k6).trans k9.t).trans j.t).trans T);let M:ai H1 R:=((b.trans j.t).trans T);let U:ai H6 R:=((k9.t.trans j.t).trans T);refine aj λF7 f'=>BR a3 Z Z a2 z3 UK (ux.mono U) zx (Ke (Cf:=[(g,2)]) (jH Z aq$ aq _ _ _ o x2) (zH (n:=1) (zR zj) (jH Z aq$ aq _ _ _ M xi) (kf (JP UJ (by decide:(1:Int) < 2)) UJ) UJ UJ) UJ UJ) (Ja (Cf:=[(g,2)]) (j6 Z UJ UK) (zH (n:=1) (zR Q5) (jH Z aq$ aq _ _ _ M xi) (jH Z aq$ aq _ _ _ M xn) UJ UJ) UJ) λlc cs a4 a' cx cl b0 k5=>f' _ _ ?_;let cm:cs.length<=8:=by omega
 let X:ai H2 a4:=(o.trans k5.t);refine aj λb' b1=>jS b0 (Cb (Ja (Cf:=[(g,2)]) (j6 Z UJ UK) (kf (JP UJ (by decide:(1:Int) < 2)) UJ) UJ)$ Ke (Cf:=[(g,2)]) (jH Z aq$ aq _ _ _ X x2) (kf (zb Z UJ UJ) UJ) UJ UJ) λv0 c1 x5 b2 Y=>b1 _ _ ?_;let o2:=a'.fw Y;refine aj λc2 b3=>jS b2 (AR (qY$ j6 Z UJ UK) (AQ (n:=8) Z o2 (cx.mono Y.t) cm) UJ UJ) λv1 b4 x7 b5 k0=>b3 _ _ ?_;let c3:=o2.fw k0;let m0:ai H1 b4:=(((M.trans k5.t).trans Y.t).trans k0.t);refine Kq b5 (Qs (Qr Z) (sZ$ j6 Z UJ UK) (qQ (Ev.up (Ca Z Z$ A7 _ _ _ k0.t x5) λ_ _=>PB.lift) (Qq (jH Z dR x7)$ Ev.up (Kf (Cf:=[(g,2)]) (jH Z aq$ aq _ _ _ m0 xs) UJ) λ_ _=>cf.lift) UJ) UJ UK) λv d x W'=>?_;let⟨r,rfl,x⟩:=x;exact q r d x W'.B W'.K
theorem HM{y:List ρ}{lo:Nat}(h:y.length=14)(H:lo<=8):(bj y (δ (lo:Int))$ δ ((lo+6:Nat):Int)).length=6:=by unfold bj;rw[HT.sIx_nat,HT.sIx_nat,Mb,Nj,h,ND$ LJ H UJ,ND$ Nat.add_le_add_right H 6,Nat.add_sub_cancel_left];exact ND$ Nat.le_sub_of_add_le$ LJ (Sl H 6) UJ
theorem La{k:Nat}(h:k < n):on n (k:Int)=δ k:=by unfold on;rw[LP UK,LP UK,Mx]
theorem oN.more(h:oN C n H r f)(k:∀y∈C,y∈D):oN D n H r f:=let #[d,b,a,c]:=h;#[d,b,#[a.1,kJ k a.2],c]
theorem HQ(r:oN [(l,N),(m,j),(o,k)] N H a l)(s:oN [(l,N),(m,j),(o,k)] j H b m)(t:oN [(l,N),(m,j),(o,k)] k H c o)(p:N<=100/\j<=100/\k<=100):∃D,b6 H D [.ref a,.ref b,.ref c]/\D.length=3/\((∀d∈D,i9 d/\d.b.Cs [(l,N),(m,j),(o,k)])/\D.map Df.f=[l,m,o])/\j' H D [N,j,k]:=by
 let⟨d,u,v,O,y,z,E⟩:=r;let⟨e,A,B,Q,C,F,G⟩:=s;let⟨f,I,J,R,g3,L,M⟩:=t;refine#[[d,e,f],#[_,_,Z,u,_,_,Z,A,_,_,Z,I,Z],Z,#[λx q=>?_,by rw[<- E,<- G,<- M];rfl],Z,λi x n h g=>?_]
 .simp only[M8,Ma,Oj]at q;rcases q with rfl |rfl |rfl
  .exact v
  .exact B
  .exact J
 .match i,h,g with
  |0,h,g=>cases h;cases g;exact#[_,y,z,p.1]
  |1,h,g=>cases h;cases g;exact#[_,C,F,p.2.1]
  |2,h,g=>cases h;cases g;exact#[_,g3,L,p.2.2]
inductive my(b:List V)(H:Hp)(Q:VK)(a:XK):Prop
 |mk(p:η)(_:b=[.ref p])(_:ap H p)(_:∀(r:η) (ds:List Df) (xs:List V) (H':Hp),H' r=δ (.tup xs)->b6 H' ds xs->ds.length=3->∀ns,nX ds ns->j' H' ds ns->(∃r,ns=1::r)->ap H' p->aD p H H'->Q (.ref r) H')
def EG(L:List ρ)(_:Hp)(v:V):Prop:=∃x,v= .str x/\x∈L
section
variable {ys:List ρ}{H0 Hb:Hp}{p wl:η}{σ:_L.St}
theorem Fe{K:β}(e:σ[0]?=δ (↑p))(r:Ev H0 p wl ys Hb σ t (sq a))(s:Ev H0 p wl ys Hb σ T (sq b))(u:Ev H0 p wl ys Hb σ x (sq c)):Ev H0 p wl ys Hb σ (dW (lr K) (nL$ am t$ am T$ am x aL)$ wS 3) (EG [a,b,c]):=λH Q m W q=>
 r H _ m W λy z (E:y= .str a) A k=>s z _ (m.trans k) A λC D (F:C= .str b) G f=>u D _ ((m.trans k).trans f) G λI R (J:I= .str c) h j=>#[fq,λl n=>zb e UJ UJ _ _ ((((m.trans k).trans f).trans j).trans$ .new n) (h.same$ jf n) λv L #[d,M,S,U] N o=>by
  obtain⟨g,i,O⟩:∃g,dO [ri a,.str b,.str c] d=δ (.str g)/\g∈[a,b,c]:=by
   rcases(by omega:d=0∨d=1∨d=2) with rfl |rfl |rfl
   .exact#[a,Z,UL]
   .exact#[b,Z,UL]
   .exact#[c,Z,UL]
  rw[<- E,<- F,<- J]at i;exact#[l,_,d,_,Z,M,aJ.of$ o.b _ _ (h.B.ne n) jc,i,q _ L #[g,Z,O] N (((k.trans f).trans j).trans ((Fw.new n).trans o))]]
theorem sX{K:β}{lo:Nat}(e:σ[0]?=δ (↑p))(E:σ[1]?=δ (↑wl))(d:Ev H0 p wl ys Hb σ t (sq f))(l:Ev H0 p wl ys Hb σ T (EG L))(h:ys.length=14)(o:lo<=8)(s:i=(lo:Int))(u:j=((lo+6:Nat):Int)):
  Ev H0 p wl ys Hb σ (dM (dj n) [] E0$ am (a9 0)$ am t$ am T$ am (Hk (yM K) (a9 1) (nM$ tC$ .int i)$ nM$ tC$ .int j) aL) (PD (L.map λy=>(y,2)) n f):=λH Q m W q=>
 #[_,e,d H _ m W λv x (z:v= .str f) A k=>l x _ (m.trans k) A λV M #[g,D,c] b F=>#[_,E,_,Z,_,Z,wl,_,Z,aJ.of b.w,λr N=>#[p,r,f,g,bj ys (δ i)$ δ j,by rw[z,D];rfl,b.B.upd_new N,by rw[jc,zD],by rw[s,u];exact HM h o,λa G X I C=>
  q _ G #[a,Z,X.more λy J=>by rw[τ.mp J];exact dw.mpr #[g,c,Z]] ((b.same$ jf N).but I C) ((k.trans F).trans ((Fw.new N).trans$ .but (b.B.upd_new N) C))]]]
theorem zI{K:β}{k:Nat}(e:σ[j]?=δ (↑wl))(a:i=(k:Int))(h:ys[k]?=δ y):Ev H0 p wl ys Hb σ (dW (lr K) (a9 j)$ tC$ .int i) (sq y):=λH Q m W q=>
 #[_,e,wl,_,_,_,Z,Z,aJ.of W.w,(by rw[a];exact jJ (by rw[LK,h];rfl)),q _ H Z W .refl]
theorem Fc{n1 n2 n3:Nat}(s:n1<=100/\n2<=100/\n3<=100)(u:Ev H0 p wl ys Hb σ T (PD [(e,n1),(h,n2),(i,n3)] n1 e))(y:Ev H0 p wl ys Hb σ z (PD [(e,n1),(h,n2),(i,n3)] n2 h))(A:Ev H0 p wl ys Hb σ B (PD [(e,n1),(h,n2),(i,n3)] n3 i)):Ev H0 p wl ys Hb σ (bn$ am T$ am z$ am B aL) (λH v=>∃r D x,v= .ref r/\H r=δ (.tup x)/\b6 H D x/\D.length=3/\((∀d∈D,i9 d/\d.b.Cs [(e,n1),(h,n2),(i,n3)])/\D.map Df.f=[e,h,i])/\j' H D [n1,n2,n3]):=λH Q m W q=>
 u H _ m W λV C X E k=>y C _ (m.trans k) E λF G I J j=>A G _ ((m.trans k).trans j) J λL H4 M N l=>#[fq,λr n=>q _ _ (by
  let t:=ae.tm (jf (o:=HO.tup [V,F,L]) n);let⟨a,O,R⟩:=ig _ _ _ t (ig _ _ _ (j.trans l).t X);let⟨b,S,U⟩:=ig _ _ _ t (ig _ _ _ l.t I);let⟨c,Y,h3⟩:=ig _ _ _ t M;let⟨D,g⟩:=HQ R U h3 s;exact#[r,D,_,Z,by rw[jc,O,S,Y],g]) (N.same$ jf n) (((k.trans j).trans l).trans$ .new n)]
end
theorem fe:ak ["_law_box_here","_law_w","_law_body_here","_law_deeper","_law_further","_law_first"] z1z (aa uW):=bJ
theorem yg(F:rx K "_law_busy" uW f fd)(T:Cl P w K mg base 1 fT f0 z0z aZ "_law_take")(cO:Cl P w K mg base 2 fO f1 z18z nE "_law_op")(cA:Cl P w K mg base 2 fA f7 z21z eN "_law_names")(cL:Cl P w K mg base 3 fL f9 z20z (dj 1) "_law_looped")(cK:Cl P w K mg base 3 fK f' z20z (dj 1) "_law_ticking")(cI:Cl P w K mg base 3 fI a0 z35z (dj 2) "_law_inner"):ah P w K mg base aE 4 f fd z1z my:=by
 refine F.ok fe λc0 A U s H vs Q E i h=>?_
 let⟨p,rfl,B,q⟩:=h;refine#[_,(jd (jy 1 fe.nd$ cA.e i.m$ ja (pv 0)$ ja je jb)$ jd (j3$ jx (ze$ T.e i.m$ ja (pv 0)$ ja je jb) (jg$ zf (jr jq (pv 1) je (λ_ _=>Z))$ qO (pv 1) je zB) jp)$ jd (jy 2 fe.nd$ jh$ ja (jh$ ja jk$ ja (jr jq (pv 1) je (λ_ _=>Z))$ ja (jh$ ja jk$ ja (jr jq (pv 1) je (λ_ _=>Z)) jb) jb)$ ja (jh$ ja jk$ ja (cO.e i.m$ ja (pv 0)$ ja (jh$ ja jk$ ja (jr jq (pv 1) je (λ_ _=>Z)) jb)$ ja (jh$ ja jk$ ja (jr jq (pv 1) je (λ_ _=>Z)) jb) jb) jb) jb)$ jd (jy 3 fe.nd$ jh$ ja (jr jq (pv 1) je (λ_ _=>Z))$ ja (jh$ ja (jr jq (pv 1) je (λ_ _=>Z))$ ja (jr jq (pv 1) je (λ_ _=>Z)) jb)$ ja (pv 2) jb)$ jd (jy 4 fe.nd$ jr jq (jI$ ja (jr jq (pv 1) je (λ_ _=>Z))$ ja (jr jq (pv 1) je (λ_ _=>Z))$ ja (jr jq (pv 1) je (λ_ _=>Z)) jb) (T.e i.m$ ja (pv 0)$ ja je jb) (λ_ _=>Z))$ jd (jy 5 fe.nd$ cL.e i.m$ ja (pv 0)$ ja (jr jq (pv 1) je (λ_ _=>Z))$ ja (jr jq (pv 1) je (λ_ _=>Z))$ ja (jK kH (pv 1) (jG je)$ jG je) jb)$ jd (j3$ jx (ze$ T.e i.m$ ja (pv 0)$ ja je jb) (jg$ jy 5 fe.nd$ cK.e i.m$ ja (pv 0)$ ja (jr jq (pv 1) je (λ_ _=>Z))$ ja (jr jq (pv 1) je (λ_ _=>Z))$ ja (jK kH (pv 1) (jG je)$ jG je) jb) jp)$ jg$ jo$ jh$ ja (pv 5)$ ja (cI.e i.m$ ja (pv 0)$ ja (jr jq (pv 1) je (λ_ _=>Z))$ ja (pv 4)$ ja (jK kH (pv 1) (jG je)$ jG je) jb)$ ja (pv 3) jb),?_];refine aj λFa o=>#[_,Z,p,14,Z,B,UJ,UJ,λj ys Ha X u c d Ba ka=>o _ _ ?_];clear o;let wp:j≠p:=qt Ba u;refine aj λFa o=>dF (λn g=>∃Y:List ρ,n=[δ$ rs p,δ$ rs j,θ,θ,θ,θ]/\g j=δ (.lst$ Y.map ri)/\(Y.length=14/\(Y.take 3).Nodup/\∀y∈Y.take 3,y.length<=20)/\ap g p/\aD p H g) (λE0 _ fm=>Jb (W:=#[Ba,ka,u]) Z UJ UJ (λHb l kb=>?_) (λHb l kb=>fm _ _ #[_,Z,l.w,#[UK,d.2.sublist$ Nr _ _,λy hy=>d.1 y (MD hy)],l.B,l.K])) λσ1 H0 h3=>?_
 .clear o;let⟨v1,h6,z⟩:=Kk (ys:=ys) (k:=1) UJ UK;refine#[_,Z,j,_,_,_,Z,Z,aJ.of l.w,z,_,Z,j,_,8,8,Z,Z,l.w,La (k:=8) (by rw[Lw];omega),fm _ _ #[ys.set 8 v1,Z,?_,#[by rw[O3];omega,by rw[List.take_set_of_le UJ];exact#[d.2.sublist$ Nr _ _,λy hy=>d.1 y (MD hy)]],l.B.eq$ ji$ Me wp,l.K.upd_own X]];rw[jc,TK]
 obtain⟨ys,rfl,h4,⟨c,C,D⟩,B1,k1⟩:=h3;obtain⟨y0,h0⟩:∃y,ys[0]?=δ y:=#[_,Ls (by omega:0 < ys.length)];obtain⟨G,I⟩:∃y,ys[1]?=δ y:=#[_,Ls (by omega:1 < ys.length)];obtain⟨y2,N⟩:∃y,ys[2]?=δ y:=#[_,Ls (by omega:2 < ys.length)];let e3:ys.take 3=[y0,G,y2]:=by rw[NM,NM,NM,h0,I,N];rfl
 rw[e3]at C D;refine o _ _ ?_;clear o;let W1:Wd H H0 p j ys:=#[B1,k1,h4];generalize H0=H1 at W1;refine aj λF2 f2=>jS W1 (Qq (qZ (Cf:=[]) (j6 Z UJ UK) (qY$ j6 Z UJ UK) UJ)$ Kf (Cf:=[]) (Kd Z (qY$ j6 Z UJ UK)$ qY$ j6 Z UJ UK) UJ) λv2 H2 x2 W2 k2=>f2 _ _ ?_;refine aj λF3 f3=>jS W2 (Qs (Cf:=[]) (zI (k:=2) Z Z N) (AO (j6 Z UJ UK)$ j6 Z UJ UK) (Ev.up (jH Z du x2) λ_ _=>PB.lift) UJ UK) λv3 H3 x3 W3 k3=>f3 _ _ ?_;refine aj λF4 f4=>jS W3 (Fe Z (zI (k:=1) Z Z I) (zI (k:=2) Z Z N)$ zI (k:=2) Z Z N) λv4 H4 x4 W4 k4=>f4 _ _ ?_;refine aj λF5 f5=>jS W4 (sX (lo:=6) Z Z (zI (k:=0) Z Z h0) (Ev.up (R:=EG [G]) (zI (k:=1) Z Z I) λ_ _ e=>#[_,e,LN]) c UJ Z Z) λv5 H5 x5 W5 k5=>f5 _ _ ?_;refine aj λF6 O=>dF (λn g=>∃(b:V),n=[δ$ rs p,δ$ rs j,δ$ v2,δ$ v3,δ$ v4,δ b]/\PD [(G,2)] 1 y0 g b/\Wd H g p j ys/\ai H5 g) (λE6 _ J=>Jb W5 Z UJ UJ (λH8 W8 S=>?_) (λH8 W8 S=>?_)) λσ2 H7 h5=>?_
 .clear O;refine jS W8 (sX (lo:=6) Z Z (zI (k:=0) Z Z h0) (Ev.up (R:=EG [G]) (zI (k:=1) Z Z I) λ_ _ e=>#[_,e,LN]) c UJ Z Z) λv9 H9 x9 W9 k9=>J _ _ ?_;let M:ai H5 H9:=(S.t.trans k9.t);exact#[_,Z,x9,W9,M]
 .clear O;exact J _ _ #[_,Z,(ig _ _ _ S.t x5),W8,S.t]
 let⟨b7,rfl,x7,W7,k7⟩:=h5;refine O _ _ ?_;clear O;let L:ai H3 H7:=((k4.t.trans k5.t).trans k7);refine Kq W7 (Fc (n1:=1) (n2:=2) (n3:=2) #[UJ,UJ,UJ] (Ev.up (jH Z ig x7) (λ_ _ #[a,e,h]=>#[a,e,h.more UL])) (Ev.up (sX (lo:=7) Z Z (zI (k:=1) Z Z I) (jH (P:=EG [G,y2,y2]) Z (λ_ _ _ _ h=>h) x4) c UJ Z Z) (λ_ _ #[a,e,h]=>#[a,e,h.more UL])) (Ev.up (jH Z ig$ ig _ _ _ L x3) (λ_ _ #[a,e,h]=>#[a,e,h.more UL]))) λv g x W'=>?_;let⟨r,ds,xs,rfl,g0,g1,g2,g3,g4⟩:=x;exact q r ds xs g g0 g1 g2 [1,2,2] #[by rw[g3.2];exact g3.1,by rw[g3.2];exact#[C,D]] g4 #[_,Z] W'.B W'.K
noncomputable abbrev pe:cv:=bK 78
theorem D9(h:0<=d)(H:d < 4):∃m:Int,dO [rm 3,.int 3,.int 3,.int 8] d=δ (.int m)/\3<=m/\m<=8:=by
 rcases(by omega:d=0∨d=1∨d=2∨d=3) with rfl |rfl |rfl |rfl
 .exact#[3,Z,UJ,UJ]
 .exact#[3,Z,UJ,UJ]
 .exact#[3,Z,UJ,UJ]
 .exact#[8,Z,UJ,UJ]
theorem BY(h:b6 H D v)(f:0<=k)(g:k < (v.length:Int)):∃d,dO v k=δ (.ref d.p)/\d∈D/\Ay H d (.ref d.p):=by
 let a:k.toNat < v.length:=by omega
 let E:k=((k.toNat:Nat):Int):=by omega
 let⟨d,c,b⟩:=h.at k.toNat _ (Ls a);let e:v[k.toNat]= .ref d.p:=b.elim λ_ z=>z.1;refine#[d,?_,LS c,by rw[<- e];exact b];rw[E];exact jJ (by rw[<- e];exact Ls a)
def iA(H:Hp)(D:List Df)(v a:V):Prop:=∃(d:Df) (p:List ρ) (t:η) (I:List Int),d∈D/\v= .str d.f/\H d.pa=δ (.tup$ p.map ri)/\a= .ref t/\H t=δ (.tup$ I.map rm)/\I.length=p.length/\I.length<=100/\∀i∈I,0<=i/\i < 1000000000000000000
inductive mz(b:List V)(H:Hp)(Q:VK)(a:XK):Prop
 |mk(p:η)(_:b=[.ref p])(_:ap H p)(_:∀(t r:η) (v2 v3:V) (ds:List Df) (xs:List V) (H':Hp),H' t=δ (.tup [.ref r,v2,v3])->H' r=δ (.tup xs)->b6 H' ds xs->1<=ds.length->ds.length<=8->∀ns,nX ds ns->j' H' ds ns->iA H' ds v2 v3->ap H' p->aD p H H'->Q (.ref t) H')
theorem ff:ak z41z z1z (aa pe):=bJ
noncomputable def Ya:hG:=#[.function,[(".0",.local),("_law_one",.local),("_law_number",.globalImplicit),("_law_box_here",.free)],μ,μ,[]]
theorem t6:(["_law_one","_law_box_here"]:List ρ).Nodup:=by decide+kernel
theorem sJ:bu z41z (aa pe) Ya ["_law_one","_law_box_here"] 1 [0]:=sr
theorem yh(F:rx K "_law_case" pe f fd)(M:Cl P w K mg base 1 fT f0 z0z aZ "_law_take")(cN:Cl P w K mg base 2 fN f3 z1z hX "_law_number")(cY:Cl P w K mg base 4 fY f4 z1z my "_law_busy")(cZ:Cl P w K mg base 22 fZ f5 z34z pF "_law_any")(ml:mg "len"=θ)(m0:mg "tuple"=θ):ah P w K mg base aE 23 f fd z1z mz:=by
 refine F.ok ff λc0 A o1 s H vs Q E y h=>?_
 let⟨p,rfl,B,q⟩:=h;refine#[_,(jd (jx (jA qX (M.e y.m$ ja (pv 0)$ ja je jb) je$ aG _) (jd (jy 1 ff.nd$ cY.e y.m$ ja (pv 0) jb)$ jg$ jo$ jh$ ja (pv 1)$ ja (jz$ jr jM (pv 1) je (λ_ _=>Z))$ ja (jh$ ja (M.e y.m$ ja (pv 0)$ ja je jb) jb) jb) jp)$ jd (jy 2 ff.nd$ jr jq (jI$ ja je$ ja je$ ja je$ ja je jb) (M.e y.m$ ja (pv 0)$ ja je jb) (λ_ _=>Z))$ jd (jy 1 ff.nd$ cZ.e y.m$ ja (pv 0)$ ja (jv jU je$ M.e y.m$ ja (pv 0)$ ja (pv 2) jb)$ ja je jb)$ jd (zf (jr jM (pv 1) (M.e y.m$ ja (pv 0)$ ja (jF jN Z ml ME$ ja (pv 1) jb) jb) (λ_ _=>Z))$ zM (n:=3) Z$ jB (jw (i:=3) ff.nd Z$ Φ Z)$ jB (jw (i:=4) ff.nd Z$ Φ Z)$ jB (jw (i:=5) ff.nd Z$ Φ Z) kE)$ jg$ jo$ jh$ ja (pv 1)$ ja (pv 3)$ ja (jE jL Z m0 Ni$ ja (@zi _ _ _ _ _ _ _ (["_law_one","_law_box_here"]) (1) ([0]) _ _ _ _ Z (zN$ pv 4) sJ (λ_ _ _ _ _=>(jw (i:=0) t6 Z$ Φ Z)) (λ_ _ _ _ _=>(@zz _)) (λ_ _ _ _ _=>(cN.e y.m$ ja (pv 1) jb)) (by intro _;rfl)) jb) jb),?_];let b0:=aI;refine aj λF1 a=>om λG1 g1=>#[_,Z,p,3,Z,B,UJ,UJ,λd1 H1 a0 a1 B1 e1=>#[_,_,Z,Z,_,Z,g1 _ _ ?_]];clear g1;let k1:aD p H H1:=aD.of_eq e1;refine bV (λc=>?_) (λc=>a _ _ ?_)
 .clear a;refine aj λF2 f2=>#[_,Z,p,Z,B1,λr ds xs H2 N C hl ns D b O B2 k2=>f2 _ _ ?_];clear f2;let ln:=C.len;let⟨nr,rfl⟩:=O;cases ds with
  |nil=>cases hl
  |cons d r0=>
  let⟨p0,R,S,_⟩:=b.2 0 d 1 Z Z;let h0:=C;obtain⟨u0,rr,rfl,⟨bs,rfl,hp,_⟩,_⟩:=h0;let g:dO (rs d.p::rr) 0=δ (.ref d.p):=fo;refine#[_,Z,ju N g #[d.p,_,_,_,Z,Z,aC.of hp,fo,_,Z,p,6,Z,B2,UJ,UJ,λd3 H3 d0 d4 B3 e3=>?_]];let c3:aD p H2 H3:=aD.of_eq e3;refine#[i8,λu nu=>#[fq,λt U=>?_]];let s4:ae H3 (af (af H3 u$ .tup [.int d3]) t$ .tup [.ref r,.str d.f,.ref u]):=(jf nu).trans (jf U);let T:=(c3.tm B2).trans (ae.tm s4);exact q t r _ _ _ _ _ jc (T _ _ N) (C.mono T) UK UK _ D (b.mono T) #[d,p0,u,[d3],LN,Z,T _ _ R,Z,ar jc U,by rw[S];rfl,(by show 1<=100;decide),λi hi=>by rw[τ.mp hi];omega] (B3.same s4) ((k1.trans k2).trans$ c3.trans$ aD.of_same s4)
 clear a;refine aj λF1 a=>#[su,λl W=>#[_,Z,p,4,Z,B1.upd_new W,UJ,UJ,λd2 H2 d6 d7 B2 e2=>?_]];let k2:aD p H1 H2:=((aD.refl).upd_new W).trans (aD.of_eq e2);let⟨m,g,m3,m8⟩:=D9 d6 d7;refine#[l,_,_,_,Z,Z,aJ.of (by rw[e2 l$ B1.ne W];exact jc),g,a _ _ ?_];clear a;refine aj λF1 a=>#[_,Z,_,Z,_,Z,p,m,Z,B2,UK,UK,λd3 H3 d0 d4 B3 e3=>#[_,_,Z,Z,p,1+d3,12,Z,B3,UK,UK,UJ,UJ,λr ds xs H4 G C hl ns D b B4 k4=>a _ _ ?_]];clear a;let ln:=C.len;let K4:aD p H H4:=(k1.trans k2).trans ((aD.of_eq e3).trans k4);refine aj λF1 a=>#[_,Z,_,Z,_,Z,r,_,Z,.inr$ aC.of G,p,_,Z,B4,UK,UK,λd5 H5 d8 d' B5 e5=>?_];let c5:aD p H4 H5:=aD.of_eq e5;let o:=c5.tm B4;let⟨d,g,hd,bs,e,hp,_⟩:=BY (C.mono o) d8 d';refine#[r,_,_,_,Z,Z,aC.of$ o _ _ G,g,d.p,_,Z,aC.of hp,Z,_,_,Z,_,_,Z,_,_,Z,Z,a _ _ ?_];clear a;let⟨pv,X,h4⟩:=b.v d hd;let z:=o _ _ X;refine#[_,Z,_,Z,_,Z,d.pa,Z,#[_,aC.of z],?_];refine zX (K:=K) (xs:=pv.map ri) (by rw[Lw];omega) (λi L J=>(∃I:List Int,L=I.map rm/\I.length=i/\∀j∈I,0<=j/\j < 1000000000000000000)/\ap J p/\aD p H5 J) #[#[[],Z,Z,(λ_ h=>nomatch h)],B5,aD.refl] (λi L J k=>?_) (λi x L J hx k=>?_) (λL J k l W=>?_)
 .exact#[aC.of$ k.2.2.tm B5 _ _ z,let #[I,e,l,_]:=k.1;by rw[e,Lw,l];exact Lx _]
 .exact#[_,Z,p,Z,k.2.1,λe H7 e0 e1 B7 e7=>#[let #[I,h1,l,h2]:=k.1;#[I++[e],by rw[h1,Mc];rfl,by rw[Ly,l];rfl,Jk h2 #[e0,e1]],B7,k.2.2.trans$ aD.of_eq e7]]
 .refine#[l,_,Z,.inl #[aJ.of jc,λl2 n0=>#[fq,λt U=>?_]]];let s7:ae J (af (af (af J l$ .lst L) l2$ .tup L) t$ .tup [.ref r,.str d.f,.ref l2]):=((jf W).trans$ jf n0).trans (jf U);let T:=o.trans ((k.2.2.tm B5).trans$ ae.tm s7);let⟨I,hz,Y,h3⟩:=k.1;rw[Lw]at Y;exact q t r _ _ ds xs _ jc (T _ _ G) (C.mono T) UK UK ns D (b.mono T) #[d,pv,l2,I,hd,Z,T _ _ X,Z,by rw[<- hz];exact ar jc U,Y,UK,h3] (k.2.1.same s7) (K4.trans$ c5.trans$ k.2.2.trans$ aD.of_same s7)
noncomputable abbrev me:cv:=bK 16
noncomputable abbrev mv:cv:=bK 17
abbrev aO:=List (bM×V)
def eP(x:Int):Prop:=0<=x/\x < 1000000000000000000
def GT(k:aO):Prop:=∀p∈k,∃i,p.2= .int i/\eP i
theorem GT.nil:GT []:=λ_ h=>absurd h Ma
theorem GT.put(h:GT a)(k:bM)(H:eP i):GT (bg a k$ .int i):=by
 intro p hp;unfold bg at hp;split at hp
 .let⟨q,b,rfl⟩:=dw.mp hp;by_cases e:q.1=k
  .rw[LP e];exact#[i,Z,H]
  .rw[LV e];exact h q b
 .rcases γ.mp hp with hp |hp
  .exact h p hp
  .rw[τ.mp hp];exact#[i,Z,H]
theorem GT.val(h:GT a)(e:dN a k=δ v):∃i,v= .int i/\eP i:=by unfold dN at e;let⟨p,H,rfl⟩:=dt.mp e;exact h p$ List.mem_of_find?_eq_some H
noncomputable def look(a:aO)(k:bM)(z:Int):Int:=match dN a k with
 |some (.int i)=>i
 |_=>z
theorem Kz(h:GT a)(k:bM)(z:Int):(dN a k).getD (.int z)= .int (look a k z):=by
 unfold look;cases e:dN a k with
 |none=>rfl
 |some v=>let⟨i,rfl,_⟩:=h.val e;rfl
theorem rA(h:GT a)(e:dN a k=δ v)(z:Int):v= .int (look a k z):=by unfold look;let⟨i,rfl,_⟩:=h.val e;rw[e]
theorem rq(e:dN a k=θ)(z:Int):look a k z=z:=by unfold look;rw[e]
theorem J4(h:GT a)(H:eP z):eP (look a k z):=by
 unfold look;cases e:dN a k with
 |none=>exact H
 |some v=>let⟨i,rfl,b⟩:=h.val e;exact b
theorem J5:eP 0:=#[UJ,UJ]
noncomputable def jn(i:Nat)(x y:Int):Int:=match i with
 |0=>(x+y) % 1000000000000000000
 |1=>(x - y) % 1000000000000000000
 |2=>x*y % 1000000000000000000
 |3=>if y=0 then 0 else x / y
 |4=>if x < y then 1 else 0
 |_=>if x=y then 1 else 0
noncomputable def Tm.ev(k:aO):Tm->Int
 | .num n=>n
 | .var x=>look k (.inr x) 0
 | .op i a b=>jn i (a.ev k) (b.ev k)
theorem Fm(H:eP x)(c:eP y):eP (jn i x y):=by
 let a:(1000000000000000000:Int)≠0:=by decide
 let b:(0:Int) < 1000000000000000000:=by decide
 match i with
 |0=>exact#[MF _ a,Mo _ b]
 |1=>exact#[MF _ a,Mo _ b]
 |2=>exact#[MF _ a,Mo _ b]
 |3=>
  show eP (if y=0 then 0 else x / y);by_cases h:y=0
  .rw[LP h];exact#[UJ,UJ]
  .rw[LV h];let e:=c.1;let d:0 < y:=by omega
   refine#[Tp H.1 UK,Int.lt_of_le_of_lt ?_ H.2];exact Int.ediv_le_self _ H.1
 |4=>show eP (if x < y then 1 else 0);split<;>exact#[UJ,UJ]
 |n+5=>show eP (if x=y then 1 else 0);split<;>exact#[UJ,UJ]
theorem Jc(g:GT k):∀{t:Tm},t.Good y->eP (t.ev k)
 | .num _,h=>h
 | .var x,_=>J4 g J5
 | .op _ _ _,h=>Fm (Jc g h.2.1) (Jc g h.2.2)
inductive iP(b:List V)(H:Hp)(Q:VK)(a:XK):Prop
 |mk(i:Nat)(x y:Int)(_:b=[.str (Il i),.int x,.int y])(_:i < 6)(_:eP x)(_:eP y)(_:Q (.int (jn i x y)) H)
def IN(K:β)(H:Hp)(T:Tm)(a:η):Prop:=bh H T a∨(T= .num 0/\aC K H a [.str "num",.int 0])
inductive cj(K:β)(n:Nat)(e:List V)(H:Hp)(Q:VK)(b:XK):Prop
 |mk(a d:η)(T:Tm)(f:List ρ)(c:aO)(_:e=[.ref a,.ref d])(_:IN K H T a)(_:T.depth < n)(_:T.Good f)(_:H d=δ (.dK c))(_:GT c)(_:Q (.int (T.ev c)) H)
theorem vF:ak z23z z23z (aa me):=bJ
theorem rL(F:rx K "joined" me f b)(m:mg "TOP"=δ (.int 1000000000000000000 t)):ah P w K mg base aE 1 f b z23z iP:=by
 refine F.ok vF (λe A o s H d Q E r h=>?_)
 let⟨i,x,y,rfl,u,g,j,q⟩:=h;refine#[_,(jd (jx (kc$ pv 0) (jg$ jo$ jv zg (jv jU (pv 1)$ pv 2)$ kh (v:=.int 1000000000000000000) Z m #[_,Z]) jp)$ jd (jx (kc$ pv 0) (jg$ jo$ jv zg (jv kj (pv 1)$ pv 2)$ kh (v:=.int 1000000000000000000) Z m #[_,Z]) jp)$ jd (jx (kc$ pv 0) (jg$ jo$ jv zg (jv zw (pv 1)$ pv 2)$ kh (v:=.int 1000000000000000000) Z m #[_,Z]) jp)$ jd (jx (kc$ pv 0) (jg$ jo$ kr (ze$ pv 2) je$ jv Ku (pv 1)$ pv 2) jp)$ jd (jx (kc$ pv 0) (jg$ jo$ kr (jA Qm (pv 1) (pv 2)$ aG _) je je) jp)$ jg$ jo$ kr (jA qo (pv 1) (pv 2)$ aG _) je je),?_];let⟨k,l⟩:=g;let⟨n,p⟩:=j;rcases(by omega:i=0∨i=1∨i=2∨i=3∨i=4∨i=5) with rfl |rfl |rfl |rfl |rfl |rfl
 .refine#[_,Z,Z,_,Z,ci UM ?_];exact#[_,Z,_,Z,_,_,Z,Z,_,_,Z,Z,(by show(0:Int) < 1000000000000000000;decide),q]
 .refine#[_,Z,Z,_,Z,aX UM ?_];refine#[_,Z,Z,_,Z,ci UM ?_];exact#[_,Z,_,Z,_,_,Z,Z,_,_,Z,Z,(by show(0:Int) < 1000000000000000000;decide),q]
 .refine#[_,Z,Z,_,Z,aX UM ?_];refine#[_,Z,Z,_,Z,aX UM ?_];refine#[_,Z,Z,_,Z,ci UM ?_];exact#[_,Z,_,Z,_,_,Z,Z,.inl #[UK,UK],_,_,Z,Z,(by show(0:Int) < 1000000000000000000;decide),q]
 .refine#[_,Z,Z,_,Z,aX UM ?_];refine#[_,Z,Z,_,Z,aX UM ?_];refine#[_,Z,Z,_,Z,aX UM ?_];refine#[_,Z,Z,_,Z,ci UM ?_];let a:Q (.int (if y=0 then 0 else x / y)) H:=q;refine#[_,Z,Z,_,Z,?_];refine bV (λc=>?_) (λc=>?_)
  .let C:rm y=rm 0:=Mu c;injection C with C;rw[LP C]at a;exact a
  .let C:y≠0:=λz=>c (by rw[z];rfl);rw[LV C]at a;exact#[_,Z,_,Z,_,_,Z,Z,#[UK,UK],a]
 .refine#[_,Z,Z,_,Z,aX UM ?_];refine#[_,Z,Z,_,Z,aX UM ?_];refine#[_,Z,Z,_,Z,aX UM ?_];refine#[_,Z,Z,_,Z,aX UM ?_];refine#[_,Z,Z,_,Z,ci UM ?_];let a:Q (.int (if x < y then 1 else 0)) H:=q;refine#[_,Z,_,Z,_,_,Z,Z,_,Z,?_];refine bV (λc=>?_) (λc=>?_)
  .rw[LP$ Mu c]at a;exact a
  .rw[LV$ O5$ im.mpr c]at a;exact a
 .refine#[_,Z,Z,_,Z,aX UM ?_];refine#[_,Z,Z,_,Z,aX UM ?_];refine#[_,Z,Z,_,Z,aX UM ?_];refine#[_,Z,Z,_,Z,aX UM ?_];refine#[_,Z,Z,_,Z,aX UM ?_];let a:Q (.int (if x=y then 1 else 0)) H:=q;refine#[_,Z,_,Z,Z,_,Z,?_];refine bV (λc=>?_) (λc=>?_)
  .let C:rm x=rm y:=Mu c;injection C with C;rw[LP C]at a;exact a
  .let C:x≠y:=λz=>c (by rw[z];exact LX Z);rw[LV C]at a;exact a
theorem Aa:ak z10z z10z (aa mv):=bJ
theorem uC(F:rx K "worth" mv f p)(C:Cl P w K mg base (n+1) f p z10z (cj K n) "worth")(v:Cl P w K mg base 1 R B z23z iP "joined"):ah P w K mg base aE (n+2) f p z10z (cj K$ n+1):=by
 refine F.ok Aa (λD A o s H V Q E j h=>?_)
 let⟨a,d,T,y,c,rfl,t,I,g,l,G,q⟩:=h;refine#[_,(jd (jx (kc$ jz$ pv 0) (jg$ jo$ jz$ pv 0) jp)$ jd (jx (kc$ jz$ pv 0) (jg$ jo$ @Kx _ _ _ _ _ _ _ _ _ (zQ j) (pv 1) (jz$ pv 0) je #[UN,UN,UN,UN]) jp)$ jg$ jo$ v.e j.m$ ja (jz$ pv 0)$ ja (C.e j$ ja (jz$ pv 0)$ ja (pv 1) jb)$ ja (C.e j$ ja (jz$ pv 0)$ ja (pv 1) jb) jb),?_];cases T with
 |num m=>
  let b:aC K H a [.str "num",.int m]:=t.elim (λh=>aC.of h) λz=>by cases z.1;exact z.2
  refine#[_,Z,a,_,_,_,Z,Z,b,Z,Z,_,Z,ci UM ?_];exact#[_,Z,a,_,_,_,Z,Z,b,Z,q]
 |var x=>
  let b:H a=δ (.tup [.str "var",.str x]):=t.resolve_right λz=>by cases z.1
  refine(ju b Z #[Z,_,Z,aX UM ?_]);refine(ju b Z #[Z,_,Z,ci UM ?_]);refine#[_,Z,d,Z,.inl #[c,.inl l],ju b Z #[_,fu.k (k:=Sum.inr x) l,?_]];rw[Kz G];exact q
 |op i r u=>
  let⟨J,L,b,M,N⟩:=t.resolve_right λz=>by cases z.1
  let O:max r.depth u.depth+1 < n+1:=I;refine(ju b Z #[Z,_,Z,aX UM ?_]);refine(ju b Z #[Z,_,Z,aX UM ?_]);refine(ju b Z ?_);refine(ju b Z #[_,Z,J,d,r,y,c,Z,.inl M,UK,g.2.1,l,G,?_]);refine(ju b Z #[_,Z,L,d,u,y,c,Z,.inl N,UK,g.2.2,l,G,?_]);exact#[i,_,_,Z,g.1,Jc G g.2.1,Jc G g.2.2,q]
theorem uh:ah P w K mg base aE 1 f e z10z (cj K 0):=by
 let n:∀v H Q E,¬cj K 0 v H Q E:=λv H Q E h=>by let⟨a,d,T,y,k,_,_,c,_⟩:=h;exact absurd c$ Oi _
 exact#[λv H Q E h=>absurd h (n v H Q E),λA o s H b u v Q E _ _ _ _ h=>absurd h (n v H Q E)]
theorem wJ(F:rx K "worth" mv f a)(b:aw K a z10z [])(m:mg "worth"=↑f)(c:Cl P w K mg base 1 e d z23z iP "joined"):
  ∀n:Nat,ah P w K mg base aE (n+1) f a z10z (cj K n)
 |0=>uh
 |n+1=>uC F #[(wJ F b m c n),b,F.kp,m] c
def TV(H:Hp)(y:List ρ)(t:η)(T:Tm):Prop:=bh H T t/\dq y T
theorem TV.mono(k:ai H a)(h:TV H y t T):TV a y t T:=#[h.1.mono k,h.2]
inductive Gl where
 |give (t:η) (T:Tm) |nought |go (n:Nat)
structure WD where
 sets:List (ρ×η×Tm)
 goal:Gl
noncomputable def Gl.gol(N:η):Gl->GY
 | .give t _=>.give t
 | .nought=>.give N
 | .go n=>.go (n:Int)
noncomputable def WD.wy(n:η)(w:WD):Wy:=#[w.sets.map λs=>(s.1,s.2.1),w.goal.gol n]
def Ez(H:Hp)(y:List ρ)(m:Nat):Gl->Prop
 | .give t T=>TV H y t T
 | .nought=>True
 | .go n=>n < m
structure wO(H:Hp)(ys:List ρ)(m N:Nat)(w:WD):Prop where
 sets:∀s∈w.sets,TV H ys s.2.1 s.2.2
 len:w.sets.length<=N
 goal:Ez H ys m w.goal
def mQ(H:Hp)(y:List ρ)(n:η)(m N:Nat)(w:Wy):Prop:=∃d:WD,d.wy n=w/\wO H y m N d
def IE(F:ik)(H:Hp)(y:List ρ):Dd->Prop
 | .st p=>∃(l:Lf) (v:List V),H p=δ (.tup v)/\wY H l v/\l.Ok y/\l.isCut=ν/\l.Cs F
 | .ask t=>∃T,TV H y t T
noncomputable def Dd.ways:Dd->Nat
 | .st _=>1
 | .ask _=>2
structure wU(F:ik)(H:Hp)(ys:List ρ)(nA:η)(m N:Nat)(c:Ct):Prop where
 mem:∀x,c.M x->x∈ys
 deed:IE F H ys c.d
 ways:∀w∈c.ws,mQ H ys nA m N w
 len:c.ws.length=c.d.ways
structure wN(H:Hp)(ys:List ρ)(nA:η)(m N:Nat)(pc:Pc):Prop where
 mem:∀x,pc.M x->x∈ys
 way:mQ H ys nA m N pc.w
section
variable {F:ik}{H H':Hp}{ys:List ρ}{nA:η}{m N N':Nat}
theorem Ez.mono(k:ai H H')(h:Ez H ys m g):Ez H' ys m g:=by
 cases g with
 |give t T=>exact TV.mono k h
 |nought=>trivial
 |go n=>exact h
theorem wO.mono(k:ai H H'){w:WD}(h:wO H ys m N w):wO H' ys m N w:=#[λs a=>(h.sets s a).mono k,h.len,h.goal.mono k]
theorem mQ.up(a:N<=N'){w:Wy}(h:mQ H ys nA m N w):mQ H ys nA m N' w:=let #[d,e,v]:=h;#[d,e,v.sets,LJ v.len a,v.goal]
theorem wU.up(a:N<=N')(h:wU F H ys nA m N c):wU F H ys nA m N' c:=#[h.mem,h.deed,λw b=>(h.ways w b).up a,h.len]
theorem wN.up(a:N<=N')(h:wN H ys nA m N p):wN H ys nA m N' p:=#[h.mem,h.way.up a]
theorem Yh{n:Nat}(a:k=(n:Int))(b:n < m):mQ H ys nA m N #[[],.go k]:=#[#[[],.go n],by rw[a];rfl,(λ_ h=>absurd h Ma),LF _,b]
theorem Kg:∀(b:Bd) {X:List V} {g:Pc} {fs:List Ct} {N:Nat},dG H b X->b.Ok ys->b.Cs F->wN H ys nA m N g->(∀c∈fs,wU F H ys nA m N c)->fs.length+b.cuts<=m->
  wN H ys nA m (N+b.size) (pB (m:Int) b g fs).1/\∀c∈(pB (m:Int) b g fs).2,wU F H ys nA m (N+b.size) c
 | .nil,_,_,_,_,_,_,_,o,y,_=>#[o,y]
 | .lf p l r,X,g,fs,N,C,i,k,o,y,D=>by
  let⟨vs,zs,_,h1,I,h3⟩:=C;let E:fs.length+(l.cut+r.cuts)<=m:=D;let⟨R,A⟩:=Kg r h3 i.2 k.2 o y UK;let hl:=km (m:Int) r g fs;let S:N+r.size<=N+(r.size+1):=by omega
  let j:=Lf.use_in i.1 R.mem;let J:l.isCut=ν->l.cut=1->wN H ys nA m (N+(r.size+1)) #[l.use (pB (m:Int) r g fs).1.M,#[[],.go ((m:Int) - ((pB (m:Int) r g fs).2.length:Int) - 1)]]/\∀c∈(pB (m:Int) r g fs).2++[#[l.use (pB (m:Int) r g fs).1.M,.st p,[(pB (m:Int) r g fs).1.w]]],wU F H ys nA m (N+(r.size+1)) c:=λG h0=>
   #[#[j,Yh (n:=m - (fs.length+r.cuts) - 1) (by rw[hl];omega) UK],λc L=>by
    rcases γ.mp L with z |z
    .exact(A c z).up S
    .rw[τ.mp z];exact#[j,#[l,vs,h1,I,i.1,G,k.1],λw hw=>by rw[τ.mp hw];exact R.way.up S,Z]]
  show wN H ys nA m (N+(r.size+1)) (pL (m:Int) p l$ pB (m:Int) r g fs).1/\∀c∈(pL (m:Int) p l$ pB (m:Int) r g fs).2,wU F H ys nA m (N+(r.size+1)) c;cases l with
  |gv t T=>exact#[#[j,#[#[[],.give t T],Z,(λ_ h=>absurd h Ma),LF _,I.2,i.1]],λc G=>(A c G).up S]
  |st x t T=>
   refine#[#[j,?_],λc G=>(A c G).up S];show mQ H ys nA m _ (iJ x t (pB (m:Int) r g fs).1);unfold iJ;split
   .let⟨d,e,v⟩:=R.way;refine#[#[(x,t,T)::d.sets,d.goal],by rw[<- e];rfl,λs hs=>?_,M6 v.len,v.goal];rcases Ξ.mp hs with rfl |hs
    .exact#[I.2,i.1.2]
    .exact v.sets s hs
   .exact R.way.up S
  |rd x t T |wr t u T U |cl x f q ts=>exact J Z Z
 | .ite p t T a c r,X,g,fs,N,C,i,k,o,y,D=>by
  let⟨qa,qb,as,bs,zs,_,g1,O,g2,g3,Q,g5,W⟩:=C;let E:fs.length+(1+a.cuts+c.cuts+r.cuts)<=m:=D;let⟨R,A⟩:=Kg r W i.2.2.2 k.2.2 o y UK;let B:=km (m:Int) r g fs;let⟨c1,c2⟩:=Kg c g5 i.2.2.1 k.2.1 R A UK;let h4:=km (m:Int) c (pB (m:Int) r g fs).1 (pB (m:Int) r g fs).2;let⟨Y,a2⟩:=Kg a Q i.2.1 k.1 (R.up$ NQ _ _) c2 UK;let S:N+r.size+c.size+a.size<=N+(a.size+c.size+r.size+1):=by omega
  let j:∀x,(Bd.ite p t T a c .nil).use (pB (m:Int) r g fs).1.M x->x∈ys:=Bd.use_in #[i.1,i.2.1,i.2.2.1,trivial] R.mem;let hk:(m:Int) - ((pB (m:Int) r g fs).2.length:Int) - ((Bd.ite p t T a c .nil).cuts:Int)=((m - (fs.length+r.cuts) - (1+a.cuts+c.cuts):Nat):Int):=by show(m:Int) - _ - ((1+a.cuts+c.cuts+0:Nat):Int)=_;rw[B];omega
  unfold pB;dsimp only;refine#[#[j,Yh hk UK],λe he=>?_];rcases γ.mp he with z |z
  .exact(a2 e z).up S
  .rw[τ.mp z];refine#[j,#[T,O,i.1],λw hw=>?_,Z];rcases Ξ.mp hw with rfl |hw
   .exact Y.way.up S
   .rw[τ.mp hw];exact c1.way.up (by show _<=N+(a.size+c.size+r.size+1);omega)
 | .loop p t T a r,X,g,fs,N,C,i,k,o,y,D=>by
  let⟨qa,as,zs,_,g1,O,g2,Q,W⟩:=C;let E:fs.length+(1+a.cuts+r.cuts)<=m:=D;let⟨R,A⟩:=Kg r W i.2.2 k.2 o y UK;let B:=km (m:Int) r g fs;let j:∀x,(Bd.loop p t T a .nil).use (pB (m:Int) r g fs).1.M x->x∈ys:=Bd.use_in #[i.1,i.2.1,trivial] R.mem;let hk:(m:Int) - ((pB (m:Int) r g fs).2.length:Int) - ((Bd.loop p t T a .nil).cuts:Int)=((m - (fs.length+r.cuts) - (1+a.cuts):Nat):Int):=by show(m:Int) - _ - ((1+a.cuts+0:Nat):Int)=_;rw[B];omega
  let pl:wN H ys nA m (N+r.size) #[(Bd.loop p t T a .nil).use (pB (m:Int) r g fs).1.M,#[[],.go ((m:Int) - ((pB (m:Int) r g fs).2.length:Int) - ((Bd.loop p t T a .nil).cuts:Int))]]:=#[j,Yh hk UK];let⟨Y,a2⟩:=Kg a Q i.2.1 k.1 pl A UK;let S:N+r.size+a.size<=N+(a.size+r.size+1):=by omega
  unfold pB;dsimp only;refine#[pl.up (by show _<=N+(a.size+r.size+1);omega),λe he=>?_];rcases γ.mp he with z |z
  .exact(a2 e z).up S
  .rw[τ.mp z];refine#[j,#[T,O,i.1],λw hw=>?_,Z];rcases Ξ.mp hw with rfl |hw
   .exact Y.way.up S
   .rw[τ.mp hw];exact R.way.up (by show _<=N+(a.size+r.size+1);omega)
end
def bP(n:η)(d:Df):List Ct:=(hV n d).2.reverse
theorem Zw(n:η)(d:Df):(bP n d).length=d.b.cuts:=by unfold bP;rw[Sd];exact(km _ _ _ _).trans (O0 _)
theorem Bi{nA:η}{d:Df}(f:dG H d.b B)(g:d.b.Ok y):wN H y nA d.b.cuts d.b.size (hV nA d).1/\∀c∈bP nA d,wU d.b.calls H y nA d.b.cuts d.b.size c:=by let p:wN H y nA d.b.cuts 0 (Ia nA):=#[λx i=>absurd i Ma,#[[],.nought],Z,(λ_ h=>absurd h Ma),Lx _,trivial];let⟨a,e⟩:=Kg (m:=d.b.cuts) d.b f g (zE d.b) p (fs:=[]) (λ_ h=>absurd h Ma) (by show 0+_<=_;omega);rw[O0]at a e;exact#[a,λc j=>e c (List.mem_reverse.mp j)]
theorem QR{M:ρ->Prop}{y:List ρ}(h:∀x,M x->x∈y):(canon M).length<=y.length:=by
 by_cases e:∃s,Nm s M
 .let⟨s,H⟩:=e;rw[<- H.canon];exact H.len h
 .unfold canon;rw[dif_neg e];exact LF _
noncomputable def b8:List (ρ×η×Tm)->aO->aO
 | [],k=>k
 |s::r,k=>b8 r (bg k (.inr s.1) (.int (s.2.2.ev k)))
def dI(N:η)(d:Df)(n:Nat):List ρ:=match (bP N d)[n]? with
 |some c=>canon c.M
 |none=>[]
noncomputable def oq(N:Nat->List ρ)(k:aO):Gl->Tr
 | .give _ T=>aB [aN "give",ay (T.ev k)]
 | .nought=>aB [aN "give",ay 0]
 | .go n=>aB [aN "go",ay (n:Int),aB ((N n).map λx=>ay (look k (.inr x) 0))]
theorem qd{H:Hp}{ys:List ρ}:∀{ss:List (ρ×η×Tm)} {k:aO},(∀s∈ss,TV H ys s.2.1 s.2.2)->GT k->GT (b8 ss k)
 | [],_,_,g=>g
 |s::r,k,h,g=>qd (H:=H) (ys:=ys) (ss:=r) (λS a=>h S (LW _ a)) (g.put _ (Jc g (h s LN).2.1))
theorem rX{S:List (ρ×η×Tm)}:∀{i:Nat} {s:ρ×η×Tm} {k:aO},S[i]?=δ s->b8 (S.take$ i+1) k=bg (b8 (S.take i) k) (.inr s.1) (.int$ s.2.2.ev$ b8 (S.take i) k):=by
 induction S with
 |nil=>intro i s k h;simp at h
 |cons a r I=>
  intro i s k h;cases i with
  |zero=>cases h;rfl
  |succ i=>exact I (by simpa using h)
theorem zk{kvs:aO}{k:bM}{v:V}:(bg kvs k v).length<=kvs.length+1:=by
 unfold bg;split
 .rw[Lw];exact MZ _
 .rw[Ly];exact Lx _
theorem XF:∀{ss:List (ρ×η×Tm)} {k:aO},(b8 ss k).length<=k.length+ss.length
 | [],_=>Lx _
 |s::r,k=>by let h:=XF (ss:=r) (k:=bg k (.inr s.1) (.int$ s.2.2.ev k));let H:=zk (kvs:=k) (k:=.inr s.1) (v:=.int (s.2.2.ev k));show(b8 r _).length<=k.length+(r.length+1);omega
noncomputable def aR(n:List ρ)(i:List Int):aO:=dh [] ((n.map Sum.inr).zip$ i.map rm)
theorem XG:∀{m:aO} {k:aO},GT k->GT m->GT (dh k m)
 | [],_,g,_=>g
 |p::r,k,g,h=>by
  let⟨i,e,H⟩:=h p LN;let E:bg k p.1 p.2=bg k p.1 (.int i):=by rw[e]
  show GT (dh (bg k p.1 p.2) r);rw[E];exact XG (g.put _ H) λq a=>h q (LW _ a)
theorem qR(h:∀i∈I,eP i):GT (aR n I):=by refine XG GT.nil λp H=>?_;let⟨i,a,e⟩:=dw.mp (Og H).2;exact#[i,e.symm,h i a]
theorem Zx{ns:List ρ}{is:List Int}:(aR ns is).length<=ns.length:=by let h:=qK ((ns.map Sum.inr).zip$ is.map rm) [];rw[P0,Lw]at h;show(dh [] _).length<=_;let H:(dh [] ((ns.map Sum.inr).zip$ is.map rm)).length<=0+min ns.length (is.map rm).length:=h;omega
noncomputable abbrev oA:cv:=bK 27
noncomputable abbrev md:cv:=bK 28
noncomputable abbrev gf:cv:=bK 32
noncomputable abbrev ma:cv:=bK 33
noncomputable abbrev iE:cv:=bK 34
noncomputable abbrev mj:cv:=bK 35
structure mP(H:Hp)(nA:η)(d:Df)(ys:List ρ)(v:V):Prop where
 tr:aP H (eY nA d) v []
 bd:∃bs,dG H d.b bs
 ok:d.b.Ok ys
 y20:ys.length<=20
 sz:d.b.size<=3000
structure Ex(H:Hp)(nA:η)(d:Df)(ys:List ρ)(c:Ct)(ka na wa:η)(dv:V)(wvs:List V):Prop where
 at':H ka=δ (.tup [.ref na,dv,.ref wa])
 nms:H na=δ (.tup ((canon c.M).map ri))
 deed:aP H (Hf c.d) dv []
 wat:H wa=δ (.tup wvs)
 ways:aP H (aH$ c.ws.map ij) .non wvs
 v:wU d.b.calls H ys nA d.b.cuts d.b.size c
theorem Zy:∀{S:List ρ} {v:List V},aP H (aH$ S.map aN) .non v->v=S.map ri
 | [],v,h=>h
 |s::S,v,h=>by obtain⟨_,_,y,Y,rfl,⟨rfl,_⟩,a⟩:=h;rw[Zy a];rfl
section
variable {H H':Hp}{nA:η}{d:Df}{ys:List ρ}{v:V}
theorem mP.mono(k:ai H H')(h:mP H nA d ys v):mP H' nA d ys v:=#[h.tr.mono k,let #[b,a]:=h.bd;#[b,a.mono k],h.ok,h.y20,h.sz]
theorem mP.parts(h:mP H nA d ys v):∃(a c:η) (W:V) (C:List V),v= .ref a/\H a=δ (.tup [.str d.f,.ref d.pa,W,.ref c])/\aP H (ij (hV nA d).1.w) W []/\H c=δ (.tup C)/\aP H (aH ((bP nA d).map ER)) .non C:=by obtain⟨_,a,x,rfl,i,_,_,n,Y,rfl,⟨rfl,_⟩,_,_,o,j,rfl,⟨rfl,_⟩,_,_,W,k,rfl,l,_,_,p,y,rfl,m,e⟩:=h.tr;let e:y=[]:=e;subst e;let⟨_,c,C,rfl,b,g⟩:=m;exact#[a,c,W,C,Z,i,l,b,g]
theorem mP.cut{C:List V}(h:mP H nA d ys v)(a:aP H (aH ((bP nA d).map ER)) .non C){n:Nat}{c:Ct}(g:(bP nA d)[n]?=δ c):∃k N i D W,C[n]?=↑k/\Ex H nA d ys c k N i D W:=by
 let L:=zp a;rw[Lw]at L;let u:n < C.length:=by rw[L];exact(ξ.mp g).1
 let j:C[n]?=δ C[n]:=Ls u;let⟨T,b,t⟩:=qP a n _ j;rw[LK,g]at b;cases b;let⟨B,y⟩:=h.bd;let z:=(Bi (nA:=nA) y h.ok).2 c (LS g);generalize C[n]=x at j t;let⟨_,k,E,rfl,l,_,_,F,G,rfl,m,_,_,D,I,rfl,o,_,_,J,A,rfl,p,e⟩:=t;let e:A=[]:=e;subst e;let⟨_,N,M,rfl,f,q⟩:=m;let⟨_,i,W,rfl,r,s⟩:=p;rw[Zy q]at f;exact#[k,N,i,D,W,j,l,f,o,r,s,z]
theorem mP.way(h:mP H nA d ys v):mQ H ys nA d.b.cuts d.b.size (hV nA d).1.w:=let #[B,a]:=h.bd;(Bi (nA:=nA) a h.ok).1.way
theorem uf(h:(bP nA d)[n]?=δ c):dI nA d n=canon c.M:=by unfold dI;rw[h]
end
structure HE(H:Hp)(nA:η)(w:WD)(wa sa ga:η)(ss:List V)(wd:ρ)(u:V):Prop where
 at':H wa=δ (.tup [.ref sa,.ref ga])
 sat:H sa=δ (.tup ss)
 sets:∀(i:Nat) (x:V),ss[i]?=δ x->∃(s:ρ×η×Tm) (p:η),w.sets[i]?=δ s/\x= .ref p/\H p=δ (.tup [.str s.1,.ref s.2.1])
 len:ss.length=w.sets.length
 gat:H ga=δ (.tup [.str wd,u])
 goal:match w.goal with
  | .give t _=>wd="give"/\u= .ref t
  | .nought=>wd="give"/\u= .ref nA
  | .go n=>wd="go"/\u= .int (n:Int)
theorem As{w:WD}(h:aP H (ij$ w.wy N) v []):∃(l S G:η) (A:List V) (W:ρ) (u:V),v= .ref l/\HE H N w l S G A W u:=by
 obtain⟨_,r,X,rfl,C,_,_,y0,D,rfl,⟨_,s,c,rfl,E,m⟩,_,_,Y,y,rfl,b,e⟩:=h;let e:y=[]:=e;subst e;let L:=zp m;let st:∀(i:Nat) (x:V),c[i]?=δ x->∃(s:ρ×η×Tm) (p:η),w.sets[i]?=δ s/\x= .ref p/\H p=δ (.tup [.str s.1,.ref s.2.1]):=λi x F=>by let⟨tr,o,I⟩:=qP m i x F;rw[LK]at o;let⟨q,J,rfl⟩:=dt.mp o;let a:(w.sets.map λs=>(s.1,s.2.1))[i]?=δ q:=J;rw[LK]at a;let⟨z,M,rfl⟩:=dt.mp a;obtain⟨_,p,X,rfl,O,_,_,Q,R,rfl,⟨rfl,_⟩,_,_,U,B,rfl,⟨rfl,_⟩,e⟩:=I;let e:B=[]:=e;subst e;exact#[z,p,M,Z,O]
 let ln:c.length=w.sets.length:=by rw[L,Lw];exact Lw ..
 let f:∀g:Gl,w.goal=g->aP H (xP$ g.gol N) Y []->∃(G:η) (W:ρ) (u:V),Y= .ref G/\H G=δ (.tup [.str W,u])/\match g with
  | .give t _=>W="give"/\u= .ref t
  | .nought=>W="give"/\u= .ref N
  | .go n=>W="go"/\u= .int (n:Int):=λg _ b=>by
  cases g with
  |give t T |nought |go n=>obtain⟨_,gl,X,rfl,d,_,_,Q,R,rfl,⟨rfl,_⟩,_,_,U,B,rfl,⟨rfl,_⟩,e⟩:=b;let e:B=[]:=e;subst e;exact#[gl,_,_,Z,d,Z,Z]
 let⟨G,W,u,rfl,j,k⟩:=f w.goal Z b;exact#[r,s,G,c,W,u,Z,C,E,st,ln,j,k]
inductive iK(b:η)(e:List V)(H:Hp)(Q:VK)(a:XK):Prop
 |mk(v:V)(n:Nat)(d:Df)(f:List ρ)(c:Ct)(_:e=[v,.int (n:Int)])(_:mP H b d f v)(_:(bP b d)[n]?=δ c)(_:∀(ka na wa:η) (dv:V) (wvs:List V),Ex H b d f c ka na wa dv wvs->Q (.ref ka) H)
inductive iO(f:η)(g:List V)(H:Hp)(Q:VK)(a:XK):Prop
 |mk(v:V)(n:Nat)(b:η)(d:Df)(h:List ρ)(c:Ct)(e:List Int)(_:g=[v,.int (n:Int),.ref b])(_:mP H f d h v)(_:(bP f d)[n]?=δ c)(_:H b=δ (.tup (e.map rm)))(_:e.length=(canon c.M).length)(_:∀dd:η,H dd=θ->Q (.ref dd) (af H dd (.dK (aR (canon c.M) e))))
theorem Zz:∀(s:List ρ),(s.map (Sum.inr:ρ->bM)).map kV=s.map ri:=λs=>by rw[Nt];rfl
theorem y8:ak ["part","n"] ["part","n"] (aa oA):=bJ
theorem um{f:η}{g:fy}{N:η}(F:rx K "cut_at" oA f g):ah P w K mg base aE 1 f g ["part","n"] (iK N):=by
 refine F.ok y8 λl A o s H V Q E B h=>?_
 let⟨v,n,d,y,c,rfl,i,m,q⟩:=h;refine#[_,(jg$ jo$ jr jM (jz$ pv 0) (pv 1) (λ_ _=>Z)),?_];let⟨a,p,I,J,rfl,r,L,b,e⟩:=i.parts;let⟨t,u,x,D,W,z,C⟩:=i.cut e m;exact#[_,Z,a,_,_,_,Z,Z,aC.of r,jJ (j:=3) Z,_,Z,p,_,_,_,Z,Z,aC.of b,jJ z,q t u x D W C]
theorem vE:ak z8z z8z (aa md):=bJ
theorem rK(F:rx K "held_at" md f g)(i:Cl P w K mg base 1 J j ["part","n"] (iK N) "cut_at")(m:mg "dict"=θ)(a:mg "zip"=θ):ah P w K mg base aE 2 f g z8z (iO N):=by
 refine F.ok vE λp A o s H V Q E r h=>?_
 let⟨v,n,b,d,y,c,I,rfl,t,u,x,z,q⟩:=h;refine#[_,(jg$ jo$ @Zl _ _ _ _ _ _ _ _ Z m Z a Z (ja (jr jM (i.e r$ ja (pv 0)$ ja (pv 1) jb) je (λ_ _=>Z))$ ja (pv 2) jb) UN UN UN UN),?_];refine#[_,Z,_,Z,v,n,d,y,c,Z,t,u,λB D O R W C=>#[B,_,_,_,Z,Z,aC.of C.at',fo,_,Z,D,b,(canon c.M).map Sum.inr,_,Z,by rw[Zz];exact aC.of C.nms,aC.of x,by rw[Lw,Lw,z],λl G=>q l G]]
inductive Wh where
 |rd (a i:Int) |wr (a b:Int) |ask (b:Int) |cl (f:ρ) (is:List Int) (i:Int)
def BJ(H:Hp)(u:V):Wh->Prop
 | .rd a i=>∃p,u= .ref p/\H p=δ (.tup [.str "read",.int a,.int i])
 | .wr a b=>∃p,u= .ref p/\H p=δ (.tup [.str "write",.int a,.int b])
 | .ask b=>∃p,u= .ref p/\H p=δ (.tup [.str "ask",.int b])
 | .cl f I i=>∃p c g e,u= .ref p/\H p=δ (.tup [.str "call",.ref c])/\H c=δ (.tup [.str f,.ref g,e,.int i])/\H g=δ (.tup (I.map rm))
theorem BJ.mono{H d:Hp}(k:ai H d){u:V}{w:Wh}(h:BJ H u w):BJ d u w:=by
 cases w with
 |rd a i |wr a b |ask b=>let⟨p,e,h⟩:=h;exact#[p,e,k _ _ h]
 |cl f I i=>let⟨p,c,g,e,E,j,l,m⟩:=h;exact#[p,c,g,e,E,k _ _ j,k _ _ l,k _ _ m]
inductive DD where
 |st (p:η) (l:Lf) |ask (t:η) (T:Tm)
noncomputable def DD.dd:DD->Dd
 | .st p _=>.st p
 | .ask t _=>.ask t
def sy(H:Hp)(y:List ρ):DD->Prop
 | .st p l=>∃v,H p=δ (.tup v)/\wY H l v/\l.Ok y/\l.isCut=ν
 | .ask t T=>TV H y t T
theorem sy.mono(k:ai H a)(h:sy H y d):sy a y d:=by
 cases d with
 |st p l=>let⟨v,b,c,e⟩:=h;exact#[v,k _ _ b,c.mono k,e]
 |ask t T=>exact TV.mono k h
def DD.Cs(F:ik):DD->Prop
 | .st _ l=>l.Cs F
 | .ask _ _=>True
theorem EU{F:ik}(h:IE F H y d):∃e:DD,e.dd=d/\sy H y e/\e.Cs F:=by
 cases d with
 |st p=>let⟨l,v,a,b,c,f,g⟩:=h;exact#[.st p l,Z,#[v,a,b,c,f],g]
 |ask t=>let⟨T,h⟩:=h;exact#[.ask t T,Z,h,trivial]
def Ey:DD->Wh->Prop
 | .st _ (.rd _ _ _),.rd _ i=>eP i
 | .st _ (.wr _ _ _ _),.wr _ _=>True
 | .st _ (.cl _ _ _ _),.cl _ _ i=>eP i
 | .ask _ _,.ask b=>b=0∨b=1
 |_,_=>False
noncomputable def oi(d:DD)(w:Wh)(k:aO):aO:=match d,w with
 | .st _ (.rd x _ _),.rd _ i=>bg k (.inr x) (.int i)
 | .st _ (.cl x _ _ _),.cl _ _ i=>bg k (.inr x) (.int i)
 |_,_=>k
noncomputable def Wh.side:Wh->Nat
 | .ask b=>if b=0 then 1 else 0
 |_=>0
def tw(Q:VK)(H:Hp):Wh->Prop
 | .rd _ i=>Q (.int i) H
 | .cl _ _ i=>Q (.int i) H
 |_=>False
inductive eM(b:List V)(H:Hp)(Q:VK)(a:XK):Prop
 |mk(u:V)(w:Wh)(_:b=[u])(_:BJ H u w)(_:tw Q H w)
inductive ny(c:η)(e:List V)(H:Hp)(Q:VK)(a:XK):Prop
 |mk(v f:V)(b:η)(d:Df)(g:List ρ)(w:WD)(k:aO)(_:e=[v,f,.ref b])(_:mP H c d g v)(_:aP H (ij (w.wy c)) f [])(_:wO H g d.b.cuts d.b.size w)(_:H b=δ (.dK k))(_:GT k)(_:k.length<=200)(_:∀(u:V) (H':Hp),aP H' (oq (dI c d) (b8 w.sets k) w.goal) u []->aD b H H'->Q u H')
inductive EI(c:η)(a:_L.St)(j:List (ρ×η×Tm))(k:aO)(H:Hp)(i:Nat)(l:_L.St)(b:Hp):Prop
 |mk(g h:Option V)(d:l=a++[g,h,θ,θ])(e:b c=δ (.dK (b8 (j.take i) k)))(f:aD c H b)
theorem J6{H:Hp}:∀{is:List Int},aP H (aH$ is.map ay) .non (is.map rm)
 | []=>rfl
 |i::is=>jm Z jV (J6 (is:=is))
theorem lH:ak ["what"] ["what"] (aa gf):=bJ
theorem uq(F:rx K "found_in" gf f n):ah P w K mg base aE 1 f n ["what"] eM:=by
 refine F.ok lH λC A o s H v Q E t h=>?_
 let⟨u,W,rfl,d,q⟩:=h;refine#[_,(jg$ jo$ kr (kc$ jz$ pv 0) (jz$ jr jM (pv 0) je (λ_ _=>Z))$ jr jM (pv 0) (uF Yc je) (λ_ _=>Z)),?_];cases W with
 |rd a i=>let⟨p,rfl,l⟩:=d;exact(ju l fo #[Z,_,Z,aX UM #[_,Z,_,Z,p,_,_,_,Z,Z,aC.of l,Z,q]])
 |cl f I i=>let⟨p,c,g,e,rfl,m,r,_⟩:=d;exact(ju m fo #[Z,_,Z,ci UM$ ju m lR #[c,_,_,_,Z,Z,aC.of r,jJ (j:=3) Z,q]])
 |wr a b |ask b=>exact q.elim
theorem gm:ak ["part","way","numbers","name","term","goal","held"] ["part","way","numbers"] (aa ma):=bJ
noncomputable def YZ:hG:=#[.function,[(".0",.local),("name",.local),("numbers",.free)],μ,μ,[]]
theorem xZ:(["name","numbers"]:List ρ).Nodup:=by decide+kernel
theorem xp:bu ["part","way","numbers","name","term","goal","held"] (aa ma) YZ ["name","numbers"] 1 [2]:=sr
theorem uo(F:rx K "end_of" ma f fd)(cC:Cl P w K mg base 1 fC f2 ["part","n"] (iK U) "cut_at")(cW:Cl P w K mg base 7 fW f3 z10z (cj K 6) "worth")(m0:mg "tuple"=θ)(no:n9 K U):ah P w K mg base aE 8 f fd ["part","way","numbers"] (ny U):=by
 refine F.ok gm λc0 A o1 s H vs Q E Y h=>?_
 let⟨v,w1,D,d,ys,O,k,rfl,hp,hw,wv,hd,gk,hk,q⟩:=h;refine#[_,(jd (ki Ml Z (zN$ jz$ pv 1) (zM (n:=2) Z$ jB (jw (i:=3) gm.nd Z$ Φ Z)$ jB (jw (i:=4) gm.nd Z$ Φ Z) kE)$ jg$ qc (zQ Y) (pv 2) (pv 3) (cW.e Y.m$ ja (pv 4)$ ja (pv 2) jb) Z)$ jd (jy 5 gm.nd$ jz$ pv 1)$ jd (jx (kc$ jz$ pv 5) (jg$ jo$ jh$ ja jk$ ja (cW.e Y.m$ ja (jz$ pv 5)$ ja (pv 2) jb) jb) jp)$ jd (@Ze _ _ _ _ _ _ _ _ _ _ (6) (["name","numbers"]) (1) ([2]) _ _ _ _ gm.nd Z (Φ Z) Z (zN$ jr jM (cC.e Y.m$ ja (pv 0)$ ja (jz$ pv 5) jb) je (λ_ _=>Z)) xp (λ_ _ _ _ _=>(jw (i:=0) xZ Z$ Φ Z)) (λ_ _ _ _ _=>(@zz _)) (λ_ _ _ _ _=>(@Kx _ _ _ _ _ _ _ _ _ (zQ Y) (pv 1) (pv 0) je #[UN,UN,UN,UN])) UN (by first |exact .inl Z |exact .inr Z) (by intro _;rfl))$ jg$ jo$ jh$ ja jk$ ja (jz$ pv 5)$ ja (jE jL Z m0 Ni$ ja (pv 6) jb) jb),?_];let b0:=aI;let⟨wa,sa,ga,ss,wd,u,rfl,W⟩:=As hw;let R:∀g,aD D H g->ai H g:=λg k b xs e=>k b _ (jO e hd (by intro z;cases z)) e;let h2:=hp.sz;let h3:=wv.len;refine aj λF1 C=>eQ λJ j=>(ju W.at' fo #[sa,Z,#[_,aC.of W.sat],j _ _ ?_]);clear j;refine Jj (K:=K) (xs:=ss) (EI D [δ v,↑wa,↑D] O.sets k H) #[_,_,Z,hd,aD.refl] (λi σ g _ h=>?_) ?_ (λσ g h=>C _ _ ?_)
 .let⟨_,_,_,_,I⟩:=h;exact aC.of$ R _ I _ _ W.sat
 .intro E _ i x σ H1 hx f0 Gq kq h;let⟨o3,o4,rfl,L,I⟩:=h;clear C;let⟨s,p,hs,rfl,h0⟩:=W.sets i x hx;let S:=R _ I;let tv:=(wv.sets s$ LS hs).mono S;let g1:GT (b8 (O.sets.take i) k):=qd (H:=H) (ys:=ys) (λs hs=>wv.sets s (MD hs)) gk;let l1:=XF (ss:=O.sets.take i) (k:=k);rw[Mb]at l1;refine kq ?_;clear kq;refine#[p,_,Z,aC.of$ S _ _ h0,Z,_,_,Z,_,_,Z,Z,?_];refine#[_,Z,_,Z,s.2.1,D,s.2.2,ys,_,Z,.inl tv.1,tv.2.2,tv.2.1,L,g1,_,Z,_,Z,D,_,Z,.inl #[_,.inr s.1,L,Z,UK,Z],f0 _ _ #[_,_,Z,?_,λc o X e=>by rw[ji X];exact I c o X e]];rw[rX hs];exact jc
 .let⟨o3,o4,rfl,L,I⟩:=h;rw[W.len,MG]at L;let S:=R _ I;let g1:GT (b8 O.sets k):=qd (H:=H) (ys:=ys) wv.sets gk;let B:=wv.goal;let a:=W.goal;generalize b8 O.sets k=N at L g1 q;refine aj λF1 C=>(ju (S _ _ W.at') lR$ C _ _ ?_);clear C;let G:=S _ _ W.gat;refine aj λF1 C=>oR λG1 k3 k0=>(ju G fo #[Z,_,Z,?_]);let give:∀(t:η) (T:Tm),wd="give"->u= .ref t->IN K g T t->dq ys T->(∀(u':V) (H9:Hp),aP H9 (aB [aN "give",ay$ T.ev N]) u' []->aD D H H9->Q u' H9)->G1 (decide$ ri wd=ri "give") g:=by intro t T e1 e2 x1 x2 x3;subst e1;subst e2;rw[LX Z];refine k3 _$ ju G lR #[_,Z,t,D,T,ys,N,Z,x1,x2.2,x2.1,L,g1,bL,λr nr=>?_];exact x3 _ _ (jD jc$ jm Z jR$ jm Z jV jC) λc o X e=>jf nr _ _ (I c o X e)
  cases hg:O.goal with
  |give t T=>rw[hg]at B a q;exact give t T a.1 a.2 (.inl$ B.1.mono S) B.2 q
  |nought=>rw[hg]at a q;exact give U (.num 0) a.1 a.2 (.inr #[Z,no _]) #[#[UJ,UJ],UJ] q
  |go n=>
   rw[hg]at B a q;clear give k3;let⟨e1,e2⟩:=a;subst e1;subst e2;let hn:n < (bP U d).length:=by rw[Zw];exact B
   obtain⟨c,hc⟩:∃c,(bP U d)[n]?=δ c:=#[_,Ls hn];let e0:decide (ri "go"=ri "give")=μ:=by decide+kernel
   rw[e0];refine k0 _$ C _ _ ?_;clear k0 C;refine aj λF1 C=>#[_,Z,ju G lR #[v,n,d,ys,c,Z,hp.mono S,hc,λka na w2 dv w3 ca=>#[ka,_,_,_,Z,Z,aC.of ca.at',fo,na,Z,#[_,aC.of ca.nms],?_]]];let cl:=LJ (QR ca.v.mem) hp.y20;let q:∀(u:V) (g:Hp),aP g (aB [aN "go",ay (n:Int),aB ((dI U d n).map λx=>ay (look N (.inr x) 0))]) u []->aD D H g->Q u g:=q;rw[uf hc]at q;refine zX (K:=K) (xs:=(canon c.M).map ri) (by rw[Lw];omega) (λi zs Hx=>zs=((canon c.M).take i).map (λx=>rm (look N (.inr x) 0))/\Hx=g) #[Z,Z] (λi zs Hx h=>?_) (λi x zs Hx hx h=>?_) (λzs Hx h l nl=>C _ _ ?_)
   .let⟨rfl,rfl⟩:=h;exact#[aC.of ca.nms,by rw[Lw,Mb];omega]
   .let⟨rfl,rfl⟩:=h;rw[LK]at hx;let⟨y,hy,rfl⟩:=dt.mp hx;refine#[_,Z,D,Z,.inl #[N,.inl L],_,Z,_,fu.k (k:=Sum.inr y) L,?_,Z];rw[Kz g1,M1,hy,Mc];rfl
   .let⟨rfl,rfl⟩:=h;rw[Lw,MG];refine(ju (jf nl _ _ G) lR #[_,Z,l,_,Z,.inl #[aJ.of jc,λtl n0=>#[fq,λr nr=>?_]]]);refine q _ _ (jD jc$ jm Z jR$ jm Z jV$ jm Z (jD (ar jc nr) ?_) jC) λc' o X e=>jf nr _ _ (jf n0 _ _$ jf nl _ _$ I c' o X e);let:=J6 (H:=af (af (af Hx l$ .lst ((canon c.M).map (λx=>rm (look N (.inr x) 0)))) tl$ .tup ((canon c.M).map (λx=>rm (look N (.inr x) 0)))) r (.tup [.str "go",.int (n:Int),.ref tl])) (is:=(canon c.M).map λx=>look N (.inr x) 0);rw[Nt,Nt]at this;exact this
structure lv(H:Hp)(nA:η)(d:Df)(ys:List ρ)(v:V)(sa:η)(n:Nat)(hv:η)(uw:V)(c:Ct)(is:List Int)(wh:Wh)(e:DD)(wd:WD):Prop where
 prt:mP H nA d ys v
 at':H sa=δ (.tup [.int (n:Int),.ref hv,uw])
 cut:(bP nA d)[n]?=δ c
 hat:H hv=δ (.tup$ is.map rm)
 hl:is.length=(canon c.M).length
 hin:∀i∈is,eP i
 whv:BJ H uw wh
 ed:e.dd=c.d
 dv:sy H ys e
 fit:Ey e wh
 way:c.ws[wh.side]?=δ (wd.wy nA)
 wdv:wO H ys d.b.cuts d.b.size wd
theorem lv.mono(k:ai H a)(h:lv H N d y v s n b u c i f e g):lv a N d y v s n b u c i f e g:=
 #[h.prt.mono k,k _ _ h.at',h.cut,k _ _ h.hat,h.hl,h.hin,h.whv.mono k,h.ed,h.dv.mono k,h.fit,h.way,h.wdv.mono k]
def HZ(n:η)(d:Df)(c:Ct)(i:List Int)(a:Wh)(e:DD)(W:WD):Tr:=oq (dI n d) (b8 W.sets$ oi e a$ aR (canon c.M) i) W.goal
inductive gq(e:η)(g:List V)(H:Hp)(Q:VK)(a:XK):Prop
 |mk(v:V)(b:η)(d:Df)(h f:List ρ)(c:List Int)(w:WD)(_:g=[v,.ref b])(_:mP H e d h v)(_:H d.pa=δ (.tup (f.map ri)))(_:f.length<=100)(_:H b=δ (.tup (c.map rm)))(_:c.length=f.length)(_:∀i∈c,eP i)(_:w.wy e=(hV e d).1.w)(_:wO H h d.b.cuts d.b.size w)(_:∀(u:V) (H':Hp),aP H' (oq (dI e d) (b8 w.sets (aR f c)) w.goal) u []->ae H H'->Q u H')
inductive oK(g:η)(j:List V)(H:Hp)(Q:VK)(a:XK):Prop
 |mk(v i:V)(h b:η)(n:Nat)(d:Df)(m:List ρ)(c:Ct)(f:List Int)(l:Wh)(e:DD)(k:WD)(_:j=[v,.ref h])(_:lv H g d m v h n b i c f l e k)(_:∀(u:V) (H':Hp),aP H' (HZ g d c f l e k) u []->ae H H'->Q u H')
theorem Yi(h:Ey e a)(g:GT k):GT (oi e a k):=by
 unfold oi;split
 .exact g.put _ h
 .exact g.put _ h
 .exact g
theorem xh{e:DD}{wh:Wh}{k:aO}:(oi e wh k).length<=k.length+1:=by
 unfold oi;split
 .exact zk
 .exact zk
 .exact MZ _
theorem rY:ak ["part","args"] ["part","args"] (aa iE):=bJ
theorem Y0(F:rx K "first_of" iE f I)(J:Cl P w K mg base 8 fE L ["part","way","numbers"] (ny T) "end_of")(M:mg "dict"=θ)(b:mg "zip"=θ):ah P w K mg base aE 9 f I ["part","args"] (gq T):=by
 refine F.ok rY λR A O s H vs Q E U h=>?_
 let⟨v,x,d,y,p,is,z,rfl,C,g,V,i,n,r,t,W,q⟩:=h;refine#[_,(jg$ jo$ J.e U.m$ ja (pv 0)$ ja (jz$ pv 0)$ ja (@Zl _ _ _ _ _ _ _ _ Z M Z b Z (ja (jz$ pv 0)$ ja (pv 1) jb) UN UN UN UN) jb),?_];let⟨a,ca,X,cs,rfl,D,G,Y,h0⟩:=C.parts;rw[<- t]at G;refine#[_,Z,_,Z,a,_,_,_,Z,Z,aC.of D,jJ (j:=2) Z,ju D lR #[_,Z,d.pa,x,p.map Sum.inr,_,Z,by rw[Zz];exact aC.of g,aC.of i,by rw[Lw,Lw,n],λl N=>?_]];let S:ae H (af H l$ .dK$ aR p is):=jf N;let zl:=Zx (ns:=p) (is:=is);exact#[.ref a,X,l,d,y,z,aR p is,Z,C.mono$ ae.tm S,G.mono$ ae.tm S,W.mono$ ae.tm S,jc,qR r,UK,λu H' tu k=>q u H' tu λc o e=>k c o (jl e N) (S _ _ e)]
theorem eJ:ak ["part","step","cut","numbers","what","way"] ["part","step"] (aa mj):=bJ
theorem rP{f:η}{fd:fy}{nA fC fD fF fE:η}{f0 f3 f4 f5:fy}(F:rx K "onward" mj f fd)(cC:Cl P w K mg base 1 fC f0 ["part","n"] (iK nA) "cut_at")(cD:Cl P w K mg base 2 fD f3 z8z (iO nA) "held_at")(cF:Cl P w K mg base 1 fF f4 ["what"] eM "found_in")(cE:Cl P w K mg base 8 fE f5 ["part","way","numbers"] (ny nA) "end_of"):ah P w K mg base aE 9 f fd ["part","step"] (oK nA):=by
 refine F.ok eJ λc0 A o2 s H vs Q E hr h=>?_
 let⟨v,L,Y,hv,n,d,ys,c,is,wh,e,wd,rfl,C,q⟩:=h;refine#[_,(jd (jy 2 eJ.nd$ cC.e hr.m$ ja (pv 0)$ ja (jz$ pv 1) jb)$ jd (jy 3 eJ.nd$ cD.e hr.m$ ja (pv 0)$ ja (jz$ pv 1)$ ja (jz$ pv 1) jb)$ jd (jy 4 eJ.nd$ jz$ pv 1)$ jd (jx (jA za (jz$ pv 4) (jh$ ja jk$ ja jk jb) Z) (jg$ qc (zQ hr) (pv 3) (jz$ jr jM (pv 2) je (λ_ _=>Z)) (cF.e hr.m$ ja (pv 4) jb) Z) jp)$ jd (jy 5 eJ.nd$ kr (jA (Dk$ zQ hr) (pv 4) (jh$ ja jk$ ja je jb)$ aG _) (jz$ jr jM (pv 2) je (λ_ _=>Z))$ jz$ jr jM (pv 2) je (λ_ _=>Z))$ jg$ jo$ cE.e hr.m$ ja (pv 0)$ ja (pv 5)$ ja (pv 3) jb),?_];let b0:=aI;let⟨a,ca,wv,cs,rfl,ha,hw,a0,a1⟩:=C.prt.parts;let h0:=C.at';refine aj λF1 J=>#[_,Z,ju h0 fo #[_,n,d,ys,c,Z,C.prt,C.cut,λka na wa dv w0 cu=>J _ _ ?_]];clear J;refine aj λF1 J=>#[_,Z,ju h0 fo$ ju h0 lR #[_,n,hv,d,ys,c,is,Z,C.prt,C.cut,C.hat,C.hl,λD n0=>J _ _ ?_]];clear J;let s1:ae H (af H D$ .dK$ aR (canon c.M) is):=jf n0;let d1:af H D (.dK$ aR (canon c.M) is) D=δ (.dK$ aR (canon c.M) is):=jc;generalize af H D (.dK$ aR (canon c.M) is)=H1 at s1 d1;let O:=C.mono (ae.tm s1);let g0:GT (aR (canon c.M) is):=qR C.hin;let z0:=Zx (ns:=canon c.M) (is:=is);let z1:=QR cu.v.mem;let z2:=C.prt.y20;generalize h7:aR (canon c.M) is=k0 at d1 g0 z0;refine aj λF1 J=>#[_,Z,Y,_,_,_,Z,Z,aC.of O.at',jJ (j:=2) Z,J _ _ ?_];clear J;let o1:HZ nA d c is wh e wd=oq (dI nA d) (b8 wd.sets$ oi e wh k0) wd.goal:=by unfold HZ;rw[h7]
 rw[o1]at q;let h1:=zp cu.ways;rw[Lw]at h1;let G:∃x,w0[wh.side]?=δ x/\aP H (ij$ wd.wy nA) x []:=by
  let hj:wh.side < w0.length:=by rw[h1];exact(ξ.mp C.way).1
  let⟨tr,ht,tx⟩:=qP cu.ways wh.side _ (Ls hj);rw[LK,C.way]at ht;cases ht;exact#[_,Ls hj,tx]
 let⟨wx,G,t0⟩:=G;let h4:=cu.at';let h8:=cu.wat;refine aj λF1 J=>?_;let r0:∀(H3:Hp),H3 D=δ (.dK$ oi e wh k0)->aD D H1 H3->F1 [↑a,↑Y,↑ka,↑D,δ L,θ] H3:=by
  intro H3 h3 k3;refine J _ _ ?_;clear J;let s3:ae H H3:=λc o x=>k3 c o (jl x n0) (s1 _ _ x);let l3:=xh (e:=e) (wh:=wh) (k:=k0);refine aj λF2 f2=>?_;let f6:∀H4,ae H3 H4->F2 [↑a,↑Y,↑ka,↑D,δ L,δ wx] H4:=λH4 s4=>f2 _ _ (by
   let S:=s3.trans s4;exact#[_,Z,_,Z,_,Z,.ref a,wx,D,d,ys,wd,_,Z,C.prt.mono$ ae.tm S,t0.mono$ ae.tm S,C.wdv.mono$ ae.tm S,s4 _ _ h3,Yi C.fit g0,UK,λu R tu k=>q u R tu λc o x=>k c o (jl x n0) (S _ _ x)])
  clear f2;let wk:=C.whv.mono (ae.tm s3);let fb:∀(H4:Hp) (j:Nat),ae H3 H4->w0[j]?=δ wx->dW (eh K) (dW (eh K) (a9 2)$ tC$ .int 2) (tC$ .int (j:Int)) [↑a,↑Y,↑ka,↑D,δ L,θ] H4 λx H5=>F2 ([↑a,↑Y,↑ka,↑D,δ L,θ].set 5 (δ x)) H5:=λH4 j s4 hj=>
   #[_,Z,ka,_,_,_,Z,Z,aC.of ((s3.trans s4) _ _ h4),jJ (j:=2) Z,wa,_,_,_,Z,Z,aC.of ((s3.trans s4) _ _ h8),jJ hj,f6 H4 s4]
  cases wh with
  |rd a' i |wr a' b=>let⟨p,rfl,B⟩:=wk;exact#[_,Z,bL,λt N=>#[p,t,_,_,Z,Z,aC.of$ jf N _ _ B,aC.of jc,.inl #[Z,Z,_,Z,aX (by unfold sU;exact Pf _)$ fb _ 0 (jf N) G]]]
  |ask b=>
   let⟨p,rfl,B⟩:=wk;let hb:b=0∨b=1:=by
    let:=C.fit;cases e with
    |st p l=>cases l<;>exact this.elim
    |ask t T=>exact this
   rcases hb with rfl |rfl
   .exact#[_,Z,bL,λt N=>#[p,t,_,_,Z,Z,aC.of$ jf N _ _ B,aC.of jc,.inl #[Z,Z,_,Z,ci UM$ fb _ 1 (jf N) G]]]
   .exact#[_,Z,bL,λt N=>#[p,t,_,_,Z,Z,aC.of$ jf N _ _ B,aC.of jc,.inl #[Z,Z,_,Z,aX UM$ fb _ 0 (jf N) G]]]
  |cl f' i0 i=>let⟨p,c',g,e',rfl,B,h',_⟩:=wk;exact#[_,Z,bL,λt N=>#[p,t,_,_,Z,Z,aC.of$ jf N _ _ B,aC.of jc,.inr #[_,c',_,_,_,Z,aC.of$ jf N _ _ h',Z,_,Z,aX Z$ fb _ 0 (jf N) G]]]
 let wk:=O.whv;let dk:=O.dv;let fk:=O.fit;let h5:=s1 _ _ h4;let d0:=cu.deed;rw[<- C.ed]at d0;let skip:∀(p:η) (W:ρ) (r:List V),L= .ref p->H1 p=δ (.tup (.str W::r))->oU (.str W) [.str "read",.str "call"]=μ->oi e wh k0=k0->i5 (i6$ dW (FY K μ) (dW (eh K) (a9 4)$ tC$ .int 0)$ bn$ am (tC$ .str "read")$ am (tC$ .str "call") aL) (uX (a9 3) (dW (eh K) (dW (eh K) (a9 2)$ tC$ .int 1)$ tC$ .int 1)$ dM eM [] E0$ am (a9 4) aL) wq { nx:=F1,rt:=Q } [↑a,↑Y,↑ka,↑D,δ L,θ] H1:=by intro p W r I B e2 e3;subst I;refine oR λG1 k1 k2=>(ju B fo #[bL,λt N=>#[t,_,Z,.inr$ aC.of jc,Z,Z,_,Z,?_]]);show G1 (oU (.str W) [.str "read",.str "call"]) _;rw[e2];exact k2 _$ r0 _ (by rw[e3];exact ar d1 N) λc o _ x=>jf N _ _ x
 let p0:∀(p p':η) (W:ρ) (r:List V) (i:Int) (x:ρ) (y:V) (r':List V),L= .ref p->H1 p=δ (.tup (.str W::r))->oU (.str W) [.str "read",.str "call"]=ν->dv= .ref p'->H1 p'=δ (.tup (y:: .str x::r'))->(∀R:Hp,ae H1 R->BJ R L wh)->(∀(Q':VK) (R:Hp),Q' (.int i) R->tw Q' R wh)->oi e wh k0=bg k0 (.inr x) (.int i)->i5 (i6$ dW (FY K μ) (dW (eh K) (a9 4)$ tC$ .int 0)$ bn$ am (tC$ .str "read")$ am (tC$ .str "call") aL) (uX (a9 3) (dW (eh K) (dW (eh K) (a9 2)$ tC$ .int 1)$ tC$ .int 1)$ dM eM [] E0$ am (a9 4) aL) wq { nx:=F1,rt:=Q } [↑a,↑Y,↑ka,↑D,δ L,θ] H1:=by intro p p' W r i x y r' I B e2 e4 X e5 e6 e3;subst I;subst e4;refine oR λG1 k1 k2=>(ju B fo #[bL,λt N=>#[t,_,Z,.inr$ aC.of jc,Z,Z,_,Z,?_]]);show G1 (oU (.str W) [.str "read",.str "call"]) _;rw[e2];refine k1 _ #[_,Z,.ref p,wh,Z,e5 _$ jf N,e6 _ _ ?_];exact#[_,Z,ju (jf N _ _ h5) lR #[p',_,_,_,Z,Z,aC.of$ jf N _ _ X,lR,D,_,Z,.inl #[k0,.inr x,ar d1 N,Z,UK,Z],r0 _ (by rw[e3];exact jc) λc o nc z=>by rw[ji nc];exact jf N _ _ z]]
 cases e with
 |ask t T=>
  cases wh with
  |ask b=>let⟨p,I,B⟩:=wk;exact skip p _ _ I B UM Z
  |_=>exact fk.elim
 |st p' l=>
  let⟨vs,X,h6,_⟩:=dk;let ed:dv= .ref p':=d0.1;cases l with
  |rd x t T=>
   cases wh with
   |rd b i=>let⟨p,I,B⟩:=wk;let⟨rfl,_⟩:=h6;exact p0 p p' _ _ i x _ _ I B UM ed X (λR s'=>#[p,I,s' _ _ B]) (λ_ _ h=>h) Z
   |_=>exact fk.elim
  |wr t u T U=>
   cases wh with
   |wr b i=>let⟨p,I,B⟩:=wk;exact skip p _ _ I B UM Z
   |_=>exact fk.elim
  |cl x f' q' ts=>
   cases wh with
   |cl f2 i1 i=>let⟨p,c2,g2,e2,I,B,h2,h3⟩:=wk;let⟨rfl,_⟩:=h6;exact p0 p p' _ _ i x _ _ I B UM ed X (λR s'=>#[p,c2,g2,e2,I,s' _ _ B,s' _ _ h2,s' _ _ h3]) (λ_ _ h=>h) Z
   |_=>exact fk.elim
  |st x t T |gv t T=>cases wh<;>exact fk.elim
noncomputable abbrev iq:cv:=bK 29
noncomputable abbrev lX:cv:=bK 30
noncomputable def wP(k:aO):DD->Tr
 | .st _ (.rd _ _ T)=>aB [aN "read",ay (T.ev k)]
 | .st _ (.wr _ _ T U)=>aB [aN "write",ay (T.ev k),ay (U.ev k)]
 | .st _ (.cl _ f _ t)=>aB [aN "call",aN f,aB (t.map λc=>ay (c.2.ev k))]
 | .ask _ T=>aB [aN "ask",ay (if T.ev k=0 then 0 else 1)]
 |_=>.nil
inductive dU(g:η)(h:List V)(H:Hp)(Q:VK)(a:XK):Prop
 |mk(v:V)(n:Nat)(b:η)(d:Df)(j:List ρ)(c:Ct)(f:List Int)(e:DD)(_:h=[v,.int (n:Int),.ref b])(_:mP H g d j v)(_:(bP g d)[n]?=δ c)(_:H b=δ (.tup (f.map rm)))(_:f.length=(canon c.M).length)(_:∀i∈f,eP i)(_:e.dd=c.d)(_:sy H j e)(_:∀(u:V) (H':Hp),aP H' (wP (aR (canon c.M) f) e) u []->ae H H'->Q u H')
inductive gw(f:List V)(H:Hp)(Q:VK)(b:XK):Prop
 |mk(a d:η)(e:List (η×Tm))(g:List ρ)(k:aO)(_:f=[.ref a,.ref d])(_:H a=δ (.tup (e.map λc=>rs c.1)))(_:e.length<=6)(_:∀c∈e,bh H c.2 c.1/\dq g c.2)(_:H d=δ (.dK k))(_:GT k)(_:∀(r:η) (H':Hp),H' r=δ (.tup (e.map λc=>rm (c.2.ev k)))->ae H H'->Q (.ref r) H')
theorem vP:ak ["terms","numbers"] ["terms","numbers"] (aa iq):=bJ
noncomputable def Y1:hG:=#[.function,[(".0",.local),("term",.local),("worth",.globalImplicit),("numbers",.free)],μ,μ,[]]
theorem x6:(["term","numbers"]:List ρ).Nodup:=by decide+kernel
theorem xq:bu ["terms","numbers"] (aa iq) Y1 ["term","numbers"] 1 [1]:=sr
theorem rR(F:rx K "worths" iq f v)(C:Cl P w K mg base 7 U B z10z (cj K 6) "worth")(M:mg "tuple"=θ):ah P w K mg base aE 8 f v ["terms","numbers"] gw:=by
 refine F.ok vP λG A o s H R Q E I h=>?_
 let⟨a,D,t,g,k,rfl,p,W,b,J,L,q⟩:=h;refine#[_,(jg$ jo$ jE jL Z M Ni$ ja (@zi _ _ _ _ _ _ _ (["term","numbers"]) (1) ([1]) _ _ _ _ Z (zN$ pv 0) xq (λ_ _ _ _ _=>(jw (i:=0) x6 Z$ Φ Z)) (λ_ _ _ _ _=>(@zz _)) (λ_ _ _ _ _=>(C.e I.m$ ja (pv 0)$ ja (pv 1) jb)) (by intro _;rfl)) jb),?_];let N:=aI;refine#[_,Z,a,Z,#[_,aC.of p],?_];refine zX (K:=K) (xs:=t.map λc=>rs c.1) (by rw[Lw];omega) (λi z d=>z=(t.take i).map (λc=>rm (c.2.ev k))/\d=H) #[Z,Z] (λi z d h=>?_) (λi x z d r h=>?_) (λz d h l O=>?_)
 .let⟨rfl,rfl⟩:=h;exact#[aC.of p,by rw[Lw,Mb];omega]
 .let⟨rfl,rfl⟩:=h;rw[LK]at r;let⟨y,u,rfl⟩:=dt.mp r;let Y:=LS u;refine#[_,Z,_,Z,y.1,D,y.2,g,k,Z,.inl (b y Y).1,(b y Y).2.2,(b y Y).2.1,J,L,?_,Z];rw[M1,u,Mc];rfl
 .let⟨rfl,rfl⟩:=h;rw[Lw,MG];exact#[l,_,Z,.inl #[aJ.of jc,λT n=>q T _ jc ((jf O).trans$ jf n)]]
theorem gj:ak ["part","n","held","numbers","deed","word"] z8z (aa lX):=bJ
theorem rG(F:rx K "deed_at" lX f fd)(cH:Cl P w K mg base 2 fH f0 z8z (iO nA) "held_at")(cC:Cl P w K mg base 1 fC f2 ["part","n"] (iK nA) "cut_at")(cW:Cl P w K mg base 7 fW f3 z10z (cj K 6) "worth")(cS:Cl P w K mg base 8 fS f4 ["terms","numbers"] gw "worths"):ah P w K mg base aE 9 f fd z8z (dU nA):=by
 refine F.ok gj λc0 A o1 s H vs Q E L h=>?_
 let⟨v,n,hv,d,Y,c,is,e,rfl,hp,hc,hh,hl,h0,h1,h2,q⟩:=h;refine#[_,(jd (jy 3 gj.nd$ cH.e L.m$ ja (pv 0)$ ja (pv 1)$ ja (pv 2) jb)$ jd (jy 4 gj.nd$ jr jM (cC.e L.m$ ja (pv 0)$ ja (pv 1) jb) je (λ_ _=>Z))$ jd (jy 5 gj.nd$ jz$ pv 4)$ jd (jx (kc$ pv 5) (jg$ jo$ jh$ ja (pv 5)$ ja (kr (jA qo (cW.e L.m$ ja (jz$ pv 4)$ ja (pv 3) jb) je$ aG _) je je) jb) jp)$ jd (jx (kc$ pv 5) (jg$ jo$ jh$ ja (pv 5)$ ja (jz$ pv 4)$ ja (cS.e L.m$ ja (jz$ pv 4)$ ja (pv 3) jb) jb) jp)$ jd (jx (kc$ pv 5) (jg$ jo$ jh$ ja (pv 5)$ ja (cW.e L.m$ ja (jz$ pv 4)$ ja (pv 3) jb) jb) jp)$ jg$ jo$ jv j4 (jh$ ja (pv 5) jb)$ cS.e L.m$ ja (jK kO (pv 4) (jG je) jW)$ ja (pv 3) jb),?_];let b0:=aI;let⟨a,ca,p0,cs,rfl,ha,_,h7,h8⟩:=hp.parts;refine aj λi b=>#[_,Z,_,Z,_,Z,.ref a,n,hv,d,Y,c,is,Z,hp,hc,hh,hl,λC n0=>b _ _ ?_];clear b;let S:ae H (af H C$ .dK$ aR (canon c.M) is):=jf n0;let O:af H C (.dK$ aR (canon c.M) is) C=δ (.dK$ aR (canon c.M) is):=jc;show dy _ _ _ _ (af H C$ .dK$ aR (canon c.M) is);generalize af H C (.dK$ aR (canon c.M) is)=H1 at S O;let V:GT (aR (canon c.M) is):=qR h0;generalize aR (canon c.M) is=k at O V q;let dk:=h2.mono (ae.tm S);refine aj λi b=>#[_,Z,_,Z,.ref a,n,d,Y,c,Z,hp.mono$ ae.tm S,hc,λka na wa dv w0 cu=>#[ka,_,_,_,Z,Z,aC.of cu.at',lR,b _ _ ?_]];clear b;let D:=cu.deed;rw[<- h1]at D;cases e with
 |ask t T=>
  obtain⟨_,p,xs,rfl,g,_,_,y0,z0,rfl,⟨rfl,_⟩,_,_,y1,z1,rfl,⟨rfl,_⟩,e⟩:=D;let e:z1=[]:=e;subst e;refine aj λi b=>(ju g fo$ b _ _ ?_);clear b;refine aj λi b=>#[_,Z,Z,_,Z,ci UM #[_,Z,ju g lR #[_,Z,t,C,T,Y,k,Z,.inl dk.1,dk.2.2,dk.2.1,O,V,Z,_,Z,?_]]];by_cases z:T.ev k=0
  .refine ci (by rw[z];decide+kernel) #[bL,λr G=>q _ _ (jD jc$ jm Z jR$ jm Z #[?_,Z] jC) (S.trans$ jf G)];rw[LP z]
  .refine aX (by rw[LL];intro e;injection e with e;exact z e) #[bL,λr G=>q _ _ (jD jc$ jm Z jR$ jm Z #[?_,Z] jC) (S.trans$ jf G)];rw[LV z]
 |st p l=>
  let ed:dv= .ref p:=D.1;subst ed;let⟨vs,g,I,B,h3⟩:=dk;cases l with
  |rd x t T=>let⟨rfl,ht⟩:=I;refine aj λi b=>(ju g fo$ b _ _ ?_);clear b;refine aj λi b=>#[_,Z,Z,_,Z,aX UM$ b _ _ ?_];clear b;refine aj λi b=>#[_,Z,Z,_,Z,aX UM$ b _ _ ?_];clear b;refine aj λi b=>#[_,Z,Z,_,Z,ci UM #[_,Z,_,Z,p,_,_,_,Z,Z,aC.of g,jJ (j:=2) Z,_,Z,t,C,T,Y,k,Z,.inl ht,B.2.2,B.2.1,O,V,bL,λr G=>?_]];exact q _ _ (jD jc$ jm Z jR$ jm Z jV jC)$ S.trans$ jf G
  |wr t u T U=>
   let⟨rfl,ht,hu⟩:=I;refine aj λi b=>(ju g fo$ b _ _ ?_);clear b;refine aj λi b=>#[_,Z,Z,_,Z,aX UM$ b _ _ ?_];clear b;refine aj λi b=>#[_,Z,Z,_,Z,aX UM$ b _ _ ?_];clear b;refine aj λi b=>#[_,Z,Z,_,Z,aX UM$ b _ _ ?_];clear b;refine#[_,Z,i8,λr1 N=>#[_,Z,1,Z,p,_,Z,jf N _ _ g,λr2 H2 J R=>#[_,Z,r2,C,[(t,T),(u,U)],Y,k,Z,J,(by show 2<=6;decide),?_,R _ _$ jf N _ _ O,V,λr3 H3 h4 s3=>#[r1,r3,_,_,Z,Z,s3 _ _$ R _ _ jc,h4,fq,λr4 H4 h5 s4=>?_]]]]
   .intro y W;let X:=(jf (o:=.tup [.str "write"]) N).trans R;simp only[M8,Ma,Oj]at W;rcases W with rfl |rfl
    .exact#[ht.same X,B.1]
    .exact#[hu.same X,B.2]
   .exact q _ _ (jD h5$ jm Z jR$ jm Z jV$ jm Z jV jC)$ S.trans ((jf N).trans$ R.trans$ s3.trans s4)
  |cl x f' qa ts=>let⟨rfl,hq,h6⟩:=I;refine aj λi b=>(ju g fo$ b _ _ ?_);clear b;refine aj λi b=>#[_,Z,Z,_,Z,aX UM$ b _ _ ?_];clear b;let l6:ts.length<=6:=B.2.1;refine aj λi b=>#[_,Z,Z,_,Z,ci UM #[_,Z,_,Z,p,_,_,_,Z,Z,aC.of g,jJ (j:=2) Z,_,Z,p,_,_,_,Z,Z,aC.of g,jJ (j:=3) Z,_,Z,qa,C,ts,Y,k,Z,hq,l6,λy W=>#[h6 y W,B.2.2 y W],O,V,λr2 H2 J R=>#[fq,λr G=>?_]]];refine q _ _ (jD jc$ jm Z jR$ jm Z jR$ jm Z (jD (ar J G) ?_) jC)$ S.trans$ R.trans$ jf G;let:=J6 (H:=af H2 r (.tup [.str "call",.str f',.ref r2])) (is:=ts.map λc=>c.2.ev k);rw[Nt,Nt]at this;exact this
  |st x t T |gv t T=>cases h3
noncomputable abbrev mf:cv:=bK 21
noncomputable abbrev ou:cv:=bK 22
noncomputable abbrev lY:cv:=bK 23
noncomputable abbrev vk:cv:=bG (bK 24) 0
noncomputable abbrev oE:cv:=bG (bK 24) 1
noncomputable abbrev vm:cv:=bG (bK 24) 2
noncomputable abbrev mn:cv:=bK 26
def Em(H:Hp)(x:V)(g:ρ):Prop:=∃p r,x= .ref p/\H p=δ (.tup (.str g::r))
inductive iT(c:List V)(H:Hp)(Q:VK)(b:XK):Prop
 |mk(a:η)(f:ρ)(d:List V)(i:Nat)(v:V)(_:c=[.ref a,.str f])(_:H a=δ (.tup d))(_:d[i]?=δ v)(_:Em H v f)(_:∀j x,j < i->d[j]?=δ x->∃g,Em H x g/\g≠f)(_:Q v H)
inductive iw(e:List V)(H:Hp)(Q:VK)(b:XK):Prop
 |mk(a g:η)(f:ρ)(h k:List V)(i:Nat)(v:V)(p c:η)(r d:List V)(_:e=[.ref a,.str f,.ref g])(_:H a=δ (.tup h))(_:h[i]?=δ v)(_:v= .ref p)(_:H p=δ (.tup (.str f:: .ref c::r)))(_:H c=δ (.tup d))(_:H g=δ (.tup k))(_:k.length=d.length)(_:∀j x,j < i->h[j]?=δ x->∃g,Em H x g/\g≠f)(_:Q v H)
noncomputable def c8(e:List (ρ×V))(c l p:η)(m:Int)(t:Nat):List (ρ×V):=pz (("cells":ρ),rs c) (pz (("most":ρ),rm m)$ pz (("left":ρ),rs l)$ pz (("turns":ρ),rm (t:Int))$ pz (("parts":ρ),rs p) e)
structure Tl(ex:List (ρ×V)):Prop where
 l:ex.length<=10
 t:ex.lookup ("take_turn":ρ)=θ
 n:ex.lookup ("number_in":ρ)=θ
 c:ex.lookup ("chain_of":ρ)=θ
 w:ex.lookup ("what_of":ρ)=θ
theorem Tl.nil:Tl []:=#[LF _,Z,Z,Z,Z]
structure Rn(H:Hp)(C r dx:η)(ex:List (ρ×V))(cA lA pA:η)(m:Int)(t:Nat)(L Cs:aO):Prop where
 ins:H r=δ (.ins C dx$ c8 ex cA lA pA m t)
 lf:H lA=δ (.dK L)
 ce:H cA=δ (.dK Cs)
 iL:GT L
 iC:GT Cs
 cl:cA≠lA
 tl:Tl ex
 hm:m<=1000
structure RK(K:β)(C:η):Prop where
 cl:pS K C
 n1:aW K C "cells"
 n2:aW K C "most"
 n3:aW K C "left"
 n4:aW K C "turns"
 n5:aW K C "parts"
inductive eO(C:η)(i:List V)(H:Hp)(Q:VK)(a:XK):Prop
 |mk(r e:η)(f:List (ρ×V))(d g h:η)(m c:Int)(t:Nat)(L b:aO)(_:i=[.ref r,.int c])(_:Rn H C r e f d g h m t L b)(_:Q (.int (look L (.inl c) (look b (.inl c) 0))) H)
inductive iW(C:η)(e:List V)(H:Hp)(Q:VK)(a:XK):Prop
 |mk(r c:η)(d:List (ρ×V))(b:η)(m:Int)(_:e=[.ref r,.ref b,.int m])(_:H r=δ (.ins C c []))(_:∀lA,H lA=θ->Q .non (af (af H lA (.dK [])) r (.ins C c [("cells",.ref b),("most",.int m),("left",.ref lA),("turns",.int 0)])))
structure XM(K:β)(mg:ρ->Option ζ)(x:ρ)(L:η):Prop where
 ex:excIn K L pX "ValueError.__new__"=ν
 kp:fz K (.ref L)=ν
 xc:lQ K L
 ty:typeIn K (.ref L)=δ (.type "type")
 m:mg x=↑L
def NX(o:HO):Prop:=∀a,o≠ .ext a
def Kp(H h:Hp):Prop:=∀b o,NX o->H b=δ o->h b=δ o
theorem Kp.of_same(s:ae H h):Kp H h:=λb o _ e=>s _ _ e
def lG(E:XK):XK:=λC d H=>∀x T t c,C= .ref c->H x=δ (g9 c d T x)->H T=δ (gH T)->H t=θ->E (.ref c) d (af (af H t$ gH t) x$ g9 c d t x)
theorem j5{P:ψ}{w:bU}{K:β}{mg:ρ->Option ζ}{base:cJ}:dC (c7 P w) (d9 (c7 P w) P w K mg base N q s f g A o a H E) (lG E):=
 yB λx C d T t i b c e h=>h x T t C Z b c e
theorem qe{H h:Hp}(e:h b=δ o)(n:NX o)(a:h x=δ (g9 C d T x))(c:h t=θ):af (af h t$ gH t) x (g9 C d t x) b=δ o:=by
 let N:b≠x:=λz=>by rw[z,a]at e;injection e with e;exact n _ e.symm
 rw[ji N,ji$ jl e c];exact e
def Fl(E:XK)(L:η)(R:Hp->Prop):Prop:=∀(_:Unit) H,R H->E (.ref L) θ H
inductive eK(C L:η)(f:List V)(H:Hp)(Q:VK)(E:XK):Prop
 |mk(r b:η)(c:List (ρ×V))(a d e:η)(m:Int)(t:Nat)(_:f=[.ref r])(_:H r=δ (.ins C b (c8 c a d e m t)))(_:Tl c)(_:(t:Int) < m->Q .non (af H r (.ins C b (c8 c a d e m (t+1)))))(_:m<=(t:Int)->Fl E L (Kp H))
inductive di(D:η)(a:List V)(H:Hp)(Q:VK)(E:XK):Prop
 |mk(d:Int)(_:a=[.int d])(_:d < 15->Q (.int (d+1)) H)(_:15<=d->Fl E D (Kp H))
theorem XH{H:Hp}(a:H x=θ)(N:af H x (Az L θ x) T=θ):ae H (af (af (af H x$ Az L θ x) T$ gH T) x$ g9 L d T x):=by intro b o e;let n:b≠x:=jl e a;rw[ji n,ji (λz=>by rw[<- z,ji n,e]at N;cases N),ji n];exact e
theorem nj:ak ["ones","f","one"] ["ones","f"] (aa mf):=bJ
theorem rN(F:rx K "named" mf f D):ah P w K mg base aE 1 f D ["ones","f"] iT:=by
 refine F.ok nj λG A o s H W Q E X h=>?_
 let⟨a,f,xs,i,v,rfl,t,u,L,d,q⟩:=h;refine#[_,(jd (ki Ml Z (zN$ pv 0) (jw (i:=2) nj.nd Z$ Φ Z)$ jg$ jx (jA qo (jz$ pv 2) (pv 1)$ aG _) (jg$ jo$ pv 2) jp)$ @uL _ _),?_];let M:i < xs.length:=(ξ.mp u).1;refine aj λY f1=>eQ λJ j=>#[_,Z,a,Z,#[_,aC.of t],j _ _ ?_];clear j;refine Jj (K:=K) (xs:=xs) (λk c e=>(∃O,c=[↑a,δ$ .str f,O])/\e=H/\k<=i) #[#[_,Z],Z,LF _] (λk c e _ h=>by rw[h.2.1];exact aC.of t) ?_ (λc e h=>?_)
 .intro l R k x c H2 m N I b h;obtain⟨⟨O,rfl⟩,rfl,y⟩:=h;refine b ?_;clear b;by_cases S:k=i
  .subst S;rw[u]at m;cases m;let⟨p,r,rfl,n⟩:=id L;show i5 _ _ _ l _ _;refine oR λT B C=>(ju n fo #[_,Z,Z,_,Z,?_]);rw[LX (Z:ri f=ri f)];refine B _ ?_;show fi _ l _ _;unfold fi;rw[R];exact#[_,Z,q]
  .obtain⟨g,⟨p,r,rfl,n⟩,U⟩:=d k x UK m;show i5 _ _ _ l _ _;refine oR λT B C=>(ju n fo #[_,Z,Z,_,Z,?_]);rw[LL (λz=>U (by injection z))];exact C _$ N _ _ #[#[_,Z],Z,UK]
 .let⟨_,_,y⟩:=h;exact absurd y UK
theorem vK:ak ["parts","f"] ["parts","f"] (aa mn):=bJ
theorem rQ(F:rx K "part_of" mn f c)(C:Cl P w K mg base 1 r d ["ones","f"] iT "named"):ah P w K mg base aE 2 f c ["parts","f"] iT:=by
 refine F.ok vK λg A o s H V Q E j h=>?_
 let⟨a,f,x,i,v,rfl,l,n,p,b,q⟩:=h;refine#[_,(jg$ jo$ C.e j.m$ ja (pv 0)$ ja (pv 1) jb),?_];exact#[_,Z,_,Z,a,f,x,i,v,Z,l,n,p,b,q]
theorem pq:ak ["ones","f","args","one"] ["ones","f","args"] (aa ou):=bJ
theorem ui(F:rx K "begun" ou f j)(C:Cl P w K mg base 1 N l ["ones","f"] iT "named")(M:mg "len"=θ):ah P w K mg base aE 2 f j ["ones","f","args"] iw:=by
 refine F.ok pq λn A o s H V Q E t h=>?_
 let⟨a,g,f,x,y,i,v,p,c,r,u,rfl,z,B,rfl,d,D,G,I,J,q⟩:=h;refine#[_,(jd (jy 3 pq.nd$ C.e t.m$ ja (pv 0)$ ja (pv 1) jb)$ jd (jx (jA Kb (jF jN Z M ME$ ja (pv 2) jb) (jF jN Z M ME$ ja (jz$ pv 3) jb)$ aG _) (@uL _ _) jp)$ jg$ jo$ pv 3),?_];refine aj λL b=>#[_,Z,_,Z,a,f,x,i,.ref p,Z,z,B,#[p,_,Z,d],J,b _ _ ?_];clear b;refine aj λL b=>#[_,Z,g,_,Z,.inr$ aC.of G,ju d lR #[c,_,Z,.inr$ aC.of D,Z,_,Z,aX (by rw[I];simp)$ b _ _ #[_,Z,q]]]
theorem vC:ak ["deep"] ["deep"] (aa lY):=bJ
theorem rH(F:rx K "deeper" lY f a)(M:mg "DEEPEST"=δ (.int 15 t))(X:XM K mg "TooDeep" D):ah P w K mg base (c7 P w) 1 f a ["deep"] (di D):=by
 refine F.ok1 vC λC A o s H V Q E g h=>?_
 let⟨d,rfl,q,e⟩:=h;refine#[_,(jd (jx (jA uD (pv 0) (kh (v:=.int 15) Z M #[t,Z])$ aG _) (jg$ @Xt _ _ _ _ _ Z QH$ @QE _ _ _ _ _ X.ex X.kp Z X.m UJ) jp)$ jg$ jo$ jv jU (pv 0) je),?_];refine aj λi b=>#[_,Z,_,_,Z,Z,_,Z,?_];by_cases c:(15:Int)<=d
 .refine ci (LX c) λx n=>?_;exact#[x,D,θ,Z,jc,X.xc,X.ty,λT N=>e c () _ (Kp.of_same$ XH n N)]
 .exact aX (LL c)$ b _ _ #[_,Z,_,_,Z,Z,q UK]
theorem DU:ak z24z z24z (aa vk):=bJ
theorem ZA(F:aQ K "__init__" "Turns.__init__" vk f v)(c:RK K C):ah P w K mg base aE 1 f v z24z (iW C):=by
 refine F.ok DU λx A o s H V Q E G h=>?_
 let⟨r,D,y,z,m,rfl,g,q⟩:=h;refine#[_,(jd (@qp _ _ _ _ _ _ _ _ (pv 0) (pv 1) Z)$ jd (@qp _ _ _ _ _ _ _ _ (pv 0) (pv 2) Z)$ jd (@qp _ _ _ _ _ _ _ _ (pv 0) Xr Z)$ jg$ @qp _ _ _ _ _ _ _ _ (pv 0) je Z),?_];refine aj λj a=>#[_,Z,_,Z,r,C,D,_,Z,g,c.cl,c.n1,UJ,a _ _ ?_];clear a;refine aj λj a=>#[_,Z,_,Z,r,C,D,_,Z,jc,c.cl,c.n2,(by show 1 < 1000;decide),a _ _ ?_];clear a;refine aj λj a=>λl n=>#[_,Z,r,C,D,_,Z,ar jc n,c.cl,c.n3,(by show 2 < 1000;decide),a _ _ ?_];clear a;refine#[_,Z,r,C,D,_,Z,jc,c.cl,c.n4,(by show 3 < 1000;decide),?_];let N:l≠r:=λe=>by rw[e,jc]at n;cases n
 let B:H l=θ:=by rw[ji N,ji N]at n;exact n
 let e:∀p t u O:HO,af (af (af (af (af H r p) r t) l$ .dK []) r u) r O=af (af H l$ .dK []) r O:=λp t u O=>by
  funext b;by_cases d:b=r
  .rw[d,jc,jc]
  .rw[ji d,ji d,ji d];by_cases i:b=l
   .rw[i,jc,jc]
   .rw[ji i,ji d,ji d,ji i]
 rw[e];exact q l B
theorem y9:ak ["self"] ["self"] (aa oE):=bJ
theorem XI(F:aQ K "take_turn" "Turns.take_turn" oE f i)(b:RK K C)(X:XM K mg "TooLong" L):ah P w K mg base (c7 P w) 1 f i ["self"] (eK C L):=by
 refine F.ok1 y9 λj A o s H V Q E B h=>?_
 let⟨r,d,g,n,p,u,m,t,rfl,a,v,q,e⟩:=h;refine#[_,(jd (jx (jA uD (kU (pv 0) Z) (kU (pv 0) Z)$ aG _) (jg$ @Xt _ _ _ _ _ Z QH$ @QE _ _ _ _ _ X.ex X.kp Z X.m UJ) jp)$ jg$ @ZV _ _ _ _ _ _ _ _ _ _ (pv 0) je Cr),?_];refine aj λD y=>#[_,Z,r,C,d,_,_,Z,a,b.cl,b.n4,Z,_,Z,r,C,d,_,_,Z,a,b.cl,b.n2,Z,_,_,Z,Z,_,Z,?_];by_cases c:m<=(t:Int)
 .refine ci (LX c) λx N=>?_;exact#[x,L,θ,Z,jc,X.xc,X.ty,λT z=>e c () _ (Kp.of_same$ XH N z)]
 .exact aX (LL c)$ y _ _ #[_,Z,r,C,d,_,_,Z,a,b.cl,b.n4,Z,_,_,Z,Z,d,_,a,(by let:=v.l;show g.length+1+1+1+1+1 < 1000;omega),q UK]
theorem DV:ak ["self","cell"] ["self","cell"] (aa vm):=bJ
theorem ZB(F:aQ K "number_in" "Turns.number_in" vm f n)(b:RK K C):ah P w K mg base aE 1 f n ["self","cell"] (eO C):=by
 refine F.ok DV λp A o s H V Q E g h=>?_
 let⟨r,d,u,i,l,x,m,c,t,L,Cs,rfl,a,q⟩:=h;refine#[_,(jg$ jo$ kr (Yb$ @Dq _ _ _ _ _ (zQ g) (pv 1)$ kU (pv 0) Z) (yC (zQ g) (kU (pv 0) Z) (pv 1) (λ_ _=>Z))$ @Kx _ _ _ _ _ _ _ _ _ (zQ g) (kU (pv 0) Z) (pv 1) je #[UN,UN,UN,UN]),?_];refine#[_,Z,_,Z,r,C,d,_,_,Z,a.ins,b.cl,b.n3,Z,l,_,Z,fu.k (k:=.inl c) a.lf,_,Z,?_];cases e:dN L (.inl c) with
 |some v=>refine ci Z #[_,Z,r,C,d,_,_,Z,a.ins,b.cl,b.n3,Z,_,Z,l,v,Z,by rw[<- e];exact fu.k (k:=.inl c) a.lf,?_];rw[rA a.iL e$ look Cs (.inl c) 0];exact q
 |none=>refine aX Z #[_,Z,r,C,d,_,_,Z,a.ins,b.cl,b.n1,Z,i,Z,.inl #[_,.inl a.ce],_,Z,_,fu.k (k:=.inl c) a.ce,?_];rw[Kz a.iC];rw[rq e]at q;exact q
noncomputable abbrev uV:cv:=bG (bK 41) 0
noncomputable abbrev yP:cv:=bG (bK 41) 1
noncomputable abbrev yQ:cv:=bG (bK 41) 2
noncomputable abbrev DO:cv:=bK 42
inductive Sk where
 |nil |st (n:Int) (hs:List Int) (w r:Sk) |ask (b:Int) |rd (c i:Int) |wr (c i:Int) |cl (f:ρ) (is:List Int) (s:Sk) (a:Int)
noncomputable def Sk.dep:Sk->Nat
 | .st _ _ w r=>max w.dep r.dep
 | .cl _ _ s _=>s.dep+1
 |_=>0
noncomputable def Sk.size:Sk->Nat
 | .st _ _ w r=>w.size+r.size+1
 | .cl _ _ s _=>s.size
 |_=>0
def Sk.ok:Bool->Sk->Prop
 |true,.nil=>True
 |true,.st _ _ w r=>w.ok μ/\r.ok ν
 |false,.cl _ _ s _=>s.ok ν
 |false,.ask _=>True
 |false,.rd _ _=>True
 |false,.wr _ _=>True
 |_,_=>False
def eL(H:Hp):Sk->V->List V->Prop
 | .nil,_,x=>x=[]
 | .st n d w r,_,x=>∃p h u y,x= .ref p::y/\H p=δ (.tup [.int n,.ref h,u])/\H h=δ (.tup (d.map rm))/\eL H w u []/\eL H r .non y
 | .ask b,u,_=>∃p,u= .ref p/\H p=δ (.tup [.str "ask",.int b])
 | .rd c i,u,_=>∃p,u= .ref p/\H p=δ (.tup [.str "read",.int c,.int i])
 | .wr c i,u,_=>∃p,u= .ref p/\H p=δ (.tup [.str "write",.int c,.int i])
 | .cl f I s a,u,_=>∃p c g e S,u= .ref p/\H p=δ (.tup [.str "call",.ref c])/\H c=δ (.tup [.str f,.ref g,.ref e,.int a])/\H g=δ (.tup (I.map rm))/\H e=δ (.tup S)/\eL H s .non S
theorem eL.mono(k:ai H i):∀{s:Sk} {u:V} {x:List V},eL H s u x->eL i s u x
 | .nil,_,_,h=>h
 | .st _ _ _ _,_,_,z=>by let⟨p,h,u,y,e,a,b,d,f⟩:=z;exact #[p,h,u,y,e,k _ _ a,k _ _ b,eL.mono k d,eL.mono k f]
 | .ask _,_,_,z=>by let⟨p,e,h⟩:=z;exact #[p,e,k _ _ h]
 | .rd _ _,_,_,z=>by let⟨p,e,h⟩:=z;exact #[p,e,k _ _ h]
 | .wr _ _,_,_,z=>by let⟨p,e,h⟩:=z;exact #[p,e,k _ _ h]
 | .cl _ _ _ _,_,_,z=>by let⟨p,c,g,e,S,E,a,b,d,f,j⟩:=z;exact #[p,c,g,e,S,E,k _ _ a,k _ _ b,k _ _ d,k _ _ f,eL.mono k j]
noncomputable def Sk.put(n:Int)(h:List Int)(W:Sk):Sk->Sk
 | .st a b c r=>.st a b c (Sk.put n h W r)
 |_=>.st n h W .nil
theorem uP{H:Hp}{n:Int}{a:List Int}{w:Sk}{p h:η}{u:V}(b:H p=δ (.tup [.int n,.ref h,u]))(c:H h=δ (.tup$ a.map rm))(d:eL H w u []):∀{s:Sk} {x:List V},s.ok ν->eL H s .non x->eL H (Sk.put n a w s) .non (x++[.ref p])
 | .nil,_,_,e=>by let e:_=[]:=e;rw[e];exact#[p,h,u,[],Z,b,c,d,Z]
 | .st _ _ _ r,_,o,z=>by let⟨f,g,U,y,e,i,j,k,l⟩:=z;rw[e];exact#[f,g,U,y++[.ref p],Z,i,j,k,uP b c d o.2 l]
theorem Q6{w:Sk}(h:w.ok μ):∀{s:Sk},s.ok ν->(Sk.put n H w s).ok ν
 | .nil,_=>#[h,trivial]
 | .st _ _ _ _,o=>#[o.1,Q6 h o.2]
theorem KA{n:Int}{hs:List Int}{w:Sk}:∀{s:Sk},s.ok ν->(Sk.put n hs w s).size=s.size+(w.size+1)
 | .nil,_=>by show w.size+0+1=0+(w.size+1);omega
 | .st _ _ c r,o=>by let:=KA (n:=n) (hs:=hs) (w:=w) (s:=r) o.2;show c.size+(Sk.put n hs w r).size+1=c.size+r.size+1+(w.size+1);omega
theorem Q7{n:Int}{hs:List Int}{w:Sk}{j:Nat}(H:w.dep<=j):∀{s:Sk},s.ok ν->s.dep<=j->(Sk.put n hs w s).dep<=j
 | .nil,_,_=>by show max w.dep 0<=j;omega
 | .st _ _ c r,o,h=>by let h:max c.dep r.dep<=j:=h;let:=Q7 (n:=n) (hs:=hs) H (s:=r) o.2 UK;show max c.dep (Sk.put n hs w r).dep<=j;omega
theorem JA:∀{s:Sk} {x:List V},s.ok ν->eL H s .non x->x.length<=s.size
 | .nil,_,_,e=>by let e:_=[]:=e;rw[e];exact Lx 0
 | .st _ _ w r,_,o,z=>by let⟨_,_,_,y,e,_,_,_,h⟩:=z;let:=JA o.2 h;rw[e];show y.length+1<=w.size+r.size+1;omega
def h9(H:Hp)(f:ρ)(i:List Int)(s:Sk)(a:Int)(u:V):Prop:=∃c g e S,u= .ref c/\H c=δ (.tup [.str f,.ref g,.ref e,.int a])/\H g=δ (.tup$ i.map rm)/\H e=δ (.tup S)/\eL H s .non S
noncomputable def Sk.wh:Sk->Wh
 | .ask b=>.ask b
 | .rd c i=>.rd c i
 | .wr c i=>.wr c i
 | .cl f I _ a=>.cl f I a
 |_=>.ask 0
theorem GU{s:Sk}(o:s.ok μ)(h:eL H s u []):BJ H u s.wh:=by
 cases s with
 |nil |st=>exact o.elim
 |ask b |rd c i |wr c i=>exact h
 |cl f I s a=>let⟨p,c,g,e,S,E,d,j,k,_⟩:=h;exact#[p,c,g,.ref e,E,d,j,k]
inductive Gd where
 |give (a:Int) |go (n:Nat) (hs:List Int)
noncomputable def eS(N:Nat->List ρ)(k:aO):Gl->Gd
 | .give _ T=>.give (T.ev k)
 | .nought=>.give 0
 | .go n=>.go n ((N n).map λx=>look k (.inr x) 0)
noncomputable def Hg:Gd->Tr
 | .give a=>aB [aN "give",ay a]
 | .go n h=>aB [aN "go",ay (n:Int),aB (h.map ay)]
theorem Yj(N:Nat->List ρ)(k:aO)(g:Gl):oq N k g=Hg (eS N k g):=by
 cases g with
 |give t T |nought=>rfl
 |go n=>show _=aB [_,_,aB (((N n).map λx=>look k (.inr x) 0).map ay)];rw[Nt];rfl
structure Bx where
 nm:List ρ
 e:DD
 ws:List WD
structure cq where
 f:ρ
 ps:List ρ
 way:WD
 cs:List Bx
structure Ew(H:Hp)(ys:List ρ)(nA:η)(d:Df)(c:Ct)(cd:Bx):Prop where
 nm:cd.nm=canon c.M
 ed:cd.e.dd=c.d
 dv:sy H ys cd.e
 cs:cd.e.Cs d.b.calls
 len:cd.ws.length=c.ws.length
 ws:∀(j:Nat) (w:Wy) (wd:WD),c.ws[j]?=δ w->cd.ws[j]?=δ wd->wd.wy nA=w/\wO H ys d.b.cuts d.b.size wd
structure wZ(H:Hp)(nA:η)(d:Df)(ys:List ρ)(pd:cq):Prop where
 f:pd.f=d.f
 ps:H d.pa=δ (.tup$ pd.ps.map ri)
 wy:pd.way.wy nA=(hV nA d).1.w
 wv:wO H ys d.b.cuts d.b.size pd.way
 len:pd.cs.length=(bP nA d).length
 cs:∀(n:Nat) (c:Ct) (cd:Bx),(bP nA d)[n]?=δ c->pd.cs[n]?=δ cd->Ew H ys nA d c cd
theorem Ew.mono(k:ai H f)(h:Ew H y n d c C):Ew f y n d c C:=#[h.nm,h.ed,h.dv.mono k,h.cs,h.len,λj w W a b=>let #[e,v]:=h.ws j w W a b;#[e,v.mono k]]
theorem wZ.mono(k:ai H e)(h:wZ H N d y p):wZ e N d y p:=#[h.f,k _ _ h.ps,h.wy,h.wv.mono k,h.len,λn c C a b=>(h.cs n c C a b).mono k]
theorem xj{c d:Type}{R:c->d->Prop}:∀(l:List c),(∀a∈l,∃b,R a b)->∃m:List d,m.length=l.length/\∀(i:Nat) (a:c) (b:d),l[i]?=δ a->m[i]?=δ b->R a b
 | [],_=>#[[],Z,λi a b h=>by simp at h]
 |a::l,h=>by
  let⟨b,g⟩:=h a LN;let⟨m,e,j⟩:=xj l λx k=>h x (LW _ k);refine#[b::m,by rw[Md,Md,e],λi x y H f=>?_];cases i with
  |zero=>cases H;cases f;exact g
  |succ i=>exact j i x y (by simpa using H) (by simpa using f)
noncomputable def nU(p:cq)(n:Nat):List ρ:=match p.cs[n]? with
 |some c=>c.nm
 |none=>[]
theorem wZ.nms(h:wZ H N d y p):dI N d=nU p:=by
 funext n;unfold dI nU;by_cases a:n < p.cs.length
 .let b:n < (bP N d).length:=by rw[<- h.len];exact a
  rw[Ls a,Ls b];exact(h.cs n _ _ (Ls b)$ Ls a).nm.symm
 .rw[MM$ ON a,MM (by rw[<- h.len];exact ON a)]
inductive OW where
 |ok (w:Sk) (L:aO) (t:Nat) |long |deep
inductive OC where
 |ok (s:Sk) (a:Int) (L:aO) (t:Nat) |long |deep
noncomputable def OC.cons(n:Int)(h:List Int)(w:Sk):OC->OC
 | .ok s a L t=>.ok (.st n h w s) a L t
 | .long=>.long
 | .deep=>.deep
noncomputable def Sk.app:Sk->Sk->Sk
 | .st n h w r,s=>.st n h w (r.app s)
 |_,s=>s
noncomputable def OC.pre(S:Sk):OC->OC
 | .ok s a L t=>.ok (S.app s) a L t
 | .long=>.long
 | .deep=>.deep
theorem KB:∀{s:Sk},s.ok ν->s.app .nil=s
 | .nil,_=>rfl
 | .st n h w r,o=>by show Sk.st n h w (r.app .nil)=_;rw[KB o.2]
theorem ZC{w:Sk}:∀{s:Sk},s.ok ν->(Sk.put n h w s).app q=s.app (.st n h w q)
 | .nil,_=>rfl
 | .st a b c r,o=>by show Sk.st a b c ((Sk.put n h w r).app q)=Sk.st a b c (r.app (.st n h w q));rw[ZC o.2]
theorem XJ{w s:Sk}(o:OC)(h:s.ok ν):(o.cons n H w).pre s=o.pre (Sk.put n H w s):=by
 cases o with
 |ok q a L t=>show OC.ok (s.app (.st n H w q)) a L t= .ok ((Sk.put n H w s).app q) a L t;rw[ZC h]
 |long |deep=>rfl
abbrev iz:=ρ->List Int->aO->Nat->OC
noncomputable def OC.cl(f:ρ)(i:List Int):OC->OW
 | .ok s a L t=>.ok (.cl f i s a) L t
 | .long=>.long
 | .deep=>.deep
noncomputable def dX(M:Nat)(call:iz)(Cs:aO)(k L:aO)(t:Nat)(e:DD):OW:=if t < M then match e with
 | .ask _ T=>.ok (.ask (if T.ev k=0 then 0 else 1)) L (t+1)
 | .st _ (.rd _ _ T)=>.ok (.rd (T.ev k) (look L (.inl (T.ev k)) (look Cs (.inl (T.ev k)) 0))) L (t+1)
 | .st _ (.wr _ _ T U)=>.ok (.wr (T.ev k) (U.ev k)) (bg L (.inl (T.ev k)) (.int (U.ev k))) (t+1)
 | .st _ (.cl _ f _ a)=>(call f (a.map λc=>c.2.ev k) L (t+1)).cl f (a.map λc=>c.2.ev k)
 |_=>.long
 else .long
theorem qf{call:iz}{Cs:aO}(h:¬t < M):dX M call Cs k L t e= .long:=by unfold dX;rw[LV h]
theorem Kr{call:iz}{Cs:aO}(h:t < M):dX M call Cs k L t (.ask p T)= .ok (.ask (if T.ev k=0 then 0 else 1)) L (t+1):=by unfold dX;rw[LP h]
theorem Xl{call:iz}{Cs:aO}(h:t < M):dX M call Cs k L t (.st p$ .rd x a T)= .ok (.rd (T.ev k)$ look L (.inl$ T.ev k)$ look Cs (.inl$ T.ev k) 0) L (t+1):=by unfold dX;rw[LP h]
theorem Xm{call:iz}{Cs:aO}(h:t < M):dX M call Cs k L t (.st p$ .wr a b T U)= .ok (.wr (T.ev k)$ U.ev k) (bg L (.inl$ T.ev k)$ .int$ U.ev k) (t+1):=by unfold dX;rw[LP h]
theorem zS{call:iz}{Cs:aO}(h:t < M):dX M call Cs k L t (.st p$ .cl x f q T)=(call f (T.map λc=>c.2.ev k) L$ t+1).cl f (T.map λc=>c.2.ev k):=by unfold dX;rw[LP h]
noncomputable def nV(p:cq)(c:Bx)(h:List Int)(w:Wh):Gd:=match c.ws[w.side]? with
 |some W=>eS (nU p) (b8 W.sets (oi c.e w (aR c.nm h))) W.goal
 |none=>.give 0
noncomputable def eB(M:Nat)(call:iz)(Cs:aO)(p:cq):Nat->Gd->aO->Nat->OC
 |0,_,_,_=>.long
 |_+1,.give a,L,t=>.ok .nil a L t
 |m+1,.go n h,L,t=>match p.cs[n]? with
  |none=>.long
  |some c=>match dX M call Cs (aR c.nm h) L t c.e with
   | .ok w l T=>(eB M call Cs p m (nV p c h w.wh) l T).cons (n:Int) h w
   | .long=>.long
   | .deep=>.deep
noncomputable def fb:List cq->ρ->Option cq
 | [],_=>θ
 |p::r,f=>if p.f=f then δ p else fb r f
theorem ZD:∀{b:List cq} {i:Nat} {a:cq},b[i]?=δ a->(∀(j:Nat) (p:cq),j < i->b[j]?=δ p->p.f≠a.f)->fb b a.f=δ a
 | [],i,a,h,_=>by simp at h
 |p::r,0,a,h,_=>by cases h;show(if p.f=p.f then δ p else _)=_;rw[LP Z]
 |p::r,i+1,a,h,k=>by show(if p.f=a.f then δ p else fb r a.f)=_;rw[LV$ k 0 p (Nat.succ_pos _) Z];exact ZD (i:=i) (by simpa using h) λj q H c=>k (j+1) q (Nat.succ_lt_succ H) (by simpa using c)
noncomputable def aK(M:Nat)(p:List cq)(Cs:aO):Nat->iz
 |0=>λ_ _ _ _=>.deep
 |j+1=>λf i L t=>match fb p f with
  |none=>.long
  |some a=>eB M (aK M p Cs j) Cs a (M+2) (eS (nU a) (b8 a.way.sets (aR a.ps i)) a.way.goal) L t
structure Ps(H:Hp)(nA pA:η)(ds:List Df)(ns:List Nat)(xs:List V)(pds:List cq):Prop where
 at':H pA=δ (.tup xs)
 tr:aP H (aH$ ds.map$ eY nA) .non xs
 dv:∃zs,b6 H ds zs
 ok:nX ds ns
 pa:j' H ds ns
 dl:pds.length=ds.length
 pr:∀(i:Nat) (d:Df) (pd:cq),ds[i]?=δ d->pds[i]?=δ pd->∃ys,(d.b.Ok ys/\ys.length<=20)/\wZ H nA d ys pd
theorem Ps.mono(h:Ps H n c D N x p)(k:ai H e):Ps e n c D N x p:=#[k _ _ h.at',h.tr.mono k,let #[f,z]:=h.dv;#[f,z.mono k],h.ok,h.pa.mono k,h.dl,λi d g a b=>let #[Y,y,r]:=h.pr i d g a b;#[Y,y,r.mono k]]
theorem ZE(h:aP H (eY n d) v []):Em H v d.f:=by obtain⟨_,a,x,rfl,b,_,_,Y,y,rfl,⟨rfl,_⟩,_⟩:=h;exact#[a,_,Z,b]
theorem sS:∀{D:List Df} {z:List V},b6 H D z->∀{i:Nat} {d:Df},D[i]?=δ d->∃B,dG H d.b B
 |_::_,_,q,0,d,a=>by obtain⟨u,r,e,⟨B,_,_,_,h⟩,c⟩:=q;cases a;exact#[B,h]
 |_::_,_,#[u,r,e,_,c],i+1,d,a=>sS c (by simpa using a)
section
variable {H:Hp}{nA pA:η}{ds:List Df}{ns:List Nat}{xs:List V}{pds:List cq}
theorem Ps.part(h:Ps H nA pA ds ns xs pds){i:Nat}{d:Df}{v:V}(b:ds[i]?=δ d)(q:xs[i]?=δ v):∃y c,mP H nA d y v/\pds[i]?=δ c/\wZ H nA d y c/\fb pds d.f=δ c:=by
 let⟨T,n,t⟩:=qP h.tr i v q;rw[LK,b]at n;cases n;let⟨z,r⟩:=h.dv;let⟨_,_,s⟩:=(h.ok.1 d$ LS b).1;let u:i < ds.length:=(ξ.mp b).1;let g:pds[i]?=δ (pds[i]'(by rw[h.dl];exact u)):=Ls _;obtain⟨y,⟨O,Y⟩,k⟩:=h.pr i d _ b g;refine#[y,_,#[t,sS r b,O,Y,s],g,k,?_];rw[<- k.f];refine ZD g λj p A l e=>?_;let a:j < ds.length:=by omega
 let⟨_,_,m⟩:=h.pr j _ p (Ls a) l;rw[m.f,k.f]at e;let x:(ds.map Df.f)[j]?=δ (ds[j]).f:=by rw[LK,Ls a];rfl
 let o:(ds.map Df.f)[i]?=δ d.f:=by rw[LK,b];rfl
 rw[<- e]at o;let:=(Pz (by rw[Lw];exact a) h.ok.2.1).mp (x.trans o.symm);omega
theorem Ps.cs(h:Ps H nA pA ds ns xs pds){i:Nat}{d:Df}(a:ds[i]?=δ d):∀f∈d.b.calls,f∈(ds.map Df.f).zip ns:=zF (h.ok.1 d$ LS a).2
theorem Ps.at(h:Ps H nA pA ds ns xs pds){i:Nat}{d:Df}(b:ds[i]?=δ d):∃v,xs[i]?=δ v/\aP H (eY nA d) v []/\Em H v d.f/\∀j x,j < i->xs[j]?=δ x->∃g,Em H x g/\g≠d.f:=by
 let L:=zp h.tr;rw[Lw]at L;let r:i < ds.length:=(ξ.mp b).1;let t:∀(j:Nat) (x:V),xs[j]?=δ x->∃c,ds[j]?=δ c/\aP H (eY nA c) x []:=λj x k=>by let⟨s,m,t⟩:=qP h.tr j x k;rw[LK]at m;let⟨c,a,rfl⟩:=dt.mp m;exact#[c,a,t]
 let n:xs[i]?=δ (xs[i]'UK):=Ls UK;let⟨c,a,T⟩:=t _ _ n;rw[b]at a;cases a;refine#[_,n,T,ZE T,λj x u k=>?_];let⟨c,a,q⟩:=t j x k;refine#[c.f,ZE q,λe=>?_];let o:(ds.map Df.f)[j]?=δ c.f:=by rw[LK,a];rfl
 let p:(ds.map Df.f)[i]?=δ d.f:=by rw[LK,b];rfl
 rw[<- e]at p;let l:j < (ds.map Df.f).length:=(ξ.mp o).1;let:=(Pz l h.ok.2.1).mp (o.trans p.symm);omega
theorem Ps.find(h:Ps H nA pA ds ns xs pds)(a:(f,n)∈(ds.map Df.f).zip ns):∃(i:Nat) (d:Df),ds[i]?=δ d/\ns[i]?=δ n/\d.f=f:=by
 let⟨i,b,e⟩:=hJ.mp a;let E:((ds.map Df.f).zip ns)[i]?=δ (f,n):=by rw[<- e];exact Ls b
 rw[Rp]at E;rw[LK]at E;let⟨d,c,g⟩:=dt.mp E.1;exact#[i,d,c,E.2,g]
end
theorem Rn.tm{Cs:aO}(h:Rn H C r d E c l p m t L Cs)(k:a6 r l H a):ai H a:=λb x e=>k b _ (jO e h.ins (by intro z;cases z)) (jO e h.lf (by intro z;cases z)) e
theorem Rn.same{Cs:aO}(h:Rn H C r d e c l p m t L Cs)(s:ae H a):Rn a C r d e c l p m t L Cs:=#[s _ _ h.ins,s _ _ h.lf,s _ _ h.ce,h.iL,h.iC,h.cl,h.tl,h.hm]
theorem Rn.rl{Cs:aO}(h:Rn H C r d e c l p m t L Cs):r≠l/\r≠c:=#[jO h.ins h.lf (by intro z;cases z),jO h.ins h.ce (by intro z;cases z)]
def Ek(r l:η)(H h:Hp):Prop:=∀b o,b≠r->b≠l->NX o->H b=δ o->h b=δ o
theorem Fl.next(h:Fl E L (Ek r l H)):Fl (lG E) L (Ek r l H):=λd i k x T t c e a j f=>by cases e;exact h d _ λb o N g n e=>qe (H:=H) (k b o N g n e) n a f
theorem Fl.nextK(h:Fl E L (Kp H)):Fl (lG E) L (Kp H):=λd g k x T t c e a i f=>by cases e;exact h d _ λb o n e=>qe (H:=H) (k b o n e) n a f
theorem Fl.mono{R S:Hp->Prop}(h:Fl E L R)(k:∀H,S H->R H):Fl E L S:=λd H s=>h d H (k H s)
inductive gQ(C:η)(e:List V)(H:Hp)(Q:VK)(a:XK):Prop
 |mk(r c d b:η)(m:Int)(_:e=[.ref r,.ref d,.ref b,.int m])(_:H r=δ (.ins C c []))(_:∀lA,H lA=θ->Q .non (af (af H lA (.dK [])) r (.ins C c (c8 [] b lA d m 0))))
def ie(A B:Prop)(E:XK)(T t:η)(R:Hp->Prop):Prop:=(A->Fl E T R)/\(B->Fl E t R)
theorem ie.mono{R S:Hp->Prop}(h:ie A B E T t R)(k:∀H,S H->R H):ie A B E T t S:=#[λa=>(h.1 a).mono k,λb=>(h.2 b).mono k]
theorem ie.next(h:ie A B E T t (Ek r l H)):ie A B (lG E) T t (Ek r l H):=#[λa=>(h.1 a).next,λb=>(h.2 b).next]
theorem ie.imp{R:Hp->Prop}(h:ie A B E T t R)(a:c->A)(b:d->B):ie c d E T t R:=#[λx=>h.1 (a x),λx=>h.2 (b x)]
inductive dS(C g f q:η)(j:Nat)(x:List V)(H:Hp)(Q:VK)(E:XK):Prop
 |mk(M:Nat)(r m:η)(n:List (ρ×V))(k p w h:η)(b t i:Nat)(L e:aO)(v:V)(d:Df)(l:List Df)(s:List Nat)(y:List V)(c:List cq)(o:List Int)(_:x=[.ref r,v,.ref h,.int (b:Int)])(_:b+j=16)(_:1<=j)(_:Rn H C r m n k p w M t L e)(_:L.length<=t)(_:t<=M)(_:Ps H q w l s y c)(_:l[i]?=δ d)(_:s[i]?=δ o.length)(_:y[i]?=δ v)(_:H h=δ (.tup (o.map rm)))(_:∀z∈o,eP z)(_:∀(u:V) (sk:Sk) (a:Int) (L':aO) (H':Hp),aK M c e j d.f o L t= .ok sk a L' (t+sk.size)->h9 H' d.f o sk a u->sk.ok ν->sk.dep+1<=j->eP a->Rn H' C r m n k p w M (t+sk.size) L' e->L'.length<=t+sk.size->t+sk.size<=M->a6 r p H H'->Q u H')(_:ie (aK M c e j d.f o L t= .long) (aK M c e j d.f o L t= .deep) E g f (Ek r p H))
inductive gU(C f d n:η)(j:Nat)(q:List V)(H:Hp)(Q:VK)(E:XK):Prop
 |mk(M:Nat)(r i:η)(l:List (ρ×V))(g m p:η)(a t:Nat)(L c k:aO)(u:V)(e:DD)(x:List ρ)(h:List Df)(o:List Nat)(s:List V)(b:List cq)(_:q=[.ref r,u,.int (a:Int)])(_:a+j=15)(_:Rn H C r i l g m p M t L c)(_:L.length<=t)(_:t<=M)(_:Ps H n p h o s b)(_:aP H (wP k e) u [])(_:sy H x e)(_:GT k)(_:e.Cs ((h.map Df.f).zip o))(_:∀(w:Sk) (v:V) (L':aO) (H':Hp),dX M (aK M b c j) c k L t e= .ok w L' (t+1+w.size)->eL H' w v []->w.ok μ->Ey e w.wh->w.dep<=j->Rn H' C r i l g m p M (t+1+w.size) L' c->L'.length<=t+1+w.size->t+1+w.size<=M->a6 r m H H'->Q v H')(_:ie (dX M (aK M b c j) c k L t e= .long) (dX M (aK M b c j) c k L t e= .deep) E f d (Ek r m H))
theorem DT:ak z6z z6z (aa uV):=bJ
theorem ZF(F:aQ K "__init__" "BookRun.__init__" uV f t)(j:RK K C)(GT:ah P w K mg base aE 1 u c z24z (iW C))(B:aw K c z24z [])(M:mg "Turns"=↑T)(v:sw K T "__init__" u):ah P w K mg base aE 2 f t z6z (gQ C):=by
 refine F.ok DT λx A o s H V Q E y h=>?_
 let⟨r,d,z,k,m,rfl,g,q⟩:=h;refine#[_,(jd (jQ$ @Zj _ _ _ _ _ _ _ _ _ _ _ _ _ _ _ _ _ _ _ _ Z M v GT y.m B .nil bH (ja (pv 0)$ ja (pv 2)$ ja (pv 3) jb) UJ UN UN UN)$ jg$ @qp _ _ _ _ _ _ _ _ (pv 0) (pv 1) Z),?_];refine aj λD n=>#[_,Z,_,Z,_,Z,r,d,[],k,m,Z,g,λL N=>n _ _ ?_];clear n;refine#[_,Z,_,Z,r,C,d,_,Z,jc,j.cl,j.n5,(by show 4 < 1000;decide),?_];let e:∀(i:Hp) (p O:HO),af (af i r p) r O=af i r O:=λi p O=>by
  funext b;by_cases a:b=r
  .rw[a,jc,jc]
  .rw[ji a,ji a,ji a]
 rw[e];exact q L N
theorem J7(h:aP H (aB t) u []):∃a x,u= .ref a/\H a=δ (.tup x)/\aP H (aH t) .non x:=let #[_,a,x,e,b,c]:=h;#[a,x,e,b,c]
theorem qg(h:aP H (aH (t::T)) .non x):∃y Y,x=y::Y/\aP H t y []/\aP H (aH T) .non Y:=let #[_,_,y,Y,e,a,b]:=h;#[y,Y,e,a,b]
theorem ZG(h:aP H (aN x) y []):y= .str x:=h.1
theorem J8(h:aP H (ay n) y []):y= .int n:=h.1
theorem KC:∀{I:List Int} {v:List V},aP H (aH$ I.map ay) .non v->v=I.map rm
 | [],v,h=>h
 |i::I,v,h=>by let⟨y,Y,rfl,a,b⟩:=qg h;rw[J8 a,KC b];rfl
theorem Q8{H:Hp}{w:ρ}{t:List Tr}{u:V}(h:aP H (aB (aN w::t)) u []):∃a x,u= .ref a/\H a=δ (.tup (.str w::x))/\aP H (aH t) .non x:=by let⟨a,x,rfl,b,h⟩:=J7 h;let⟨y,Y,rfl,c,d⟩:=qg h;rw[ZG c]at b;exact#[a,Y,Z,b,d]
theorem QW{H:Hp}{w:ρ}{i:Int}{u:V}(h:aP H (aB [aN w,ay i]) u []):∃a,u= .ref a/\H a=δ (.tup [.str w,.int i]):=by let⟨a,x,rfl,b,h⟩:=Q8 h;let⟨y,Y,rfl,c,d⟩:=qg h;let e:Y=[]:=d;rw[J8 c,e]at b;exact#[a,Z,b]
theorem wG{H:Hp}{w:ρ}{i:Int}{t:Tr}{u:V}(h:aP H (aB [aN w,ay i,t]) u []):∃a y,u= .ref a/\H a=δ (.tup [.str w,.int i,y])/\aP H t y []:=by let⟨a,x,rfl,b,h⟩:=Q8 h;let⟨y,Y,rfl,c,d⟩:=qg h;let⟨z,f,rfl,g,j⟩:=qg d;let e:f=[]:=j;rw[J8 c,e]at b;exact#[a,z,Z,b,g]
theorem Ge:ak z11z z11z (aa yQ):=bJ
theorem uj(F:aQ K "what_of" "BookRun.what_of" yQ f fd)(ck:RK K C)(GT:ah P w K mg base (c7 P w) 1 fT f0 ["self"] (eK C TL))(bT:aw K f0 ["self"] [])(m0:a8 K C "take_turn" fT)(GI:ah P w K mg base aE 1 fI f2 ["self","cell"] (eO C))(bI:aw K f2 ["self","cell"] [])(m1:a8 K C "number_in" fI)(GD:ah P w K mg base (c7 P w) 1 fD f3 ["deep"] (di TD))(bD:aw K f3 ["deep"] [])(kD:fz K (.ref fD)=ν)(mD:mg "deeper"=↑fD)(cP:Cl P w K mg base 2 fP f6 ["parts","f"] iT "part_of")(GC:ah P w K mg base (c7 P w) (2*j+12) fC f4 z14z (dS C TL TD nA j))(bC:aw K f4 z14z [])(m2:a8 K C "chain_of" fC):ah P w K mg base (c7 P w) (2*j+13) f fd z11z (gU C TL TD nA j):=by
 refine F.ok1 Ge λc5 A o2 s H vs Q E hr h=>?_
 let⟨M,r,I,Y,cA,N,W,O,t,L,Cs,k,u,e,ys,ds,ns,xs,p1,rfl,h4,D,h5,ht,hP,J,h0,hk,h1,q,t0⟩:=h;refine#[_,(jd (jQ$ Xo (pv 0) ck.cl m0 GT hr.m bT .nil j5)$ jd (jx (kc$ jz$ pv 1) (jg$ jo$ jh$ ja jk$ ja (jz$ pv 1)$ ja (j7 (pv 0) ck.cl m1 GI hr.m bI .nil bH$ ja (jz$ pv 1) jb) jb) jp)$ jd (jx (kc$ jz$ pv 1) (jg$ jo$ jh$ ja jk$ ja (j7 (pv 0) ck.cl m2 GC hr.m bC .nil j5$ ja (cP.e hr.m$ ja (kU (pv 0) Z)$ ja (jz$ pv 1) jb)$ ja (jz$ pv 1)$ ja (kG GD hr.m Z mD kD bD .nil j5$ ja (pv 2) jb) jb) jb) jp)$ jd (jx (kc$ jz$ pv 1) (jg$ qc (zQ hr) (kU (pv 0) Z) (jz$ pv 1) (jz$ pv 1) Z) jp)$ jg$ jo$ pv 1),?_];let b0:=aI;let hM:=D.hm;refine aj λF1 B=>#[_,Z,r,I,_,Z,D.ins,D.tl.t,r,I,Y,cA,N,W,M,t,Z,D.ins,D.tl,λlt=>B _ _ ?_,λge=>((t0.1$ qf UK).mono λH' kk=>λb o _ _ nx e=>kk b o nx e).nextK];clear B;let t1:ai H (af H r$ .ins C I$ c8 Y cA N W M$ t+1):=λb xs e=>by rw[ji$ jO e D.ins (by intro z;cases z)];exact e
 let R:Rn (af H r$ .ins C I$ c8 Y cA N W M$ t+1) C r I Y cA N W M (t+1) L Cs:=#[jc,by rw[ji D.rl.1.symm];exact D.lf,by rw[ji D.rl.2.symm];exact D.ce,D.iL,D.iC,D.cl,D.tl,D.hm];let k1:a6 r N H (af H r$ .ins C I$ c8 Y cA N W M$ t+1):=λb o n1 n2 e=>by rw[ji n1];exact e
 generalize af H r (.ins C I$ c8 Y cA N W M$ t+1)=H1 at t1 R k1;let J:=J.mono t1;let lt':t+1<=M:=by omega
 let f5:∀(w:Sk) (xs:List V) (X:Hp) (v:η),X v=θ->eL (af X v$ .tup xs) w (.ref v) []->w.ok μ->dX M (aK M p1 Cs j) Cs k L t e= .ok w L (t+1)->Ey e w.wh->w.size=0->w.dep<=j->H1=X->Q (.ref v) (af X v$ .tup xs):=λw xs X v nv hw ok eq ft sz dp e2=>by subst e2;exact q w _ L _ (by rw[sz];exact eq) hw ok ft dp (by rw[sz];exact R.same$ jf nv) UK UK$ k1.trans$ a6.of_same$ jf nv
 cases e with
 |ask ta T=>
  let⟨p,rfl,G⟩:=QW J;refine aj λF1 B=>(ju G Z #[Z,_,Z,aX UM$ B _ _ ?_]);clear B;refine aj λF1 B=>(ju G Z #[Z,_,Z,aX UM$ B _ _ ?_]);clear B;refine aj λF1 B=>(ju G Z #[Z,_,Z,aX UM$ B _ _ ?_]);clear B;refine#[_,Z,q (.ask (if T.ev k=0 then 0 else 1)) _ L _ (Kr UK) #[p,Z,G] trivial ?_ (LF _) R (by show L.length<=t+1+0;omega) lt' k1];show(if T.ev k=0 then (0:Int) else 1)=0∨(if T.ev k=0 then (0:Int) else 1)=1;split
  .exact .inl Z
  .exact .inr Z
 |st p0 l=>
  let⟨vs,_,h6,o1,c0⟩:=h0;cases l with
  |gv ta T |st x ta T=>cases c0
  |rd x ta T=>let⟨p,rfl,G⟩:=QW J;refine aj λF1 B=>(ju G Z #[Z,_,Z,ci UM$ ju G Z #[_,Z,r,I,_,Z,R.ins,R.tl.n,ju G Z #[r,I,Y,cA,N,W,M,_,_,_,_,Z,R,fq,λv nv=>?_]]]);exact f5 (.rd (T.ev k)$ look L (.inl$ T.ev k)$ look Cs (.inl$ T.ev k) 0) _ _ v nv #[v,Z,jc] trivial (Xl UK) (J4 R.iL$ J4 R.iC J5) Z (LF _) Z
  |wr ta ub T U=>
   let⟨p,y,rfl,G,hy⟩:=wG J;rw[J8 hy]at G;refine aj λF1 B=>(ju G Z #[Z,_,Z,aX UM$ B _ _ ?_]);clear B;refine aj λF1 B=>(ju G Z #[Z,_,Z,aX UM$ B _ _ ?_]);clear B;refine aj λF1 B=>(ju G Z #[Z,_,Z,ci UM$ ju G Z #[_,Z,r,C,I,_,_,Z,R.ins,ck.cl,ck.n3,Z,ju G Z #[N,_,Z,lO.k (k:=.inl (T.ev k)) R.lf UK,B _ _ ?_]]]);clear B;let pl:=zk (kvs:=L) (k:=.inl (T.ev k)) (v:=.int (U.ev k));let t3:ai H1 (af H1 N$ .dK$ bg L (.inl$ T.ev k)$ .int$ U.ev k):=λb xs e=>by rw[ji$ jO e R.lf (by intro z;cases z)];exact e
   refine#[_,Z,q (.wr (T.ev k)$ U.ev k) _ (bg L (.inl$ T.ev k)$ .int$ U.ev k) _ (Xm UK) #[p,Z,t3 _ _ G] trivial trivial (LF _) #[by rw[ji D.rl.1];exact R.ins,jc,by rw[ji D.cl];exact R.ce,R.iL.put _$ Jc hk o1.2.1,R.iC,R.cl,R.tl,R.hm] (by show _<=t+1+0;omega) lt' λb o n1 n2 e=>?_];rw[ji n2];exact k1 b o n1 n2 e
  |cl x f q' ts=>
   let⟨p,y3,rfl,G,hy⟩:=Q8 J;let⟨y1,y5,rfl,e1,hy⟩:=qg hy;let⟨y2,y0,rfl,e2,hy⟩:=qg hy;let e3:y0=[]:=hy;subst e3;rw[ZG e1]at G;let⟨ag,a0,rfl,ha,S⟩:=J7 e2;let S:aP H1 (aH ((ts.map λc=>c.2.ev k).map ay)) .non a0:=by rw[Nt];exact S
   rw[KC S]at ha;let⟨i,d,hd,hn,rfl⟩:=hP.find h1;let P1:=hP.mono t1;let⟨v,hv,_,h2,h3⟩:=P1.at hd;refine aj λF1 B=>(ju G Z #[Z,_,Z,aX UM$ B _ _ ?_]);clear B;refine aj λF1 B=>(ju G Z #[Z,_,Z,ci UM ?_]);clear B;refine#[_,Z,r,I,_,Z,R.ins,R.tl.c,_,Z,r,C,I,_,_,Z,R.ins,ck.cl,ck.n5,Z,ju G Z #[W,d.f,xs,i,v,Z,P1.at',hv,h2,h3,ju G Z #[_,Z,(O:Int),Z,λdl=>?_,λdg=>((t0.2 (by let z:j=0:=UK;rw[zS UK,z];rfl)).mono λX kk=>λb o n1 n2 nx e=>kk b o nx (k1 b o n1 n2 e)).nextK]]];refine#[M,r,I,Y,cA,N,W,ag,O+1,t+1,i,L,Cs,v,d,ds,ns,xs,p1,ts.map λc=>c.2.ev k,Z,UK,UK,R,UK,lt',P1,hd,by rw[Lw];exact hn,hv,ha,λz hz=>?_,λu sk a L' X eq hc ok dp ia R2 l2 t2 k2=>?_,ie.next ((t0.imp (λz=>by rw[zS UK,z];rfl) (λz=>by rw[zS UK,z];rfl)).mono λX kk=>λb o n1 n2 nx e=>kk b o n1 n2 nx (k1 b o n1 n2 e))]
   .let⟨c,hc,rfl⟩:=dw.mp hz;exact Jc hk (o1.2.2 c hc).1
   .let⟨c,g,ee,ss,rfl,c1,c2,c3,c4⟩:=hc;refine#[bL,λv2 nv=>?_];let s2:ae X (af X v2$ .tup [.str "call",.ref c]):=jf nv;refine q (.cl d.f (ts.map λc=>c.2.ev k) sk a) _ L' _ (by rw[zS UK,eq];rfl) #[v2,c,g,ee,ss,Z,jc,s2 _ _ c1,s2 _ _ c2,s2 _ _ c3,c4.mono$ ae.tm s2] ok ia (by show sk.dep+1<=j;omega) (R2.same s2) l2 t2 ((k1.trans k2).trans$ a6.of_same s2)
theorem BM:dO (s++[x]) (-1)=δ x:=by
 let l:(s++[x]).length=s.length+1:=by rw[Ly];rfl
 unfold dO on;rw[l,LV UK,LP UK];let e:(-1+((s.length+1:Nat):Int)).toNat=s.length:=by omega
 show(s++[x])[(-1+((s.length+1:Nat):Int)).toNat]?=_;rw[e];simp
inductive EA(H:Hp)(nA:η)(d:Df)(u:V):Gd->Prop
 |give (p:η) (a:Int) (e:u= .ref p) (h:H p=δ (.tup [.str "give",.int a])) (i:eP a):EA H nA d u (.give a)
 |go (p hv:η) (n:Nat) (c:Ct) (is:List Int) (e:u= .ref p) (h:H p=δ (.tup [.str "go",.int (n:Int),.ref hv])) (h2:H hv=δ (.tup (is.map rm))) (hc:(bP nA d)[n]?=δ c) (hl:is.length=(canon c.M).length) (hi:∀i∈is,eP i):EA H nA d u (.go n is)
theorem QX{H:Hp}{nA:η}{d:Df}(h:aP f (oq (dI nA d) k g) u [])(j:GT k)(l:Ez H Y d.b.cuts g):EA f nA d u (eS (dI nA d) k g):=by
 cases g with
 |give t T=>let⟨p,e,h⟩:=QW h;exact .give p _ e h (Jc j l.2.1)
 |nought=>let⟨p,e,h⟩:=QW h;exact .give p 0 e h J5
 |go n=>
  let⟨p,y,e,h,q⟩:=wG h;let⟨a,X,rfl,m,c⟩:=J7 q;let r:n < (bP nA d).length:=by rw[Zw];exact l
  let o:(bP nA d)[n]?=δ (bP nA d)[n]:=Ls r;let c:aP f (aH (((dI nA d n).map λx=>look k (.inr x) 0).map ay)) .non X:=by rw[Nt];exact c
  rw[KC c]at m;refine .go p a n _ _ e h m o (by rw[Lw,uf o]) λi s=>?_;let⟨x,_,rfl⟩:=dw.mp s;exact J4 j J5
inductive CI(M:Nat)(a:iz)(N:cq)(h:OC)(C r o:η)(E:List (ρ×V))(n G K l P I:η)(b t j:Nat)(i:aO)(v:V)(d:Df)(H:Hp)(F:Nat)(R:_L.St)(k:Hp):Prop
 |mk(J:Option V)(u:V)(g:Gd)(m:Nat)(O:Sk)(Q:List V)(L:aO)(p:R=[↑r,δ v,↑l,δ (.int (b:Int)),↑P,δ u,J])(q:k P=δ (.lst Q))(s:eL k O .non Q)(w:O.ok ν)(x:O.dep+1<=j)(y:EA k I d u g)(z:Rn k C r o E n G K M (t+O.size) L i)(A:L.length<=t+O.size)(B:t+O.size<=M)(D:a6 r G H k)(c:F+t+O.size=M+1)(e:(eB M a i N m g L (t+O.size)).pre O=h)(f:M+2<=m+(t+O.size))
theorem mX:ak ["self","part","args","deep","steps","goal","what"] z14z (aa yP):=bJ
theorem CW(F:aQ K "chain_of" "BookRun.chain_of" yP f fd)(ck:RK K C)(cF:Cl P w K mg base 9 fF f2 ["part","args"] (gq nA) "first_of")(cD:Cl P w K mg base 9 fD f3 z8z (dU nA) "deed_at")(cO:Cl P w K mg base 9 fO f4 ["part","step"] (oK nA) "onward")(GW:ah P w K mg base (c7 P w) (2*j+13) fW f0 z11z (gU C TL TD nA j))(bW:aw K f0 z11z [])(m0:a8 K C "what_of" fW)(m1:mg "tuple"=θ):ah P w K mg base (c7 P w) (2*j+14) f fd z14z (dS C TL TD nA$ j+1):=by
 refine F.ok1 mX λc3 A o2 s H vs Q E hr h=>?_
 let⟨M,r,dx,ex,cA,lA,pA,ag,R,t,i,L,Cs,v,d,ds,ns,xs,x,is,rfl,b4,_,hR,a0,ht,hP,hd,hn,hv,ha,h3,q,t3⟩:=h;refine#[_,(jd (jy 4 mX.nd$ jI jb)$ jd (jy 5 mX.nd$ cF.e hr.m$ ja (pv 1)$ ja (pv 2) jb)$ jd (Kt PassesOwn.leaving (kc$ jz$ pv 5)$ jd (jy 6 mX.nd$ j7 (pv 0) ck.cl m0 GW hr.m bW .nil j5$ ja (cD.e hr.m$ ja (pv 1)$ ja (jz$ pv 5)$ ja (jz$ pv 5) jb)$ ja (pv 3) jb)$ jd (jQ$ kM PySem.F.plainAttrs_list PySem.F.slot_list_append PySem.F.type_list_append jT (pv 4)$ ja (jh$ ja (jz$ pv 5)$ ja (jz$ pv 5)$ ja (pv 6) jb) jb)$ jg$ jy 5 mX.nd$ cO.e hr.m$ ja (pv 1)$ ja (jr jq (pv 4) (uF Yc je) (λ_ _=>Z)) jb)$ jg$ jo$ jh$ ja (jz$ pv 1)$ ja (pv 2)$ ja (jE jL Z m1 boot_tuple$ ja (pv 4) jb)$ ja (jz$ pv 5) jb),?_];let b5:=aI;let hM:=hR.hm;let⟨ys,g,h1,b9,pr,a1⟩:=hP.part hd hv;let⟨ps,h4,a2,a3⟩:=hP.pa.2 i d _ hd hn;let e3:ps=g.ps:=by let z:=h4.symm.trans pr.ps;injection z with z;injection z with z;exact(List.map_inj_right λa b e=>by injection e).mp z
 subst e3;let e0:aK M x Cs (j+1) d.f is L t=eB M (aK M x Cs j) Cs g (M+2) (eS (nU g) (b8 g.way.sets$ aR g.ps is) g.way.goal) L t:=by show(match fb x d.f with |none=>OC.long |some g=>eB M (aK M x Cs j) Cs g (M+2) (eS (nU g) (b8 g.way.sets$ aR g.ps is) g.way.goal) L t)=_;rw[a1]
 generalize aK M x Cs (j+1) d.f is L t=U at q t3 e0;refine aj λF1 I=>#[lN,λS X=>I _ _ ?_];clear I;let s1:ae H (af H S$ .lst []):=jf X;let l1:af H S (.lst []) S=δ (.lst []):=jc;generalize af H S (.lst [])=H1 at s1 l1 ⊢;let e4:=pr.wy;let h2:=pr.wv;refine aj λF1 I=>#[_,Z,_,Z,v,ag,d,ys,g.ps,is,g.way,Z,h1.mono$ ae.tm s1,s1 _ _ h4,UK,s1 _ _ ha,a2.symm,h3,e4,h2.mono$ ae.tm s1,λu H2 hu s2=>I _ _ ?_];clear I;let S2:=s1.trans s2;let gz:GT (aR g.ps is):=qR h3;let g0:=QX (H:=H) hu (qd h2.sets gz) h2.goal;rw[pr.nms]at g0;let s0:S≠r:=Ne.symm (jl hR.ins X);let s3:S≠lA:=Ne.symm (jl hR.lf X);let s9:cA≠S:=jl hR.ce X;refine aj λF1 I=>?_;refine oM (CI M (aK M x Cs j) g U C r dx ex cA lA pA ag S nA R t (j+1) Cs v d H) (M+1 - t) #[θ,u,_,M+2,.nil,[],L,Z,s2 _ _ l1,Z,trivial,by show 0+1<=j+1;omega,g0,hR.same S2,a0,ht,a6.of_same S2,by show M+1 - t+t+0=M+1;omega,by rw[e0];show OC.pre .nil (eB M (aK M x Cs j) Cs g (M+2) _ L t)=_;cases eB M (aK M x Cs j) Cs g (M+2) (eS (nU g) (b8 g.way.sets$ aR g.ps is) g.way.goal) L t<;>rfl,by show M+2<=M+2+(t+0);omega] ?_;intro kk σ H3 E' rt fE F kT cF.k Gq kq hW;let⟨o6,u,gd,m,J,O,L1,rfl,w1,w2,w3,w4,w5,w6,w7,w8,w9,b',W,c4⟩:=hW;obtain⟨m,rfl⟩:∃m',m=m'+1:=#[m - 1,UK];let Y:=hR.tm w9;let P3:=hP.mono Y;cases w5 with
 |give p a e h5 ia=>subst e;refine kq$ ju h5 Z #[Z,_,Z,?_];rw[show decide (ri (Str.ofString "give")=ri (Str.ofString "go"))=μ by decide+kernel];refine cF.k _$ I _ _ ?_;let⟨pa,ca,wv,cs,e,h7,_⟩:=(h1.mono Y).parts;subst e;refine(ju h7 Z #[_,Z,_,Z,S,O,Z,.inl #[aJ.of w1,λl2 n0=>?_]]);let s4:ae H3 (af H3 l2$ .tup O):=jf n0;refine(ju (s4 _ _ h5) Z #[su,λv2 nv=>?_]);let s5:=s4.trans (jf (o:=.tup [.str d.f,.ref ag,.ref l2,.int a]) nv);let S5:a6 r lA H (af (af H3 l2$ .tup O) v2$ .tup [.str d.f,.ref ag,.ref l2,.int a]):=w9.trans (a6.of_same s5);let W:OC.ok (J.app .nil) a L1 (t+J.size)=U:=W;rw[KB w3]at W;exact q _ J a L1 _ W.symm #[v2,ag,l2,O,Z,jc,hR.tm S5 _ _ ha,ar jc nv,w2.mono$ ae.tm s5] w3 w4 ia (w6.same s5) w7 w8 S5
 |go p B n c hs e h5 h6 hc hl hi=>
  subst e;refine kq$ ju h5 Z #[Z,_,Z,?_];rw[show decide (ri (Str.ofString "go")=ri (Str.ofString "go"))=ν by decide+kernel];refine kT _ ?_;clear kT cF.k I;let P1:=h1.mono Y;let⟨pa,ca,wv,cs,e9,h7,_,_,a4⟩:=P1.parts;let⟨ka,na,wa,dv,c5,_,c1⟩:=P1.cut a4 hc;let a':n < g.cs.length:=by rw[pr.len];exact(ξ.mp hc).1
  obtain⟨cd,h8⟩:∃cd,g.cs[n]?=δ cd:=#[_,ib a'];let cr:=(pr.cs n c cd hc h8).mono Y;let⟨c2,e,c0⟩:=cd;let⟨e1,ed,d0,e5,l0,b0⟩:=cr;let e1:c2=canon c.M:=e1;subst e1;let W:OC.pre J (match g.cs[n]? with
   |none=>OC.long
   |some c=>match dX M (aK M x Cs j) Cs (aR c.nm hs) L1 (t+J.size) c.e with
    | .ok w L1 t1=>(eB M (aK M x Cs j) Cs g m (nV g c hs w.wh) L1 t1).cons (n:Int) hs w
    | .long=>.long
    | .deep=>.deep)=U:=W
  rw[h8]at W;let W:OC.pre J (match dX M (aK M x Cs j) Cs (aR (canon c.M) hs) L1 (t+J.size) e with
    | .ok w L1 t1=>(eB M (aK M x Cs j) Cs g m (nV g #[canon c.M,e,c0] hs w.wh) L1 t1).cons (n:Int) hs w
    | .long=>.long
    | .deep=>.deep)=U:=W
  let gk:GT (aR (canon c.M) hs):=qR hi;refine aj λF1 I=>#[_,Z,r,dx,_,Z,w6.ins,w6.tl.w,_,Z,ju h5 Z$ ju h5 Z #[v,n,B,d,ys,c,hs,e,Z,P1,hc,h6,hl,hi,ed,d0,λud H4 b1 s4=>?_]];let t8:=Y.trans (ae.tm s4);refine#[_,Z,M,r,dx,ex,cA,lA,pA,R,t+J.size,L1,Cs,aR (canon c.M) hs,ud,e,ys,ds,ns,xs,x,Z,UK,w6.same s4,w7,w8,hP.mono t8,b1,d0.mono$ ae.tm s4,gk,?_,λw uw L' H5 e7 hw o1 ft d1 R5 l5 t5 k5=>I _ _ ?_,?_]
  .cases e with
   |ask=>trivial
   |st p0 l=>cases l<;>first |trivial |exact hP.cs hd _ e5
  .clear I;let K5:a6 r lA H3 H5:=(a6.of_same s4).trans k5;let t4:ai H3 H5:=w6.tm K5;let g5:=t4 _ _ h5;let w0:H5 S=δ (.lst O):=K5 _ _ s0 s3 w1;let l3:=JA w3 w2;refine aj λF1 I=>#[_,Z,.inl #[Z,_,aJ.of w0],ju g5 Z$ ju g5 Z #[_,Z,fq,λN n3=>?_]];let s6:ae H5 (af H5 N$ .tup [.int (n:Int),.ref B,uw]):=jf n3;let e6:af H5 N (.tup [.int (n:Int),.ref B,uw]) N=δ (.tup [.int (n:Int),.ref B,uw]):=jc;refine#[S,_,_,Z,Z,s6 _ _ w0,UK,I _ _ ?_];clear I;generalize af H5 N (.tup [.int (n:Int),.ref B,uw])=H6 at s6 e6;let b7:aD S H6 (af H6 S$ .lst$ O++[.ref N]):=λb o nb e=>by rw[ji nb];exact e
   let t2:ai H6 (af H6 S$ .lst$ O++[.ref N]):=λb xs e=>b7 _ _ (jO e (s6 _ _ w0) (by intro z;cases z)) e;let w':af H6 S (.lst$ O++[.ref N]) S=δ (.lst$ O++[.ref N]):=jc;generalize af H6 S (.lst$ O++[.ref N])=H7 at b7 t2 w';let t0:ai H5 H7:=λb xs e=>t2 _ _ (s6 _ _ e);let y:ai H3 H7:=t4.trans t0;let D:w.wh.side < c.ws.length:=by
    rw[c1.v.len,<- ed];cases e with
    |ask ta T=>show _ < 2;unfold Wh.side;split<;>(try split)<;>omega
    |st p0 l=>show _ < 1;cases w<;>first |exact Nat.one_pos |exact o1.elim | (cases l<;>exact ft.elim)
   obtain⟨G,h0⟩:∃G,c0[w.wh.side]?=δ G:=#[_,ib (by rw[l0];exact D)];let⟨e2,h'⟩:=b0 _ _ G (ib D) h0;let sv:lv H7 nA d ys v N n B uw c hs w.wh e G:=#[P1.mono y,t2 _ _ e6,hc,y _ _ h6,hl,hi,(GU o1 hw).mono t0,ed,d0.mono y,ft,by rw[e2];exact ib D,h'.mono y];let b2:dO (O++[rs N]) (-1)=↑N:=BM;refine#[_,Z,_,Z,_,Z,S,_,_,_,Z,Z,aJ.of w',b2,v,uw,N,B,n,d,ys,c,hs,w.wh,e,G,Z,sv,λu2 H8 b3 s8=>?_];let t7:=ae.tm s8;let t9:=y.trans t7;let g1:=QX (H:=H7) b3 (qd sv.wdv.sets$ Yi ft gk) sv.wdv.goal;let e8:nV g #[canon c.M,e,c0] hs w.wh=eS (nU g) (b8 G.sets$ oi e w.wh$ aR (canon c.M) hs) G.goal:=by show(match c0[w.wh.side]? with |some wd=>eS (nU g) (b8 wd.sets$ oi e w.wh$ aR (canon c.M) hs) wd.goal |none=>Gd.give 0)=_;rw[h0]
   rw[pr.nms,<- e8]at g1;rw[e7]at W;let W:OC.pre J ((eB M (aK M x Cs j) Cs g m (nV g #[canon c.M,e,c0] hs w.wh) L'$ t+J.size+1+w.size).cons (n:Int) hs w)=U:=W;rw[XJ _ w3]at W;let s7:=KA (n:=(n:Int)) (hs:=hs) (w:=w) w3;let R7:Rn H7 C r dx ex cA lA pA M (t+J.size+1+w.size) L' Cs:=#[b7 _ _ (Ne.symm s0)$ s6 _ _ R5.ins,b7 _ _ (Ne.symm s3)$ s6 _ _ R5.lf,b7 _ _ s9$ s6 _ _ R5.ce,R5.iL,R5.iC,R5.cl,R5.tl,R5.hm];let ez:t+J.size+1+w.size=t+(Sk.put (n:Int) hs w J).size:=by rw[s7];omega
   rw[ez]at R7 l5 t5 W;refine fE (kk - (w.size+1)) _ _ UK #[_,u2,_,m,Sk.put (n:Int) hs w J,O++[.ref N],L',Z,s8 _ _ w',(uP (t2 _ _ e6) (y _ _ h6) (hw.mono t0) w3$ w2.mono y).mono t7,Q6 o1 w3,?_,g1,R7.same s8,l5,t5,?_,by rw[s7];omega,W,UK]
   .let:=Q7 (n:=(n:Int)) (hs:=hs) (w:=w) (j:=j) d1 w3 UK;omega
   .intro b o n1 n2 e;exact s8 _ _$ b7 _ _ (jl e X)$ s6 _ _$ K5 _ _ n1 n2$ w9 _ _ n1 n2 e
  .exact ie.next ((t3.imp (λz=>by rw[z]at W;exact W.symm) (λz=>by rw[z]at W;exact W.symm)).mono λH5 kk=>λb o n1 n2 nx e=>kk b o n1 n2 nx (s4 _ _$ w9 _ _ n1 n2 e))
inductive pM(f e l:η)(o:List V)(H:Hp)(Q:VK)(E:XK):Prop
 |mk(M:Nat)(n g h:η)(i:Nat)(c:aO)(d:Df)(j:List Df)(m:List Nat)(p:List V)(b:List cq)(k:List Int)(_:o=[.ref n,.str d.f,.ref g,.ref h,.int (M:Int)])(_:M<=1000)(_:Ps H l n j m p b)(_:j[i]?=δ d)(_:m[i]?=δ k.length)(_:H g=δ (.tup (k.map rm)))(_:∀z∈k,eP z)(_:H h=δ (.dK c))(_:GT c)(_:∀(u:V) (sk:Sk) (a:Int) (L':aO) (H':Hp),aK M b c 16 d.f k [] 0= .ok sk a L' sk.size->h9 H' d.f k sk a u->sk.ok ν->sk.dep<=15->sk.size<=M->ae H H'->Q u H')(_:ie (aK M b c 16 d.f k [] 0= .long) (aK M b c 16 d.f k [] 0= .deep) E f e (Kp H))
theorem yA(h:aP H (eY n d) v []):∃p r,v= .ref p/\H p=δ (.tup (.str d.f:: .ref d.pa::r)):=by obtain⟨_,a,x,rfl,b,_,_,c,y,rfl,⟨rfl,_⟩,_,_,e,Y,rfl,⟨rfl,_⟩,_⟩:=h;exact#[a,_,Z,b]
theorem CP:ah P w K mg base (c7 P w) k f c z14z (dS C T b N 0):=by
 let n:∀{V H Q E},¬dS C T b N 0 V H Q E:=by rintro V H Q E ⟨M,r,e,g,j,l,m,q,D,t,i,L,Cs,v,d,u,x,X,p,I,_,_,z,_⟩;omega
 exact#[λV H Q E h=>(n h).elim,λA o s H a U V Q E y B F G h=>(n h).elim]
theorem BN(d:RK K C)(F:aQ K "chain_of" "BookRun.chain_of" yP k f)(B:aw K f z14z [])(m:a8 K C "chain_of" k)(l:aQ K "what_of" "BookRun.what_of" yQ D e)(o:aw K e z11z [])(M:a8 K C "what_of" D)(p:Cl P w K mg base 9 Q E ["part","args"] (gq n) "first_of")(q:Cl P w K mg base 9 U H z8z (dU n) "deed_at")(r:Cl P w K mg base 9 Y I ["part","step"] (oK n) "onward")(GT:ah P w K mg base (c7 P w) 1 J g ["self"] (eK C T))(s:aw K g ["self"] [])(a:a8 K C "take_turn" J)(G:ah P w K mg base aE 1 L h ["self","cell"] (eO C))(t:aw K h ["self","cell"] [])(b:a8 K C "number_in" L)(u:ah P w K mg base (c7 P w) 1 v i ["deep"] (di N))(x:aw K i ["deep"] [])(y:fz K (.ref v)=ν)(z:mg "deeper"=↑v)(A:Cl P w K mg base 2 fP O ["parts","f"] iT "part_of")(c:mg "tuple"=θ):∀j,ah P w K mg base (c7 P w) (2*j+12) k f z14z (dS C T N n j)
 |0=>CP
 |j+1=>CW F d p q r (uj l d GT s a G t b u x y z A (BN d F B m l o M p q r GT s a G t b u x y z A c j) B m) o M c
theorem Bm:ak ["parts","f","args","cells","most","part"] z27z (aa DO):=bJ
theorem Db(F:rx K "run" DO f fd)(ck:RK K C)(mk:Mk K C fI)(GI:ah P w K mg base aE 2 fI y z6z (gQ C))(bI:aw K y z6z [])(mC:mg "BookRun"=↑C)(cB:Cl P w K mg base 2 fB f0 ["ones","f","args"] iw "begun")(GA:ah P w K mg base (c7 P w) 44 fA B z14z (dS C TL TD nA 16))(bA:aw K B z14z [])(G:a8 K C "chain_of" fA):ah P w K mg base (c7 P w) 45 f fd z27z (pM TL TD nA):=by
 refine F.ok1 Bm λc0 A O s H vs Q E I h=>?_
 let⟨M,g,J,j,i,Cs,d,ds,ns,X,k,is,rfl,hM,x,L,hn,ha,R,t,T,q,U⟩:=h;refine#[_,(jd (jy 5 Bm.nd$ cB.e I.m$ ja (pv 0)$ ja (pv 1)$ ja (pv 2) jb)$ jg$ jo$ j7 (Q0 mk GI I.m Z mC bI .nil bH$ ja (pv 0)$ ja (pv 3)$ ja (pv 4) jb) ck.cl G GA I.m bA .nil j5$ ja (pv 5)$ ja (pv 2)$ ja je jb),?_];let⟨v,hv,tv,h0,V⟩:=x.at L;let⟨p,pr,rfl,hp⟩:=yA tv;let⟨ps,W,h1,_⟩:=x.pa.2 i d _ L hn;refine aj λF1 f1=>#[_,Z,_,Z,_,Z,g,J,d.f,X,_,i,.ref p,p,d.pa,pr,_,Z,x.at',hv,Z,hp,W,ha,by rw[Lw,Lw];omega,V,f1 _ _ ?_];clear f1;refine#[_,Z,_,Z,_,Z,λr D N nd ne=>?_];let s0:ae H (af (af H D$ .own r) r$ .ins C D []):=λc o e=>by rw[ji$ jl e N,ji$ jl e nd];exact e
 refine#[r,D,g,j,M,Z,jc,λl Y=>#[Z,?_]];let n0:l≠r:=λe=>by rw[e,jc]at Y;cases Y
 let n:H l=θ:=by
  cases z:H l with
  |none=>rfl
  |some o=>have:=s0 _ _ z;rw[Y]at this;cases this
 let S:ae H (af (af (af (af H D$ .own r) r$ .ins C D []) l$ .dK []) r$ .ins C D$ c8 [] j l g M 0):=λc o e=>by rw[ji$ jl e N,ji$ jl e n];exact s0 _ _ e
 let R1:Rn (af (af (af (af H D$ .own r) r$ .ins C D []) l$ .dK []) r$ .ins C D$ c8 [] j l g M 0) C r D [] j l g M 0 [] Cs:=#[jc,by rw[ji n0];exact jc,S _ _ t,GT.nil,T,jl t n,Tl.nil,UK];generalize af (af (af (af H D$ .own r) r$ .ins C D []) l$ .dK []) r (.ins C D$ c8 [] j l g M 0)=H1 at S R1;let t0:=ae.tm S;refine#[r,D,_,Z,R1.ins,Z,_,Z,_,Z,M,r,D,[],j,l,g,J,0,0,i,[],Cs,.ref p,d,ds,ns,X,k,is,Z,Z,UJ,R1,Lx _,LF _,x.mono t0,L,hn,hv,S _ _ ha,R,λu sk a L' H2 eq hc ok dp ia R2 l2 t2 k2=>?_,ie.next$ U.mono λH' kk=>λb o nx e=>kk b o (jl e N) (jl e n) nx (S _ _ e)];exact q u sk a L' H2 (by rw[O0]at eq;exact eq) hc ok UK UK λc o e=>k2 c o (jl e N) (jl e n) (S _ _ e)
noncomputable def nW:Sk->Tr
 | .nil=>.nil
 | .st n h w r=>.cons (aB [ay n,aB (h.map ay),nW w]) (nW r)
 | .ask b=>aB [aN "ask",ay b]
 | .rd c i=>aB [aN "read",ay c,ay i]
 | .wr c i=>aB [aN "write",ay c,ay i]
 | .cl f I s a=>aB [aN "call",aB [aN f,aB (I.map ay),.tp (nW s),ay a]]
theorem Y4:∀{b:Bool} {s:Sk},s.ok b->(nW s).isL=b
 |true,.nil,_=>rfl
 |true,.st _ _ _ _,_=>rfl
 |false,.cl _ _ _ _,_=>rfl
 |false,.ask _,_=>rfl
 |false,.rd _ _,_=>rfl
 |false,.wr _ _,_=>rfl
theorem qS{H:Hp}{a:List Int}(e:H h=δ (.tup$ a.map rm)):aP H (aB$ a.map ay) (.ref h) []:=jD e J6
theorem Y5:∀{b:Bool} {s:Sk} {u:V} {X:List V},s.ok b->eL H s u X->(b=μ->X=[])->(b=ν->u= .non)->aP H (nW s) u X
 |true,.nil,_,_,_,h,_,_=>h
 |true,.st n t w r,_,_,o,q,_,z=>by let⟨p,h,u,y,e,d,j,k,l⟩:=q;rw[e,z Z];exact#[Z,Y4 o.2,_,_,Z,jD d$ jm Z jV$ jm Z (qS j)$ jm (Y4 o.1) (Y5 o.1 k (λ_=>Z) (λx=>nomatch x)) jC,Y5 o.2 l (λx=>nomatch x) (λ_=>Z)]
 |false,.ask b,_,_,_,q,z,_=>by let⟨p,e,h⟩:=q;rw[e,z Z];exact jD h (jm Z jR (jm Z jV jC))
 |false,.rd c i,_,_,_,q,z,_=>by let⟨p,e,h⟩:=q;rw[e,z Z];exact jD h (jm Z jR (jm Z jV (jm Z jV jC)))
 |false,.wr c i,_,_,_,q,z,_=>by let⟨p,e,h⟩:=q;rw[e,z Z];exact jD h (jm Z jR (jm Z jV (jm Z jV jC)))
 |false,.cl f I s a,_,_,o,q,z,_=>by let⟨p,c,g,e,S,E,d,j,k,l,m⟩:=q;rw[E,z Z];exact jD d$ jm Z jR$ jm Z (jD j$ jm Z jR$ jm Z (qS k)$ jm Z #[Y4 o,e,S,Z,l,Y5 (b:=ν) o m (λx=>nomatch x) (λ_=>Z)] (jm Z jV jC)) jC
theorem zW:∀i:List Int,(aH$ i.map ay).dep=0
 | []=>rfl
 |_::i=>by show max 0 (aH (i.map ay)).dep=0;rw[zW i];rfl
theorem QY:∀{b:Bool} {s:Sk},s.ok b->(nW s).dep<=4*s.dep+(if b=ν then 2 else 1)
 |true,.nil,_=>LF _
 |true,.st n H w r,o=>by let h:=QY (b:=μ) (s:=w) o.1;let c:=QY (b:=ν) (s:=r) o.2;let d:=zW H;let h:(nW w).dep<=4*w.dep+1:=h;let c:(nW r).dep<=4*r.dep+2:=c;show max (max 0 (max ((aH$ H.map ay).dep+1)$ max (nW w).dep 0)+1) (nW r).dep<=4*max w.dep r.dep+2;omega
 |false,.ask _,_=>Lx 1
 |false,.rd _ _,_=>Lx 1
 |false,.wr _ _,_=>Lx 1
 |false,.cl f i s a,o=>by let h:=QY (b:=ν) (s:=s) o;let d:=zW i;let h:(nW s).dep<=4*s.dep+2:=h;show max 0 (max (max 0 (max ((aH$ i.map ay).dep+1)$ max ((nW s).dep+1)$ max 0 0)+1) 0)+1<=4*(s.dep+1)+1;omega
noncomputable def HK(f:ρ)(i:List Int)(s:Sk)(a:Int):Tr:=aH [aN f,aB$ i.map ay,.tp$ nW s,ay a]
theorem Y6(h:h9 H f i s a u)(o:s.ok ν):aP H (.tp$ HK f i s a) u []:=by let⟨c,g,e,S,rfl,d,j,k,l⟩:=h;exact jD d$ jm Z jR$ jm Z (qS j)$ jm Z #[Y4 o,e,S,Z,k,Y5 (b:=ν) o l (λx=>nomatch x) (λ_=>Z)] (jm Z jV jC)
theorem sH{s:Sk}(o:s.ok ν)(d:s.dep<=15):(HK f i s a).dep < 100:=by let h:=QY (b:=ν) (s:=s) o;let H:=zW i;let h:(nW s).dep<=4*s.dep+2:=h;show max 0 (max ((aH$ i.map ay).dep+1)$ max ((nW s).dep+1)$ max 0 0) < 100;omega
theorem Dr{p:List ρ}{v:V}(h:mP H N d y v)(g:H d.pa=δ (.tup$ p.map ri)):∃q,wZ H N d y q:=by
 let⟨W,E,i⟩:=h.way;let⟨a,J,L,O,rfl,Q,m,r,j⟩:=h.parts;let⟨C,s,t⟩:=xj (R:=λc u=>Ew H y N d c u) (bP N d) λc k=>by let⟨n,x,z⟩:=hJ.mp k;let⟨S,T,U,X,A,_,o⟩:=h.cut j (n:=n) (c:=c) (by rw[<- z];exact Ls x);let⟨e,B,D,F⟩:=EU o.v.deed;let⟨G,I,l⟩:=xj (R:=λ(w:Wy) (W:WD)=>W.wy N=w/\wO H y d.b.cuts d.b.size W) c.ws λw m=>o.v.ways w m;exact#[#[canon c.M,e,G],Z,B,D,F,I,l]
 exact#[#[d.f,p,W,C],Z,g,E,i,s,t]
theorem FR{H:Hp}{D:List Df}(a:H l=δ (.tup x))(T:aP H (aH$ D.map$ eY n) .non x)(g:∃z,b6 H D z)(o:nX D N)(j:j' H D N):∃p,Ps H n l D N x p:=by
 let L:=zp T;rw[Lw]at L;let⟨p,m,q⟩:=xj (R:=λd c=>∃y,(d.b.Ok y/\y.length<=20)/\wZ H n d y c) D λd e=>by
  let⟨i,r,E⟩:=hJ.mp e;let h:D[i]?=δ d:=by rw[<- E];exact Ls r
  let s:x[i]?=δ (x[i]'UK):=Ls _;let⟨t,k,u⟩:=qP T i _ s;rw[LK,h]at k;cases k;let⟨z,A⟩:=g;obtain⟨⟨y,Y,o⟩,_,S⟩:=(o.1 d e).1;let⟨C,f,_⟩:=j.v d e;let⟨c,B⟩:=Dr (v:=x[i]'UK) #[u,sS A h,o,Y,S] f;exact#[c,y,#[o,Y],B]
 exact#[p,a,T,g,o,j,m,q]
theorem XL{call:iz}{Cs:aO}(h:eB M call Cs p m (.give b) L t= .ok r a l T):r= .nil/\a=b/\l=L:=by
 cases m with
 |zero=>cases h
 |succ m=>cases h;exact#[Z,Z,Z]
theorem tN{call:iz}{Cs:aO}(h:eB M call Cs p m (.go n H) L t= .ok d a g i):∃c w l T r j,p.cs[n]?=δ c/\dX M call Cs (aR c.nm H) L t c.e= .ok w l T/\d= .st (n:Int) H w r/\eB M call Cs p j (nV p c H w.wh) l T= .ok r a g i:=by
 cases m with
 |zero=>cases h
 |succ m=>
  unfold eB at h;cases e:p.cs[n]? with
  |none=>rw[e]at h;cases h
  |some c=>
   rw[e]at h;dsimp only at h;cases E:dX M call Cs (aR c.nm H) L t c.e with
   |long |deep=>rw[E]at h;cases h
   |ok w l T=>
    rw[E]at h;dsimp only at h;cases f:eB M call Cs p m (nV p c H w.wh) l T with
    |long |deep=>rw[f]at h;cases h
    |ok r b _L k=>rw[f]at h;cases h;exact#[c,w,l,T,r,m,Z,E,Z,f]
theorem EX{call:iz}{Cs:aO}{w:Sk}(h:dX M call Cs k L t e= .ok w l T):t < M:=by
 by_cases z:t < M
 .exact z
 .rw[qf z]at h;cases h
end _K
namespace _K
open PySem PySem.Spec PyProof.Rows _L
variable {P:ψ}{w:bU}{K:β}{mg:ρ->Option ζ}{base:cJ}
noncomputable def CH:V->Bool
 | .int _=>ν
 | .str _=>ν
 |_=>μ
def _root_._L.Tr.In:Tr->Prop
 | .lf v=>CH v=ν
 | .tp l=>l.In
 | .nil=>True
 | .cons h t=>h.In/\t.In
def _root_._L.Tr.items:Tr->List Tr
 | .cons h t=>h::t.items
 |_=>[]
theorem QZ{H:Hp}:∀{t u:Tr} {x:V} {xs:List V},aP H t x xs->aP H u x xs->t.isL=u.isL->t.In->u.In->t=u
 | .lf v,.lf w,_,_,h,k,_,_,_=>by rw[<- h.1,<- k.1]
 | .lf v,.tp m,_,_,h,k,_,i,_=>by let⟨_,a,_,e,_⟩:=k;let E:=h.1;rw[e]at E;rw[<- E]at i;cases i
 | .tp l,.lf v,_,_,k,h,_,_,i=>by let⟨_,a,_,e,_⟩:=k;let E:=h.1;rw[e]at E;rw[<- E]at i;cases i
 | .tp l,.tp m,_,_,h,k,_,i,j=>by let⟨o,a,xs,e,p,q⟩:=h;let⟨r,b,Y,c,d,f⟩:=k;rw[e]at c;cases c;rw[p]at d;cases d;rw[QZ q f (o.trans r.symm) i j]
 | .nil,.nil,_,_,_,_,_,_,_=>rfl
 | .nil,.cons _ _,_,_,h,k,_,_,_=>by let⟨_,_,_,_,e,_⟩:=k;let h:_=[]:=h;rw[e]at h;cases h
 | .cons _ _,.nil,_,_,k,h,_,_,_=>by let⟨_,_,_,_,e,_⟩:=k;let h:_=[]:=h;rw[e]at h;cases h
 | .cons h t,.cons G T,_,_,k,s,_,i,j=>by let⟨A,B,y,Y,e,d,f⟩:=k;let⟨C,D,I,F,c,g,n⟩:=s;rw[e]at c;cases c;rw[QZ d g (A.trans C.symm) i.1 j.1,QZ f n (B.trans D.symm) i.2 j.2]
 | .lf _,.nil,_,_,_,_,z,_,_=>nomatch z
 | .lf _,.cons _ _,_,_,_,_,z,_,_=>nomatch z
 | .tp _,.nil,_,_,_,_,z,_,_=>nomatch z
 | .tp _,.cons _ _,_,_,_,_,z,_,_=>nomatch z
 | .nil,.lf _,_,_,_,_,z,_,_=>nomatch z
 | .nil,.tp _,_,_,_,_,z,_,_=>nomatch z
 | .cons _ _,.lf _,_,_,_,_,z,_,_=>nomatch z
 | .cons _ _,.tp _,_,_,_,_,z,_,_=>nomatch z
theorem qw:∀{l:Tr} {X:List V},l.isL=ν->l.In->aP H l .non X->X.length=l.items.length/\∀(j:Nat) (x:V),X[j]?=δ x->∃t,l.items[j]?=δ t/\t.isL=μ/\t.In/\t.dep<=l.dep/\aP H t x []
 | .nil,X,_,_,h=>by let h:X=[]:=h;rw[h];exact#[Z,λj x z=>by simp at z]
 | .cons a t,X,_,i,h=>by
  let⟨A,c,y,Y,e,k,d⟩:=h;subst e;let⟨L,f⟩:=qw c i.2 d;refine#[MO (·+1) L,λj x b=>?_];cases j with
  |zero=>cases b;exact#[a,Z,A,i.1,O7 _ _,k]
  |succ j=>let⟨u,g,m,n,o,p⟩:=f j x (by simpa using b);exact#[u,by simpa [_L.Tr.items] using g,m,n,LJ o$ OP _ _,p]
 | .lf _,_,z,_,_=>nomatch z
 | .tp _,_,z,_,_=>nomatch z
theorem XN:∀{l m:Tr} {x y:List V},l.isL=ν->m.isL=ν->aP H l .non x->aP H m .non y->(l=m↔l.items=m.items)
 | .nil,.nil,_,_,_,_,_,_=>#[λ_=>Z,λ_=>Z]
 | .nil,.cons _ _,_,_,_,_,_,_=>#[λz=>(nomatch z),λz=>(nomatch z)]
 | .cons _ _,.nil,_,_,_,_,_,_=>#[λz=>(nomatch z),λz=>(nomatch z)]
 | .cons a t,.cons b u,_,_,_,_,h,k=>by let⟨_,A,_,_,_,_,d⟩:=h;let⟨_,B,_,_,_,_,c⟩:=k;let i:=XN A B d c;refine#[λz=>by cases z;rfl,λz=>?_];let z:a::t.items=b::u.items:=z;injection z with e f;rw[e,i.mpr f]
 | .lf _,_,_,_,z,_,_,_=>nomatch z
 | .tp _,_,_,_,z,_,_,_=>nomatch z
 | .nil,.lf _,_,_,_,z,_,_=>nomatch z
 | .nil,.tp _,_,_,_,z,_,_=>nomatch z
 | .cons _ _,.lf _,_,_,_,z,_,_=>nomatch z
 | .cons _ _,.tp _,_,_,_,z,_,_=>nomatch z
open Classical in
def hZ(t u:Tr):Bool:=decide (t=u)
open Classical in
theorem zT(h:t=u):hZ t u=ν:=by unfold hZ;exact LX h
open Classical in
theorem zr(h:t≠u):hZ t u=μ:=by unfold hZ;exact LL h
def ls(l m:Tr)(j:Nat):Bool:=match l.items[j]?,m.items[j]? with
 |some t,δ u=>hZ t u
 |_,_=>ν
theorem XO{l m:Tr}(a:l.isL=ν)(b:m.isL=ν)(h:aP H l .non x)(k:aP H m .non y)(d:n=l.items.length)(E:N=m.items.length):((fr$ min n N).all (ls l m)&&n==N)=hZ l m:=by
 by_cases e:l=m
 .subst e;rw[zT Z,d,E,Pl,Bool.and_true,OH];intro j _;unfold ls;cases l.items[j]? with
  |none=>rfl
  |some t=>exact zT Z
 .rw[zr e];let f:l.items≠m.items:=λz=>e ((XN a b h k).mpr z);by_cases g:n=N
  .let z:(fr$ min n N).all (ls l m)=μ:=by rw[SI];intro z;rw[OH]at z;refine f$ PV UK λj i o=>?_;let:=z j (rb.mpr UK);unfold ls at this;rw[Ls i,Ls o]at this;exact Classical.byContradiction λc=>by let C:=zr c;dsimp only at this;rw[C]at this;cases this
   rw[z];rfl
  .rw[show(n==N)=μ from beq_eq_false_iff_ne.mpr g,Pf]
section
open PySem.SeqAt
variable {X:Cx}
theorem Fp{w:V}(H:CH v=ν)(h:CH w=ν)(R:aF v a)(r:aF w b):EqAt A s a b (hZ (.lf v)$ .lf w):=by
 cases v with
 |int i=>
  let⟨T,rfl⟩:=R;cases w with
  |int j=>
   let⟨t,rfl⟩:=r;let z:=TN (A:=A) (s:=s) i T j t;by_cases e:i=j
   .subst e;rw[Pl]at z;rw[zT Z];exact z
   .rw[beq_eq_false_iff_ne.mpr e]at z;rw[zr (λc=>e (by injection c with c;injection c))];exact z
  |str y=>let⟨t,rfl⟩:=r;rw[zr (λc=>by injection c with c;cases c)];exact EqAt.int_str _ _ _ _
  |_=>cases h
 |str i=>
  let⟨T,rfl⟩:=R;cases w with
  |str j=>
   let⟨t,rfl⟩:=r;let z:=TM (A:=A) (s:=s) i T j t;by_cases e:i=j
   .subst e;rw[Pl]at z;rw[zT Z];exact z
   .rw[beq_eq_false_iff_ne.mpr e]at z;rw[zr (λc=>e (by injection c with c;injection c))];exact z
  |int y=>let⟨t,rfl⟩:=r;rw[zr (λc=>by injection c with c;cases c)];exact EqAt.str_int _ _ _ _
  |_=>cases h
 |_=>cases H
theorem Ga(I:au X p σ H s)(n:Nat)(G:∀(t:Tr) {A:bS},t.dep<=n->A.units+n < cLine->t.In->t.isL=μ->∀{u:Tr} {x y:V},u.In->u.isL=μ->aP H t x []->aP H u y []->∀a b,aF x a->aF y b->EqAt A s a b (hZ t u)){l m:Tr}(hn:l.dep<=n)(hu:A.units+n+1 < cLine)(J:l.In)(L:m.In)(d:l.isL=ν)(f:m.isL=ν)(M:H g=δ (.tup i))(N:H B=δ (.tup o))(T:aP H l .non i)(q:aP H m .non o):RcAt A s (.ref g) (.ref B) (hZ (.tp l)$ .tp m):=by
 let⟨v,r,O,_⟩:=I.tuple (aC.of (K:=X.K) M);let⟨C,R,Q,_⟩:=I.tuple (aC.of (K:=X.K) N);let⟨S,U⟩:=qw d J T;let⟨W,Y⟩:=qw f L q;let z:=RcAt.tuples (A:=A) (e:=ls l m) (show s.heap.IsTuple g v.toArray from O) (show s.heap.IsTuple B C.toArray from Q) UK (λj h1 h2=>?_)
 .rw[XO d f T q (by rw[LA,<- r.length,S]) (by rw[LA,<- R.length,W])]at z;let E:hZ (.tp l) (.tp m)=hZ l m:=by
   by_cases c:l=m
   .rw[zT c,zT (by rw[c])]
   .rw[zr c,zr (λk=>c (by injection k))]
  rw[E];exact z
 .let la:=r.length;let lb:=R.length;let D:j < i.length:=by simp at h1;omega
  let h:j < o.length:=by simp at h2;omega
  let⟨u1,q1,r1⟩:=r.get (Ls D);let⟨u2,q2,r2⟩:=R.get (Ls h);let e1:v.toArray[j]=u1:=by let⟨_,e⟩:=ξ.mp q1;simpa using e
  let E:C.toArray[j]=u2:=by let⟨_,e⟩:=ξ.mp q2;simpa using e
  rw[e1,E];let⟨F,g1,g2,g3,g4,g5⟩:=U j _ (Ls D);let⟨u',k1,k2,k3,k4,k5⟩:=Y j _ (Ls h);let et:ls l m j=hZ F u':=by unfold ls;rw[g1,k1]
  rw[et];exact G F (A:=A.in1) UK (by show A.units+1+n < cLine;omega) g3 g2 k3 k2 g5 k5 _ _ r1 r2
theorem wA(I:au X z Y H s):∀(n:Nat) (t:Tr) {A:bS},t.dep<=n->A.units+n < cLine->t.In->t.isL=μ->∀{u:Tr} {x y:V},u.In->u.isL=μ->aP H t x []->aP H u y []->∀a b,aF x a->aF y b->EqAt A s a b (hZ t u):=by
 intro n;induction n with
 |zero=>
  intro t A k J i L u x y d g j h a b R r;cases t with
  |tp l=>exact absurd k (by show ¬l.dep+1<=0;omega)
  |nil |cons _ _=>cases L
  |lf v=>
   let⟨rfl,_⟩:=j;cases u with
   |nil |cons _ _=>cases g
   |lf w=>let⟨rfl,_⟩:=h;exact Fp i d R r
   |tp m=>
    let⟨_,B,M,rfl,o,_⟩:=h;cases r;let⟨W,N,C,_⟩:=I.tuple (aC.of (K:=X.K) o);rw[zr (λc=>by cases c)];cases x<;>first |cases i |skip
    .let⟨T,rfl⟩:=R;exact EqAt.int_tuple _ _ C UK
    .let⟨T,rfl⟩:=R;exact EqAt.str_tuple _ _ C UK
 |succ n D=>
  intro t A k J i L u x y d g j h a b R r;cases t with
  |nil |cons _ _=>cases L
  |lf v=>exact D (.lf v) (LF _) UK i L d g j h a b R r
  |tp l=>
   let⟨E,p,O,rfl,q,F⟩:=j;cases R;let⟨ia,Q,G,_⟩:=I.tuple (aC.of (K:=X.K) q);cases u with
   |nil |cons _ _=>cases g
   |lf w=>
    let⟨rfl,_⟩:=h;rw[zr (λc=>by cases c)];cases y<;>first |cases d |skip
    .let⟨T,rfl⟩:=r;exact Ts _ _ G UK
    .let⟨T,rfl⟩:=r;exact EqAt.tuple_str _ _ G UK
   |tp m=>
    let f:=id h;let⟨S,B,M,rfl,o,U⟩:=h;cases r;by_cases e:p=B
    .subst e;rw[zT$ QZ (H:=H) (t:=.tp l) (u:=.tp m) (x:=.ref p) (xs:=[]) #[E,p,O,Z,q,F] f Z i d];exact EqAt.same _
    .exact EqAt.of_refs e$ Ga I n D (by let:l.dep+1<=n+1:=k;omega) UK i d E S q o F U
inductive FV(d:Nat)(x y:V)(H:Hp)(Q:VK):Prop
 |mk(l m:Tr)(_:l.dep < d)(_:l.In)(_:m.In)(_:aP H (.tp l) x [])(_:aP H (.tp m) y [])(_:Q (.bl (hZ (.tp l) (.tp m))) H)
theorem Yk{d:Nat}(c:X.A.units+d+1 < cLine):eW X (compareOp .Eq) (FV d):=by intro p s n H x y v u Q I r R h;obtain⟨l,m,o,i,e,⟨f,a,z,rfl,g,t⟩,⟨j,b,B,rfl,k,T⟩,q⟩:=h;cases r;cases R;exact Ga I d (wA I d) UK c i e f j g k t T X.prog X.w _ _ #[.bl _,H,I,Z,q]
end
end _K
namespace _K
open PySem PySem.Spec PyProof.Rows _L
variable {P:ψ}{w:bU}{K:β}{mg:ρ->Option ζ}{base:cJ}
noncomputable abbrev DI:cv:=bK 31
noncomputable abbrev DJ:cv:=bK 36
theorem mO{w:V}:dO (v::u::w::y) 2=δ w:=jJ (j:=2) Z
theorem I0{w:V}:dO (v::u::w::z::y) 3=δ z:=jJ (j:=3) Z
noncomputable def gJ:Sk->Tr
 | .rd c _=>aB [aN "read",ay c]
 | .cl f I _ _=>aB [aN "call",aN f,aB (I.map ay)]
 | .wr c i=>aB [aN "write",ay c,ay i]
 | .ask b=>aB [aN "ask",ay b]
 |_=>.nil
theorem sQ{call:iz}{Cs:aO}{w:Sk}(h:dX M call Cs k L t e= .ok w i j):gJ w=wP k e:=by
 let b:=EX h;cases e with
 |ask d T=>rw[Kr b]at h;cases h;rfl
 |st p l=>
  cases l with
  |gv d T |st x d T=>unfold dX at h;rw[LP b]at h;cases h
  |rd x d T=>rw[Xl b]at h;cases h;rfl
  |wr d u T U=>rw[Xm b]at h;cases h;rfl
  |cl x f q g=>
   rw[zS b]at h;cases e:call f (g.map λc=>c.2.ev k) L (t+1) with
   |long |deep=>rw[e]at h;cases h
   |ok s a _L m=>rw[e]at h;cases h;show aB [_,_,aB ((g.map λc=>c.2.ev k).map ay)]=_;rw[Nt];rfl
inductive lJ(b:List V)(H:Hp)(Q:VK)(a:XK):Prop
 |mk(u:V)(w:Sk)(_:b=[u])(_:eL H w u [])(_:w.ok μ)(_:∀(v:V) (H':Hp),aP H' (gJ w) v []->ae H H'->Q v H')
inductive nB(j:List V)(H:Hp)(Q:VK)(b:XK):Prop
 |mk(f:ρ)(d:List Int)(s:Sk)(a:Int)(c g e:η)(i:List V)(k:Nat)(_:j=[.ref c,.int (k:Int)])(_:H c=δ (.tup [.str f,.ref g,.ref e,.int a]))(_:H e=δ (.tup i))(_:(∃(p h:η) (n:Int) (hs:List Int) (u:V),i[k]?=↑p/\H p=δ (.tup [.int n,.ref h,u])/\H h=δ (.tup (hs.map rm))/\∀(v:V) (H':Hp),aP H' (aB [aN "go",ay n,aB (hs.map ay)]) v []->ae H H'->Q v H')∨(k=i.length/\∀(v:V) (H':Hp),aP H' (aB [aN "give",ay a]) v []->ae H H'->Q v H'))
theorem Gg:ak ["what"] ["what"] (aa DI):=bJ
theorem C1(F:rx K "deed_in" DI f B):ah P w K mg base aE 1 f B ["what"] lJ:=by
 refine F.ok Gg λC A o s H V Q E l h=>?_
 let⟨u,w,rfl,m,t,q⟩:=h;refine#[_,(jd (jx (kc$ jz$ pv 0) (jg$ jo$ jK kO (pv 0) jW$ jG je) jp)$ jd (jx (kc$ jz$ pv 0) (jg$ jo$ jv j4 (jh$ ja jk jb)$ jK kO (jz$ pv 0) jW$ jG je) jp)$ jg$ jo$ pv 0),?_];cases w with
 |nil |st=>exact t.elim
 |ask b=>let⟨p,rfl,d⟩:=m;refine aj λk i=>(ju d Z #[Z,_,Z,aX UM$ i _ _ ?_]);clear i;refine aj λk i=>(ju d Z #[Z,_,Z,aX UM$ i _ _ ?_]);exact#[_,Z,q _ _ (jD d$ jm Z jR$ jm Z jV jC)$ ae.refl _]
 |wr b D=>let⟨p,rfl,d⟩:=m;refine aj λk i=>(ju d Z #[Z,_,Z,aX UM$ i _ _ ?_]);clear i;refine aj λk i=>(ju d Z #[Z,_,Z,aX UM$ i _ _ ?_]);exact#[_,Z,q _ _ (jD d$ jm Z jR$ jm Z jV$ jm Z jV jC)$ ae.refl _]
 |rd b D=>let⟨p,rfl,d⟩:=m;refine aj λk i=>(ju d Z #[Z,_,Z,ci UM #[_,Z,_,Z,p,_,Z,d,λr y l S=>q _ _ ?_ S]]);let l:y r=δ (.tup [.str "read",.int b]):=l;exact jD l$ jm Z jR$ jm Z jV jC
 |cl f R s a=>let⟨p,c,g,e,T,rfl,d,G,I,U,W⟩:=m;refine aj λk i=>(ju d Z #[Z,_,Z,aX UM$ i _ _ ?_]);clear i;refine aj λk i=>(ju d Z #[Z,_,Z,ci UM #[i8,λJ n=>(ju (ar d n) lR #[_,Z,c,_,Z,ar G n,λL y v S=>#[J,L,_,_,Z,Z,S _ _ jc,v,fq,λM N j z=>q _ _ ?_ (((jf n).trans S).trans z)]])]]);let j:N M=δ (.tup [.str "call",.str f,.ref g]):=j;exact jD j$ jm Z jR$ jm Z jR$ jm Z (qS$ z _ _$ S _ _$ ar I n) jC
theorem Gh:ak ["chain","number"] ["chain","number"] (aa DJ):=bJ
theorem C2(F:rx K "goal_at" DJ f x)(M:mg "len"=θ):ah P w K mg base aE 1 f x ["chain","number"] nB:=by
 refine F.ok Gh λC A o s H V Q E U h=>?_
 let⟨f,I,s,a,c,g,e,y,k,rfl,d,l,q⟩:=h;refine#[_,(jd (jx (jA qo (pv 1) (jF jN Z M ME$ ja (jz$ pv 0) jb)$ aG _) (jg$ jo$ jh$ ja jk$ ja (jz$ pv 0) jb) jp)$ jg$ jo$ jv j4 (jh$ ja jk jb)$ jK kO (jr jM (jz$ pv 0) (pv 1) (λ_ _=>Z)) jW$ jG je),?_];let B:=aI;refine aj λX m=>#[_,Z,ju d mO #[e,_,Z,.inr$ aC.of l,Z,_,Z,?_]];rcases q with ⟨p,h,n,Y,u,r,D,G,q⟩ | ⟨J,q⟩
 .let L:=(ξ.mp r).1;refine aX (LL λz=>?_)$ m _ _ ?_
  .injection z with z;omega
  clear m;refine#[i8,λt N=>(ju (ar d N) mO #[_,Z,e,_,_,_,Z,Z,aC.of$ ar l N,jJ r,_,Z,p,_,Z,ar D N,λO H1 i S=>#[t,O,_,_,Z,Z,S _ _ jc,i,fq,λR T b v=>q _ _ ?_ (((jf N).trans S).trans v)]])];let b:T R=δ (.tup [.str "go",.int n,.ref h]):=b;exact jD b$ jm Z jR$ jm Z jV$ jm Z (qS$ v _ _$ S _ _$ ar G N) jC
 .subst J;refine ci (LX Z)$ ju d I0 #[bL,λt N=>q _ _ (jD jc$ jm Z jR$ jm Z jV jC) (jf N)]
noncomputable abbrev y4:cv:=bK 11
noncomputable abbrev y6:cv:=bK 12
noncomputable abbrev yV:cv:=bK 13
abbrev gG:=List Int
abbrev eX:=Int×List Int×Sk
abbrev RA(a:Type):=Hp->V->a->Prop
def gF{a:Type}(R:RA a)(H:Hp):List a->List V->Prop
 | [],v=>v=[]
 |w::W,v=>∃x r,v=x::r/\R H x w/\gF R H W r
def Ht{a:Type}(R:RA a):Prop:=∀(H h:Hp) (x:V) (w:a),ai H h->R H x w->R h x w
section
variable {α:Type}{R:RA α}
theorem gF.mono(a:Ht R)(k:ai H b):∀{W:List α} {v:List V},gF R H W v->gF R b W v
 | [],_,h=>h
 |_::_,_,z=>by let⟨x,r,e,c,d⟩:=z;exact #[x,r,e,a _ _ _ _ k c,gF.mono a k d]
theorem gF.app(a:gF R H b y):∀{W:List α} {v:List V},gF R H W v->gF R H (W++b) (v++y)
 | [],_,h=>by let e:_=[]:=h;rw[e];exact a
 |_::_,_,z=>by let⟨x,r,e,c,d⟩:=z;exact #[x,r++y,by rw[e];rfl,c,gF.app a d]
theorem gF.len:∀{W:List α} {v:List V},gF R H W v->v.length=W.length
 | [],_,h=>by let e:_=[]:=h;rw[e];rfl
 |_::_,_,z=>by let⟨x,r,e,b,a⟩:=z;rw[e];exact MO (·+1) (gF.len a)
theorem gF.at:∀{W:List α} {v:List V},gF R H W v->∀{i:Nat} {x:V},v[i]?=δ x->∃w,W[i]?=δ w/\R H x w
 | [],_,h,i,x,a=>by let e:_=[]:=h;rw[e]at a;simp at a
 |w::_,_,q,0,x,a=>by let⟨y,r,e,b,c⟩:=q;rw[e]at a;cases a;exact#[w,Z,b]
 |w::W,_,q,i+1,x,a=>by let⟨y,r,e,b,c⟩:=q;rw[e]at a;exact gF.at c (i:=i) (by simpa using a)
theorem gF.map{a:Type}{S:RA a}{g:α->a}{f:V->V}(h:∀x w,R H x w->S H (f x) (g w)):∀{W:List α} {v:List V},gF R H W v->gF S H (W.map g) (v.map f)
 | [],_,e=>by let e:_=[]:=e;rw[e];rfl
 |_::_,_,z=>by let⟨x,r,e,b,c⟩:=z;exact #[f x,r.map f,by rw[e];rfl,h _ _ b,gF.map h c]
end
def AC:RA gG:=λH x p=>∃a,x= .ref a/\H a=δ (.tup$ p.map rm)
theorem lF:Ht AC:=λ_ _ _ _ k #[a,e,h]=>#[a,e,k _ _ h]
def EJ:RA (gG×Sk):=λH x w=>∃q p u,x= .ref q/\H q=δ (.tup [.ref p,u])/\H p=δ (.tup$ w.1.map rm)/\eL H w.2 u []
theorem oX:Ht EJ:=λ_ _ _ _ k #[q,p,u,e,h,H,a]=>#[q,p,u,e,k _ _ h,k _ _ H,a.mono k]
noncomputable def Sk.steps:Sk->List eX
 | .st n h w r=>(n,h,w)::r.steps
 |_=>[]
noncomputable def Sk.ws:Sk->gG->Nat->List (gG×Sk)
 | .st _ _ w r,p,k=>((p++[(k:Int)],w)::w.ws (p++[(k:Int)]) 0)++r.ws p (k+1)
 | .cl _ _ s _,p,_=>s.ws p 0
 |_,_,_=>[]
noncomputable def si:List eX->gG->Nat->List (gG×Sk)
 | [],_,_=>[]
 |s::r,p,k=>((p++[(k:Int)],s.2.2)::s.2.2.ws (p++[(k:Int)]) 0)++si r p (k+1)
theorem Yl:∀{s:Sk},s.ok ν->∀p k,s.ws p k=si s.steps p k
 | .nil,_,_,_=>rfl
 | .st _ _ w r,o,p,k=>by show _++r.ws p (k+1)=_++si r.steps p (k+1);rw[Yl o.2]
theorem J9:∀(a b:List eX) (p:gG) (k:Nat),si (a++b) p k=si a p k++si b p (k+a.length)
 | [],_,_,_=>rfl
 |s::a,b,p,k=>by show _++si (a++b) p (k+1)=(_++si a p (k+1))++si b p (k+(a.length+1));rw[J9 a b,PH,show k+1+a.length=k+(a.length+1) by omega]
theorem qT:∀{b:Bool} {s:Sk},s.ok b->∀(p:gG) (k:Nat),(s.ws p k).length=s.size
 |true,.nil,_,_,_=>rfl
 |true,.st _ _ w r,o,p,k=>by let h:=qT (b:=μ) (s:=w) o.1 (p++[(k:Int)]) 0;let H:=qT (b:=ν) (s:=r) o.2 p (k+1);show(((p++[(k:Int)],w)::w.ws (p++[(k:Int)]) 0)++r.ws p (k+1)).length=w.size+r.size+1;rw[Ly,Md,h,H];omega
 |false,.cl _ _ s _,o,p,_=>qT (b:=ν) (s:=s) o p 0
 |false,.ask _,_,_,_=>rfl
 |false,.rd _ _,_,_,_=>rfl
 |false,.wr _ _,_,_,_=>rfl
theorem Ef(a:List eX)(i:Nat)(p:gG)(k:Nat):(si (a.take i) p k).length<=(si a p k).length:=by let:=MO List.length (J9 (a.take i) (a.drop i) p k);rw[O8,Ly]at this;omega
theorem z9:∀{s:Sk} {S:List V},s.ok ν->eL H s .non S->∀{i:Nat} {x:V},S[i]?=δ x->∃n b w p h u,s.steps[i]?=δ (n,b,w)/\w.ok μ/\w.dep<=s.dep/\w.size+1<=s.size/\x= .ref p/\H p=δ (.tup [.int n,.ref h,u])/\H h=δ (.tup$ b.map rm)/\eL H w u []
 | .nil,_,_,e,i,x,a=>by let e:_=[]:=e;rw[e]at a;simp at a
 | .st n b w r,_,o,q,0,x,a=>by let⟨p,h,u,y,e,d,f,g,j⟩:=q;rw[e]at a;cases a;exact#[n,b,w,p,h,u,Z,o.1,O7 _ _,by show w.size+1<=w.size+r.size+1;omega,Z,d,f,g]
 | .st n b w r,_,o,q,i+1,x,a=>by let⟨p,h,u,y,e,d,f,g,j⟩:=q;rw[e]at a;let⟨N,c,W,k,l,U,t,T,m,z,v⟩:=z9 o.2 j (i:=i) (x:=x) (by simpa using a);exact#[N,c,W,k,l,U,t,T,LJ m$ OP _ _,by show W.size+1<=w.size+r.size+1;omega,v]
theorem zK:∀{s:Sk} {S:List V},s.ok ν->eL H s .non S->S.length=s.steps.length
 | .nil,_,_,e=>by let e:_=[]:=e;rw[e];rfl
 | .st n b w r,_,o,z=>by let⟨p,h,u,y,e,c,d,f,a⟩:=z;rw[e];exact MO (·+1) (zK o.2 a)
theorem HJ(p:gG)(k:Nat):p.map rm++[rm (k:Int)]=(p++[(k:Int)]).map rm:=by rw[Mc];rfl
inductive nK(n:Nat)(d:List V)(H:Hp)(Q:VK)(a:XK):Prop
 |mk(b:η)(c:gG)(w:Sk)(u:V)(_:d=[.ref b,u])(_:H b=δ (.tup (c.map rm)))(_:c.length+n<=100)(_:eL H w u [])(_:w.ok μ)(_:w.dep < n)(_:w.size<=1000)(_:∀(r:η) (xs:List V) (H':Hp),H r=θ->H' r=δ (.lst xs)->gF EJ H' ((c,w)::w.ws c 0) xs->ae H H'->Q (.ref r) H')
inductive iY(n:Nat)(g:List V)(H:Hp)(Q:VK)(b:XK):Prop
 |mk(d:η)(e:gG)(f:ρ)(c:List Int)(s:Sk)(a:Int)(u:V)(_:g=[.ref d,u])(_:H d=δ (.tup (e.map rm)))(_:e.length+n+1<=100)(_:h9 H f c s a u)(_:s.ok ν)(_:s.dep < n)(_:s.size<=1000)(_:∀(r:η) (xs:List V) (H':Hp),H r=θ->H' r=δ (.lst xs)->gF EJ H' (s.ws e 0) xs->ae H H'->Q (.ref r) H')
inductive IP(h k:η)(j:gG)(u:V)(s:Sk)(H:Hp)(i:Nat)(m:_L.St)(a:Hp):Prop
 |mk(f g:Option V)(l:List V)(b:m=[↑h,δ u,↑k,f,g])(c:a k=δ (.lst l))(d:gF EJ a (si (s.steps.take i) j 0) l)(e:ae H a)
noncomputable def Dy(p:gG)(w:Sk):List gG:=p::(w.ws p 0).map (·.1)
inductive nH(n:Nat)(d:List V)(H:Hp)(Q:VK)(a:XK):Prop
 |mk(b:η)(c:gG)(w:Sk)(u:V)(_:d=[.ref b,u])(_:H b=δ (.tup (c.map rm)))(_:c.length+n<=100)(_:eL H w u [])(_:w.ok μ)(_:w.dep < n)(_:w.size<=1000)(_:∀(r:η) (xs:List V) (H':Hp),H r=θ->H' r=δ (.lst xs)->gF AC H' (Dy c w) xs->ae H H'->Q (.ref r) H')
noncomputable def rg(H:Hp):V->V
 | .ref q=>match H q with
  |some (.tup (x::_))=>x
  |_=>.non
 |_=>.non
theorem Ji(l:List V):(fr l.length).map (λi=>(l[i]?).getD .non)=l:=by refine PV UL λi H h=>?_;simp [Ls h]
theorem AT{H:Hp}(h:H q=δ (.tup [.ref p,u])):rg H (.ref q)= .ref p:=by show(match H q with |some (.tup (x::_))=>x |_=>V.non)=_;rw[h]
theorem Bo:ak ["path","what","within"] z9z (aa y4):=bJ
theorem uB{n:Nat}(F:rx K "whats_at" y4 f fd)(cI:Cl P w K mg base (2*n+2) fI f0 ["path","chain"] (iY n) "whats_in"):ah P w K mg base aE (2*n+3) f fd z9z (nK$ n+1):=by
 refine F.ok Bo λc0 A O s H vs Q E hr h=>?_
 let⟨j,v,w,u,rfl,U,h0,D,k,W,hz,q⟩:=h;refine#[_,(jd (jy 2 Bo.nd$ kr (kc$ jz$ pv 1) (cI.e hr.m$ ja (pv 0)$ ja (jz$ pv 1) jb)$ jI jb)$ jg$ jo$ jv qr (jI$ ja (jh$ ja (pv 0)$ ja (pv 1) jb) jb)$ pv 2),?_];let b0:=aI;let fl:=qT k v 0;refine aj λF1 G=>?_;suffices X:∀(l:η) (x:List V) (d:Hp),d l=δ (.lst x)->gF EJ d (w.ws v 0) x->ae H d->F1 [↑j,δ u,↑l] d by
  clear G;cases w with
  |nil |st=>exact k.elim
  |ask b |rd c i |wr c i=>let⟨p,rfl,y⟩:=D;exact(ju y Z #[Z,_,Z,aX UM #[lN,λl Y=>X l [] _ jc Z (jf Y)]])
  |cl f is s a=>let⟨p,c,g,e,ss,rfl,y,h2,h3,h4,h5⟩:=D;let W:s.dep+1 < n+1:=W;exact(ju y Z #[Z,_,Z,ci UM #[_,Z,ju y Z #[j,v,f,is,s,a,.ref c,Z,U,UK,#[c,g,e,ss,Z,h2,h3,h4,h5],k,UK,hz,λl x d Y I B S=>X l x d I B S]]])
 intro l x d I B S;refine G _ _ ?_;clear G;let lx:=B.len;refine#[_,Z,_,Z,bL,λt J=>#[i8,λL N=>#[_,Z,L,l,_,_,Z,Z,jc,ar (ar I J) N,by show 1+x.length<=_;omega,λr M=>?_]]];let C:ae d (af (af (af d t$ .tup [.ref j,u]) L$ .lst [.ref t]) r$ .lst ([.ref t]++x)):=((jf J).trans$ jf N).trans (jf M);let ht:af (af (af d t$ .tup [.ref j,u]) L$ .lst [.ref t]) r (.lst ([.ref t]++x)) t=δ (.tup [.ref j,u]):=ar (ar jc N) M;let R:H r=θ:=by
  cases z:H r with
  |none=>rfl
  |some o=>have:=((jf (o:=.lst [.ref t]) N) _ _ ((jf (o:=.tup [.ref j,u]) J) _ _ (S _ _ z)));rw[M]at this;cases this
 exact q r _ _ R jc #[.ref t,x,Z,#[t,j,u,Z,ht,C _ _$ S _ _ U,D.mono$ ae.tm$ S.trans C],B.mono oX$ ae.tm C] (S.trans C)
theorem pC:ak ["path","chain","told","number","step"] ["path","chain"] (aa y6):=bJ
theorem Dh(F:rx K "whats_in" y6 f fd)(cA:Cl P w K mg base (2*n+1) fA f2 z9z (nK n) "whats_at")(U:mg "enumerate"=θ):ah P w K mg base aE (2*n+2) f fd ["path","chain"] (iY n):=by
 refine F.ok pC λc0 A V s H vs Q E Y h=>?_
 let⟨pa,k,f,is,s,a,u,rfl,hp,h6,hc,d,hd,hz,q⟩:=h;refine#[_,(jd (jy 2 pC.nd$ jI jb)$ jd (ki Ml Z (uH Z U$ ja (jz$ pv 1) jb) (zM (n:=2) Z$ jB (jw (i:=3) pC.nd Z$ Φ Z)$ jB (jw (i:=4) pC.nd Z$ Φ Z) kE)$ jg$ jQ$ kM LM NP NO JC (pv 2)$ ja (cA.e Y.m$ ja (jv j4 (pv 0)$ jh$ ja (pv 3) jb)$ ja (jz$ pv 4) jb) jb)$ jg$ jo$ pv 2),?_];let b0:=aI;let⟨c,g,e,ss,rfl,h1,h2,h3,h4⟩:=hc;let fl:=qT d k 0;rw[Yl d]at fl;let lt:=zK d h4;refine aj λF1 v=>#[lN,λT N=>v _ _ ?_];clear v;let s1:ae H (af H T$ .lst []):=jf N;refine aj λF1 v=>eQ λJ j=>(ju (s1 _ _ h1) Z #[e,Z,#[_,aC.of$ s1 _ _ h3],j _ _ ?_]);clear j;refine YO (K:=K) (xs:=ss) (IP pa T k (.ref c) s H) #[θ,θ,[],Z,jc,Z,s1] (λi σ Hx _ h=>?_) ?_ (λσ Hx h=>v _ _ ?_)
 .let⟨_,_,_,_,_,_,y⟩:=h;exact aC.of$ y _ _ h3
 .intro E hE i x B σ O hx np f0 Gq l h;clear v;let⟨o3,o4,xs,rfl,R,W,y⟩:=h;let C:ae O (af O B$ .tup [.int i,x]):=jf np;let e8:af O B (.tup [.int i,x]) B=δ (.tup [.int i,x]):=jc;refine l ?_;clear l;generalize af O B (.tup [.int i,x])=H8 at C e8 ⊢;let S8:=y.trans C;let⟨n1,D,w,p,hh,u,ht,o1,d0,s2,rfl,h0,h7,hw⟩:=z9 d (h4.mono$ ae.tm S8) hx;refine#[B,_,Z,aC.of e8,Z,_,_,Z,_,_,Z,Z,?_];refine#[_,Z,.inl #[Z,_,aJ.of$ C _ _ R],_,Z,_,Z,i8,λt nt=>#[pa,t,_,_,Z,Z,ar (S8 _ _ hp) nt,jc,by rw[Lw];show _+1<=_;omega,λr9 H9 e9 s9=>?_]];let S9:=(jf (o:=.tup [.int i]) nt).trans s9;rw[HJ]at e9;refine(ju (S9 _ _ h0) Z #[r9,_,w,u,Z,e9,by rw[Ly];show _+1+_<=_;omega,hw.mono$ ae.tm S9,o1,UK,UK,λr X G nr Y I s0=>?_]);let S:=S9.trans s0;let L:=S _ _ (C _ _ R);let lx:=W.len;let l0:=I.len;let bl:=Ef s.steps (i+1) k 0;let h5:i < s.steps.length:=(ξ.mp ht).1;let et:s.steps.take (i+1)=s.steps.take i++[(n1,D,w)]:=by rw[M1,ht];rfl
  let eb:si [(n1,D,w)] k (0+(s.steps.take i).length)=(k++[(i:Int)],w)::w.ws (k++[(i:Int)]) 0:=by rw[Mb,ND$ NA h5,O0];show(_::_)++[]=_;rw[P6]
  rw[fl,et,J9,eb]at bl;rw[Ly]at bl;let M:ai G (af G T$ .lst$ xs++X):=λb ys e=>by rw[ji$ jO e L (by intro z;cases z)];exact e
  refine#[T,r,_,_,Z,Z,L,Y,UK,f0 _ _ #[_,_,xs++X,Z,jc,?_,λb o e=>?_]]
  .rw[et,J9,eb];exact(I.mono oX M).app ((W.mono oX$ ae.tm$ C.trans S).mono oX M)
  .rw[ji$ jl e N];exact S _ _$ S8 _ _ e
 .let⟨o3,o4,xs,rfl,R,W,y⟩:=h;rw[lt,MG,<- Yl d]at W;exact#[_,Z,q T xs Hx N R W y]
theorem CS:ah P w K mg base aE k f c ["path","chain"] (iY 0):=by
 let n:∀v H Q E,¬iY 0 v H Q E:=λv H Q E h=>by let⟨p,d,f,i,s,a,u,_,_,_,_,_,z,_⟩:=h;omega
 exact#[λv H Q E h=>absurd h (n v H Q E),λA o s H b U v Q E _ _ _ _ h=>absurd h (n v H Q E)]
theorem GV(F:rx K "whats_at" y4 g a)(B:aw K a z9z [])(M:mg "whats_at"=↑g)(b:rx K "whats_in" y6 c f)(d:aw K f ["path","chain"] [])(e:mg "whats_in"=↑c)(m:mg "enumerate"=θ):∀n,ah P w K mg base aE (2*n+2) c f ["path","chain"] (iY n)
 |0=>CS
 |n+1=>by let h:=GV F B M b d e m n;let H:=uB F #[h,d,b.kp,e];exact Dh b #[H,B,F.kp,M] m
theorem Gj:ak z9z z9z (aa yV):=bJ
noncomputable def rZ:hG:=#[.function,[(".0",.local),("one",.local),("done",.local)],μ,μ,[]]
theorem ue:(["one","done"]:List ρ).Nodup:=by decide+kernel
theorem BU:bu z9z (aa yV) rZ ["one","done"] 2 []:=sr
theorem C8{n:Nat}(F:rx K "paths_at" yV f I)(J:Cl P w K mg base (2*n+3) fA L z9z (nK$ n+1) "whats_at"):ah P w K mg base aE (2*n+4) f I z9z (nH$ n+1):=by
 refine F.ok Gj λM A O s H vs Q E R h=>?_
 let⟨y,p,w,u,rfl,T,j,V,b,W,Y,q⟩:=h;refine#[_,(jg$ jo$ @zi _ _ _ _ _ _ _ (["one","done"]) (2) ([]) _ _ _ _ Z (qC$ J.e R.m$ ja (pv 0)$ ja (pv 1) jb) BU (λ_ _ _ _ _=>Zr (K:=K) (n:=2) Z Z (jB (jw (i:=0) ue Z$ Φ Z)$ jB (jw (i:=1) ue Z$ Φ Z) kE) Z Z) (λ_ _ _ _ _=>(@zz _)) (λ_ _ _ _ _=>(pv 0)) (by intro _;rfl)),?_];let b0:=aI;let fl:=qT b p 0;refine#[_,Z,_,Z,y,p,w,u,Z,T,j,V,b,W,Y,λr X a nr c k C=>?_];let lx:=k.len;rw[Md,fl]at lx;let lm:(X.map$ rg a).length=X.length:=Lw _;refine#[r,Z,#[_,aJ.of c],X6 (λi=>((X.map$ rg a)[i]?).getD .non) UK (aJ.of c) (λi x D=>?_) λl N=>q l (X.map$ rg a) _ ?_ ?_ ?_ (C.trans$ jf N)]
 .obtain⟨⟨p',w'⟩,_,t,v,U,rfl,g,G,g3⟩:=k.at D;refine#[t,.ref v,U,Z,aC.of g,λQ d=>#[_,Z,?_]];rw[LK,D]at d;let d:Q (rg a$ .ref t) a:=d;rw[AT g]at d;exact d
 .cases z:H l with
  |none=>rfl
  |some o=>rw[C _ _ z]at N;cases N
 .rw[jc,<- lm,Ji]
 .let e:Dy p w=((p,w)::w.ws p 0).map (·.1):=rfl;rw[e];exact(gF.map (S:=AC) (f:=rg a) (λx w #[t,v,U,e0,g,G,g3]=>by subst e0;rw[AT g];exact#[v,Z,G]) k).mono lF (ae.tm$ jf N)
noncomputable abbrev va:cv:=bK 38
noncomputable abbrev u7:cv:=bK 39
theorem AW(h:bo k A):A.units+10+1 < cLine:=by let:=h.un;omega
theorem KD:∀{I J:List Int},aH (I.map ay)=aH (J.map ay)->I=J
 | [],[],_=>rfl
 | [],_::_,e=>by cases e
 |_::_,[],e=>by cases e
 |i::I,j::J,e=>by let e:Tr.cons (ay i) (aH$ I.map ay)= .cons (ay j) (aH$ J.map ay):=e;injection e with E a;injection E with E;injection E with E;rw[E,KD a]
theorem qF:∀i:List Int,(aH$ i.map ay).In
 | []=>trivial
 |_::i=>#[Z,qF i]
theorem sM(n:Int)(h:List Int):(aH [ay n,aB$ h.map ay]).In:=#[Z,qF h,trivial]
theorem xu(n:Int)(H:List Int):(aH [ay n,aB$ H.map ay]).dep < 10:=by let h:=zW H;show max 0 (max ((aH$ H.map ay).dep+1) 0) < 10;omega
noncomputable def xK(P:eX->Bool):Nat->List eX->Option Nat
 |_,[]=>θ
 |k,s::r=>if P s=ν then δ k else xK P (k+1) r
noncomputable def nS(P:eX->Bool)(os:List eX)(m:Nat):Option Nat:=xK P m (os.drop m)
theorem tF{P:eX->Bool}{os:List eX}(h:os[m]?=δ s):nS P os m=if P s=ν then δ m else nS P os (m+1):=by let⟨H,e⟩:=ξ.mp h;unfold nS;rw[<- OY (h:=H),e];rfl
theorem ZH{P:eX->Bool}{os:List eX}(h:os.length<=m):nS P os m=θ:=by unfold nS;rw[List.drop_eq_nil_of_le h];rfl
theorem ZI{P:eX->Bool}:∀{os:List eX} {k j:Nat},xK P k os=δ j->∃i s,j=k+i/\os[i]?=δ s/\P s=ν
 | [],_,_,h=>nomatch h
 |s::r,k,j,h=>by
  let h:(if P s=ν then δ k else xK P (k+1) r)=δ j:=h;by_cases H:P s=ν
  .rw[LP H]at h;cases h;exact#[0,s,Z,Z,H]
  .rw[LV H]at h;let⟨i,S,e,a,b⟩:=ZI h;exact#[i+1,S,UK,by simpa using a,b]
theorem ZJ{P:eX->Bool}{os:List eX}(h:nS P os m=δ j):m<=j/\∃s,os[j]?=δ s/\P s=ν:=by let⟨i,s,e,H,a⟩:=ZI h;rw[Sm]at H;exact#[UK,s,by rw[e];exact H,a]
noncomputable def iB:Option Nat->V
 |some j=>.int (j:Int)
 |none=>.non
noncomputable def lT(n:Int)(h:List Int)(s:eX):Bool:=decide (s.1=n/\s.2.1=h)
noncomputable def lh(f:ρ)(i:List Int)(s:eX):Bool:=match s.2.2 with
 | .cl g j _ _=>decide (g=f/\j=i)
 |_=>μ
noncomputable def oW(os:List eX)(m:Nat):Sk->Option Nat
 | .cl f i _ _=>nS (lh f i) os m
 |_=>θ
theorem xz{H h:List Int}(e:aB [ay n,aB$ H.map ay]=aB [ay N,aB$ h.map ay]):n=N/\H=h:=by let e:Tr.tp (.cons (ay n)$ .cons (aB$ H.map ay) .nil)= .tp (.cons (ay N)$ .cons (aB$ h.map ay) .nil):=e;injection e with e;injection e with a A;injection A with b _;injection a with a;injection a with a;let b:Tr.tp (aH$ H.map ay)= .tp (aH$ h.map ay):=b;injection b with b;exact#[a,KD b]
theorem CJ{a H:List Int}{w:Sk}:hZ (aB [ay N,aB$ H.map ay]) (aB [ay n,aB$ a.map ay])=lT n a (N,H,w):=by
 by_cases h:N=n/\H=a
 .rw[h.1,h.2,zT Z];exact(LX #[Z,Z]).symm
 .rw[zr λe=>h (xz e)];exact(LL h).symm
theorem KE{i j:List Int}(e:aB [aN "call",aN g,aB$ j.map ay]=aB [aN "call",aN f,aB$ i.map ay]):g=f/\j=i:=by let e:Tr.tp (.cons (aN "call")$ .cons (aN g)$ .cons (aB$ j.map ay) .nil)= .tp (.cons (aN "call")$ .cons (aN f)$ .cons (aB$ i.map ay) .nil):=e;injection e with e;injection e with _ e;injection e with a A;injection A with b _;injection a with a;injection a with a;let b:Tr.tp (aH$ j.map ay)= .tp (aH$ i.map ay):=b;injection b with b;exact#[a,KD b]
theorem Q9(e:aB (aN a::x)=aB (aN b::y)):a=b:=by let e:Tr.tp (.cons (aN a)$ aH x)= .tp (.cons (aN b)$ aH y):=e;injection e with e;injection e with e _;injection e with e;injection e
theorem CF{n':Int}{hs':List Int}{w:Sk}(o:w.ok μ):hZ (gJ w) (gJ$ .cl f i s a)=lh f i (n',hs',w):=by
 cases w with
 |nil |st _ _ _ _=>exact o.elim
 |ask b |rd b c |wr b c=>show hZ (aB _) (aB _)=_;rw[zr λe=>absurd (Q9 e) UJ];rfl
 |cl g j S A=>
  by_cases h:g=f/\j=i
  .rw[h.1,h.2];show hZ (aB _) (aB _)=_;rw[zT Z];exact(LX #[Z,Z]).symm
  .show hZ (aB _) (aB _)=_;rw[zr λe=>h (KE e)];exact(LL h).symm
theorem ZK{w:Sk}(o:w.ok μ):∃l,gJ w= .tp l/\l.dep < 10/\l.In/\∃v t,l= .cons (aN v) t/\(v="call"↔∃f i s a,w= .cl f i s a):=by
 cases w with
 |nil |st _ _ _ _=>exact o.elim
 |ask b |rd b B=>exact#[_,Z,by show max 0 (max 0 0) < 10;decide,#[Z,Z,trivial],_,_,Z,λe=>absurd e UJ,λ#[_,_,_,_,e]=>nomatch e]
 |wr b B=>exact#[_,Z,by show max 0 (max 0 (max 0 0)) < 10;decide,#[Z,Z,Z,trivial],_,_,Z,λe=>absurd e UJ,λ#[_,_,_,_,e]=>nomatch e]
 |cl f i s a=>exact#[_,Z,by show max 0 (max 0 (max ((aH (i.map ay)).dep+1) 0)) < 10;rw[zW];decide,#[Z,Z,qF i,trivial],_,_,Z,λ_=>#[_,_,_,_,Z],λ_=>Z]
inductive iS(f:List V)(H:Hp)(Q:VK)(a:XK):Prop
 |mk(e:η)(d:List V)(s:Sk)(m:Nat)(n:Int)(c:List Int)(b:V)(_:f=[.ref e,.int (m:Int),b])(_:H e=δ (.tup d))(_:eL H s .non d)(_:s.ok ν)(_:s.size<=1000)(_:m<=1000)(_:aP H (aB [ay n,aB (c.map ay)]) b [])(_:∀H',ae H H'->Q (iB (nS (lT n c) s.steps m)) H')
inductive iR(d:List V)(H:Hp)(Q:VK)(a:XK):Prop
 |mk(e:η)(c:List V)(s w:Sk)(m:Nat)(b:V)(_:d=[.ref e,.int (m:Int),b])(_:H e=δ (.tup c))(_:eL H s .non c)(_:s.ok ν)(_:s.size<=1000)(_:m<=1000)(_:aP H (gJ w) b [])(_:w.ok μ)(_:∀H',ae H H'->Q (iB (oW s.steps m w)) H')
theorem vH:ak ["steps","mark","cut","at"] ["steps","mark","cut"] (aa va):=bJ
theorem yk(F:rx K "like_from" va f T)(R:mg "len"=θ)(U:mg "range"=θ):ah P w K mg base aE 1 f T ["steps","mark","cut"] iS:=by
 refine F.ok vH λV A O s H vs Q E W h=>?_
 let⟨e,v,s,m,n,c,C,rfl,G,g,k,Y,hm,hc,q⟩:=h;refine#[_,(jd (ki Ml Z (Qu Z U$ ja (pv 1)$ ja (jF jN Z R ME$ ja (pv 0) jb) jb) (jw (i:=3) vH.nd Z$ Φ Z)$ jg$ jx (jA (Yk (d:=10)$ AW W) (jK kO (jr jM (pv 0) (pv 3) (λ_ _=>Z)) jW$ jG je) (pv 2)$ aG _) (jg$ jo$ pv 3) jp)$ jg$ jo$ @zZ _ _ _),?_];let b0:=aI;let l0:=zK k g;let l1:=JA k g;refine aj λF1 f1=>eQ λJ j=>#[_,Z,_,Z,e,_,Z,.inr$ aC.of G,_,_,Z,#[UK,UK,UK,UK],j _ _ ?_];clear j;refine kX (λi x I=>(∃y,x=[↑e,δ$ .int (m:Int),δ C,y])/\ae H I/\nS (lT n c) s.steps m=nS (lT n c) s.steps (m+i)) #[#[_,Z],ae.refl _,Z] ?_ (λx I h=>f1 _ _ ?_)
 .intro L rt i x H2 hi fE X l h;obtain⟨⟨y,rfl⟩,S,b⟩:=h;refine l ?_;clear l;let e0:(m:Int)+(i:Int)=((m+i:Nat):Int):=by omega
  rw[e0];let o:m+i < v.length:=by omega
  let⟨N,a,w,p,h,u,ht,o1,_,_,ex,hp,hh,_⟩:=z9 k (g.mono$ ae.tm S) (Ls o);let B:v[m+i]?=↑p:=by rw[Ls o,ex]
  show i5 _ _ _ L _ _;refine oR λG1 kT kF=>#[_,Z,_,Z,e,_,_,_,Z,Z,aC.of$ S _ _ G,jJ B,_,Z,p,_,Z,hp,λq2 H1 D r=>#[_,Z,_,_,xu N a,sM N a,sM n c,jD D$ jm Z jV$ jm Z (qS$ r _ _ hh) jC,hc.mono$ ae.tm$ S.trans r,_,Z,?_]];rw[show hZ (.tp$ aH [ay N,aB$ a.map ay]) (.tp$ aH [ay n,aB$ c.map ay])=lT n c (N,a,w) from CJ];let t:=tF (P:=lT n c) ht;cases M:lT n c (N,a,w) with
  |true=>refine kT _ ?_;show fi _ L _ _;unfold fi;rw[rt];rw[LP M]at t;let z:=q _ (S.trans r);rw[b,t]at z;exact#[_,Z,z]
  |false=>rw[LV (by rw[M];intro z;cases z)]at t;exact kF _$ fE _ _ #[#[_,Z],S.trans r,by rw[b,t];rfl]
 .obtain⟨⟨y,rfl⟩,S,b⟩:=h;let z:=q _ S;rw[b,ZH UK]at z;exact z
theorem vG:ak ["steps","mark","deed","at"] ["steps","mark","deed"] (aa u7):=bJ
theorem yj(F:rx K "lender_from" u7 f fd)(cI:Cl P w K mg base 1 fI f0 ["what"] lJ "deed_in")(ml:mg "len"=θ)(mr:mg "range"=θ):ah P w K mg base aE 2 f fd ["steps","mark","deed"] iR:=by
 refine F.ok vG λc0 A O s H vs Q E hr h=>?_
 let⟨e,D,s,w,m,dv,rfl,he,c,g,h0,hm,G,L,q⟩:=h;refine#[_,(jd (jx (jA Kb (jz$ pv 2) jk$ aG _) (jg$ jo$ @zZ _ _ _) jp)$ jd (ki Ml Z (Qu Z mr$ ja (pv 1)$ ja (jF jN Z ml ME$ ja (pv 0) jb) jb) (jw (i:=3) vG.nd Z$ Φ Z)$ jg$ jx (jA (Yk (d:=10)$ AW hr) (cI.e hr.m$ ja (jz$ jr jM (pv 0) (pv 3) (λ_ _=>Z)) jb) (pv 2)$ aG _) (jg$ jo$ pv 3) jp)$ jg$ jo$ @zZ _ _ _),?_];let b0:=aI;let l0:=zK g c;let l1:=JA g c;let⟨l,el,dl,il,v0,ts,ev,r⟩:=ZK L;rw[el]at G;let⟨_,da,ds,rfl,M,t⟩:=id G;rw[ev]at t;obtain⟨_,_,y0,y1,rfl,⟨rfl,_⟩,_⟩:=t;refine aj λF1 y=>(ju M fo #[Z,_,Z,?_]);by_cases B:v0="call"
 .let⟨f,I,s1,a1,rfl⟩:=r.mp B;subst B;refine aX UM$ y _ _ ?_;clear y;refine aj λF1 y=>eQ λJ j=>#[_,Z,_,Z,e,_,Z,.inr$ aC.of he,_,_,Z,#[UK,UK,UK,UK],j _ _ ?_];clear j;refine kX (λi N R=>(∃T,N=[↑e,δ$ .int (m:Int),↑da,T])/\ae H R/\nS (lh f I) s.steps m=nS (lh f I) s.steps (m+i)) #[#[_,Z],ae.refl _,Z] ?_ (λN R h=>y _ _ ?_)
  .intro E2 rt i N H2 hi fE Gq n h;obtain⟨⟨T,rfl⟩,S,b⟩:=h;refine n ?_;clear n;let e0:(m:Int)+(i:Int)=((m+i:Nat):Int):=by omega
   rw[e0];let v:m+i < D.length:=by omega
   let⟨n',hs',w,p,h,u,ht,o,_,_,ex,hp,hh,hw⟩:=z9 g (c.mono$ ae.tm S) (Ls v);let U:D[m+i]?=↑p:=by rw[Ls v,ex]
   let⟨l',x,W,X,_⟩:=ZK o;show i5 _ _ _ E2 _ _;refine oR λG1 kT kF=>#[_,Z,_,Z,e,_,_,_,Z,Z,aC.of$ S _ _ he,jJ U,p,_,_,_,Z,Z,aC.of hp,mO,u,w,Z,hw,o,λv1 H1 Y k=>#[_,Z,l',l,W,X,il,x▸Y,G.mono$ ae.tm$ S.trans k,_,Z,?_]];rw[<- x,<- el,CF (n':=n') (hs':=hs') o];let C:=tF (P:=lh f I) ht;cases hb:lh f I (n',hs',w) with
   |true=>refine kT _ ?_;show fi _ E2 _ _;unfold fi;rw[rt];rw[LP hb]at C;let z:Q (iB$ nS (lh f I) s.steps m) H1:=q _ (S.trans k);rw[b,C]at z;exact#[_,Z,z]
   |false=>rw[LV (by rw[hb];intro z;cases z)]at C;exact kF _$ fE _ _ #[#[_,Z],S.trans k,by rw[b,C];rfl]
  .obtain⟨⟨T,rfl⟩,S,b⟩:=h;let z:Q (iB$ nS (lh f I) s.steps m) R:=q _ S;rw[b,ZH UK]at z;exact z
 .refine ci ?_ ?_
  .show(!decide (ri v0=ri "call"))=ν;rw[LL λz=>B (by injection z)];rfl
  let z:=q _ (ae.refl _);let en:oW s.steps m w=θ:=by
   cases w with
   |cl f I s a=>exact absurd (r.mpr #[f,I,s,a,Z]) B
   |_=>rfl
  rw[en]at z;exact z
noncomputable abbrev uU:cv:=bG (bK 45) 0
noncomputable abbrev yN:cv:=bG (bK 45) 1
noncomputable abbrev yO:cv:=bG (bK 45) 2
noncomputable def db(a:η):List (ρ×V):=[("anew",.ref a)]
theorem xk(a:η):Tl (db a):=#[Nat.le_of_ble_eq_true Z,Z,Z,Z,Z]
inductive mx(C:η)(e:List V)(H:Hp)(Q:VK)(a:XK):Prop
 |mk(r c d b:η)(m:Int)(_:e=[.ref r,.ref d,.ref b,.int m])(_:H r=δ (.ins C c []))(_:∀lA aA,H lA=θ->H aA=θ->lA≠aA->Q .non (af (af (af H lA (.dK [])) aA (.lst [])) r (.ins C c (c8 (db aA) b lA d m 0))))
theorem DQ:ak z6z z6z (aa uU):=bJ
theorem yf{R:η}(F:aQ K "__init__" "AgainRun.__init__" uU f y)(B:RK K C)(D:aW K C "anew")(G:ah P w K mg base aE 2 I k z6z (gQ C))(J:aw K k z6z [])(M:mg "BookRun"=↑R)(L:sw K R "__init__" I):ah P w K mg base aE 3 f y z6z (mx C):=by
 refine F.ok DQ λO A o s H V Q E S h=>?_
 let⟨r,d,p,c,m,rfl,g,q⟩:=h;refine#[_,(jd (jQ$ @Zj _ _ _ _ _ _ _ _ _ _ _ _ _ _ _ _ _ _ _ _ Z M L G S.m J .nil bH (ja (pv 0)$ ja (pv 1)$ ja (pv 2)$ ja (pv 3) jb) UJ UN UN UN)$ jg$ @qp _ _ _ _ _ _ _ _ (pv 0) (jI jb) Z),?_];refine aj λW x=>#[_,Z,_,Z,_,Z,_,Z,r,d,p,c,m,Z,g,λl N=>x _ _ ?_];clear x;let T:l≠r:=(jl g N).symm;refine#[lN,λa n=>#[_,Z,r,C,d,_,Z,ar jc n,B.cl,D,(by show 5 < 1000;decide),?_]];let t:a≠r:=λz=>by rw[z,jc]at n;cases n
 rw[ji t]at n;let i:l≠a:=λz=>by rw[<- z,jc]at n;cases n
 rw[ji i.symm]at n;let e:af (af (af (af H l$ .dK []) r$ .ins C d$ c8 [] c l p m 0) a$ .lst []) r (.ins C d$ c8 (db a) c l p m 0)=af (af (af H l$ .dK []) a$ .lst []) r (.ins C d$ c8 (db a) c l p m 0):=by
  funext b;by_cases j:b=r
  .rw[j,jc,jc]
  .rw[ji j,ji j];by_cases u:b=a
   .rw[u,jc,jc]
   .rw[ji u,ji j,ji u]
 exact e▸q l a N n i
noncomputable abbrev DP:cv:=bK 44
theorem AV{call:iz}{Cs:aO}{w:Sk}(h:eB M call Cs p m g L t= .ok (.st n H w r) a f i):∃(N:Nat) (c:Bx) (l:aO) (T d:Nat),n=(N:Int)/\g= .go N H/\p.cs[N]?=δ c/\dX M call Cs (aR c.nm H) L t c.e= .ok w l T/\eB M call Cs p d (nV p c H w.wh) l T= .ok r a f i:=by
 cases g with
 |give b=>let⟨e,_⟩:=XL h;cases e
 |go N j=>let⟨c,W,l,T,R,d,k,o,e,q⟩:=tN h;injection e with E s u v;subst E;subst s;subst u;subst v;exact#[N,c,l,T,d,Z,Z,k,o,q]
theorem Cn{call:iz}{Cs:aO}(h:eB M call Cs p m g L t= .ok .nil a l T):g= .give a/\l=L:=by
 cases g with
 |give b=>let⟨_,e,E⟩:=XL h;exact#[by rw[e],E]
 |go n H=>let⟨_,_,_,_,_,_,_,_,e,_⟩:=tN h;cases e
def sj(p:List cq)(f:ρ)(i:List Int)(s:Sk)(a:Int):Prop:=∃(M:Nat) (Cs:aO) (j:Nat) (L:aO) (t:Nat) (l:aO) (T:Nat),aK M p Cs j f i L t= .ok s a l T
noncomputable def Er(a:Int):List eX->Gd
 | []=>.give a
 |s::_=>.go s.1.toNat s.2.1
structure Hs(pds:List cq)(pd:cq)(a:Int)(s:eX)(r:List eX):Prop where
 ex:∃(n:Nat) (cd:Bx),s.1=(n:Int)/\pd.cs[n]?=δ cd/\gJ s.2.2=wP (aR cd.nm s.2.1) cd.e/\Er a r=nV pd cd s.2.1 s.2.2.wh
 cl:∀f is s' b,s.2.2= .cl f is s' b->sj pds f is s' b
theorem tM{call:iz}{Cs:aO}{s:Sk}(o:s.ok ν)(h:eB M call Cs p m g L t= .ok s a l T):g=Er a s.steps:=by
 cases s with
 |nil=>exact(Cn h).1
 |st n H w r=>let⟨N,c,b,d,f,e,E,_⟩:=AV h;rw[E,e];rfl
 |ask _ |rd _ _ |wr _ _ |cl _ _ _ _=>exact o.elim
theorem re{call:iz}(o:∀f i L t s a m n,call f i L t= .ok s a m n->sj d f i s a){Cs:aO}{w:Sk}(h:dX M call Cs k L t e= .ok w u v):∀f i s b,w= .cl f i s b->sj d f i s b:=by
 intro f i s b E;subst E;by_cases H:t < M
 .cases e with
  |ask p T=>rw[Kr H]at h;cases h
  |st p l=>
   cases l with
   |rd x a T=>rw[Xl H]at h;cases h
   |wr a b T U=>rw[Xm H]at h;cases h
   |cl x g q r=>
    rw[zS H]at h;cases j:call g (r.map λc=>c.2.ev k) L (t+1) with
    |ok S A m n=>rw[j]at h;cases h;exact o _ _ _ _ _ _ _ _ j
    |long |deep=>rw[j]at h;cases h
   |st x a T |gv a T=>unfold dX at h;rw[LP H]at h;cases h
 .rw[qf H]at h;cases h
theorem tO{call:iz}(i:∀f I L t s a l T,call f I L t= .ok s a l T->sj p f I s a){Cs:aO}:∀{s:Sk} {L l:aO} {m t T:Nat} {g:Gd},s.ok ν->eB M call Cs j m g L t= .ok s a l T->∀{k:Nat} {st:eX},s.steps[k]?=δ st->Hs p j a st (s.steps.drop$ k+1)
 | .nil,_,_,_,_,_,_,_,_,k,st,c=>by simp [Sk.steps]at c
 | .st n q w r,L,l,m,t,T,g,o,h,k,st,c=>by
  let⟨N,C,u,v,x,e,E,d,H,b⟩:=AV h;cases k with
  |zero=>cases c;exact#[#[N,C,e,d,sQ H,(tM o.2 b).symm],re i H]
  |succ k=>exact tO i o.2 b (by simpa [Sk.steps] using c)
 | .ask _,_,_,_,_,_,_,o,_,_,_,_=>o.elim
 | .rd _ _,_,_,_,_,_,_,o,_,_,_,_=>o.elim
 | .wr _ _,_,_,_,_,_,_,o,_,_,_,_=>o.elim
 | .cl _ _ _ _,_,_,_,_,_,_,o,_,_,_,_=>o.elim
theorem sj.steps(h:sj b f i s a)(H:fb b f=δ p)(o:s.ok ν):eS (nU p) (b8 p.way.sets$ aR p.ps i) p.way.goal=Er a s.steps/\∀{k:Nat} {st:eX},s.steps[k]?=δ st->Hs b p a st (s.steps.drop$ k+1):=by
 let⟨M,Cs,j,L,t,l,T,h⟩:=h;cases j with
 |zero=>cases h
 |succ j=>have h:(match fb b f with |none=>OC.long |some p=>eB M (aK M b Cs j) Cs p (M+2) (eS (nU p) (b8 p.way.sets$ aR p.ps i) p.way.goal) L t)= .ok s a l T:=h;rw[H]at h;exact#[tM o h,tO (λf i L t s a l T z=>#[M,Cs,j,L,t,l,T,z]) o h]
def dn(a b c:η)(H h:Hp):Prop:=∀x o,x≠a->x≠b->x≠c->H x=δ o->h x=δ o
theorem dn.of2(h:a6 a b H d):dn a b c H d:=λ_ _ n N _ e=>h _ _ n N e
theorem dn.of_same(h:ae H d):dn a b c H d:=λ_ _ _ _ _ e=>h _ _ e
theorem dn.trans(h:dn a b c H f)(k:dn a b c f g):dn a b c H g:=λx o n N d e=>k x o n N d (h x o n N d e)
def El(a b c:η)(H h:Hp):Prop:=∀x o,x≠a->x≠b->x≠c->NX o->H x=δ o->h x=δ o
theorem Fl.next3(h:Fl E L (El a b c H)):Fl (lG E) L (El a b c H):=λd l k x T t c e f m g=>by cases e;exact h d _ λb o N i j n e=>qe (H:=H) (k b o N i j n e) n f g
theorem ie.next3(h:ie A B E T t (El a b c H)):ie A B (lG E) T t (El a b c H):=#[λa=>(h.1 a).next3,λb=>(h.2 b).next3]
structure An(H:Hp)(aA:η)(n:Nat):Prop where
 ex:∃as:List V,H aA=δ (.lst as)/\as.length<=n/\∀x∈as,∃p:gG,p≠[]/\AC H x p
theorem An.le(h:An H a n)(l:n<=m):An H a m:=let #[A,b,c,d]:=h.ex;#[A,b,LJ c l,d]
theorem An.keep(h:An H A n)(k:ai H c)(e:∀o,H A=δ o->c A=δ o):An c A n:=let #[d,f,g,i]:=h.ex;#[d,e _ f,g,λx j=>let #[p,a,b]:=i x j;#[p,a,lF _ _ _ _ k b]]
theorem An.same(h:An H a n)(s:ae H b):An b a n:=h.keep (ae.tm s) λo e=>s _ _ e
theorem An.ne{Cs:aO}(h:An H a n)(R:Rn H C r d e c l p m t L Cs):a≠r/\a≠l/\a≠c:=let #[A,b,_]:=h.ex;#[jO b R.ins (by intro z;cases z),jO b R.lf (by intro z;cases z),jO b R.ce (by intro z;cases z)]
theorem An.tm{Cs:aO}(h:An H a n)(R:Rn H C r D E f l p m t L Cs)(k:dn r l a H c):ai H c:=λb x e=>by let⟨A,d,_⟩:=h.ex;exact k b _ (jO e R.ins (by intro z;cases z)) (jO e R.lf (by intro z;cases z)) (jO e d (by intro z;cases z)) e
theorem An.add{H:Hp}{k:Nat}{y:List V}(h:H c=δ (.lst A))(l:A.length+y.length<=n)(d:∀x∈A,∃p:gG,p≠[]/\AC H x p)(f:∀x∈y,∃p:gG,p≠[]/\AC H x p):An (af H c$ .lst$ A++y) c n:=by
 refine#[A++y,jc,by rw[Ly];exact l,λx hx=>?_];let t:ai H (af H c$ .lst$ A++y):=λb X e=>by rw[ji$ jO e h (by intro z;cases z)];exact e
 rcases γ.mp hx with hx |hx
 .let⟨p,a,b⟩:=d x hx;exact#[p,a,lF _ _ _ _ t b]
 .let⟨p,a,b⟩:=f x hx;exact#[p,a,lF _ _ _ _ t b]
inductive lM(g:List V)(H:Hp)(Q:VK)(b:XK):Prop
 |mk(e:η)(d:List V)(_:H e=δ (.tup d))(_:(g=[.ref e,.non]/\Q .non H)∨∃(p h:η) (k:Nat) (n:Int) (u:V) (w:Sk),g=[.ref e,.int (k:Int)]/\d[k]?=↑p/\H p=δ (.tup [.int n,.ref h,u])/\eL H w u []/\w.ok μ/\∀ov,(((∀f is s a,w≠ .cl f is s a)/\ov= .non)∨∃(f:ρ) (is:List Int) (s:Sk) (a:Int) (c:η),w= .cl f is s a/\ov= .ref c/\h9 H f is s a (.ref c))->Q ov H)
inductive DY(C l i y:η)(j:Nat)(I:List V)(H:Hp)(Q:VK)(E:XK):Prop
 |mk(M:Nat)(r p m n u D g:η)(F:gG)(b t z:Nat)(L h k:aO)(B G:V)(e:DD)(K:List ρ)(o:List Df)(A:List Nat)(J:List V)(d:List cq)(_:I=[.ref r,.ref g,B,G,.int (b:Int)])(_:b+j=15)(_:Rn H C r p (db m) n u D M t L h)(_:An H m z)(_:z<=t)(_:L.length<=t)(_:t<=M)(_:Ps H y D o A J d)(_:H g=δ (.tup (F.map rm)))(_:F.length+j<=60)(_:F≠[])(_:aP H (wP k e) G [])(_:sy H K e)(_:GT k)(_:e.Cs ((o.map Df.f).zip A))(_:B= .non∨∃(p0:η) (x f:ρ) (q:η) (ts:List (η×Tm)) (s:Sk) (a:Int) (c:η),e= .st p0 (.cl x f q ts)/\B= .ref c/\h9 H f (ts.map λc=>c.2.ev k) s a (.ref c)/\s.ok ν/\s.size<=1000/\sj d f (ts.map λc=>c.2.ev k) s a)(_:∀(w:Sk) (v:V) (L':aO) (H':Hp),dX M (aK M d h j) h k L t e= .ok w L' (t+1+w.size)->eL H' w v []->w.ok μ->Ey e w.wh->w.dep<=j->Rn H' C r p (db m) n u D M (t+1+w.size) L' h->L'.length<=t+1+w.size->t+1+w.size<=M->An H' m (z+w.size)->dn r u m H H'->Q v H')(_:ie (dX M (aK M d h j) h k L t e= .long) (dX M (aK M d h j) h k L t e= .deep) E l i (El r u m H))
inductive nk(C k h u:η)(j:Nat)(D:List V)(H:Hp)(Q:VK)(E:XK):Prop
 |mk(M:Nat)(r p l n s y f c:η)(A:gG)(b t w i:Nat)(L g:aO)(B:Sk)(m:Int)(d:Df)(o:List Df)(x:List Nat)(F:List V)(e:List cq)(q:List Int)(_:D=[.ref r,.ref f,.ref c,.int (b:Int)])(_:b+j=16)(_:1<=j)(_:Rn H C r p (db l) n s y M t L g)(_:An H l w)(_:w<=t)(_:L.length<=t)(_:t<=M)(_:Ps H u y o x F e)(_:H f=δ (.tup (A.map rm)))(_:A.length+j<=60)(_:o[i]?=δ d)(_:x[i]?=δ q.length)(_:∀z∈q,eP z)(_:h9 H d.f q B m (.ref c))(_:B.ok ν)(_:B.size<=1000)(_:sj e d.f q B m)(_:∀(v:V) (sk:Sk) (a:Int) (L':aO) (H':Hp),aK M e g j d.f q L t= .ok sk a L' (t+sk.size)->h9 H' d.f q sk a v->sk.ok ν->sk.dep+1<=j->eP a->Rn H' C r p (db l) n s y M (t+sk.size) L' g->L'.length<=t+sk.size->t+sk.size<=M->An H' l (w+sk.size)->dn r s l H H'->Q v H')(_:ie (aK M e g j d.f q L t= .long) (aK M e g j d.f q L t= .deep) E k h (El r s l H))
theorem h9.mono'(h:h9 H f i s a u)(k:ai H b):h9 b f i s a u:=let #[c,g,e,S,E,d,j,l,m]:=h;#[c,g,e,S,E,k _ _ d,k _ _ j,k _ _ l,m.mono k]
theorem sN(x:V)(X:List V):aS (x::X) (δ 1) θ=X:=by unfold aS HT.sIx;simp
theorem GX:∀{p:gG} (_:p≠[]) (w:Sk) (q:gG),q∈(w.ws p 0).map (·.1)->q≠[]:=by
 let b:∀(w:Sk) (p:gG) (k:Nat) (q:gG),p≠[]->q∈(w.ws p k).map (·.1)->q≠[]:=by
  intro w;induction w with
  |st n d w r i I=>
   intro p k q H h;let h:q∈(((p++[(k:Int)],w)::w.ws (p++[(k:Int)]) 0)++r.ws p (k+1)).map (·.1):=h;rw[Mc,MU]at h;rcases γ.mp h with h |h
   .rcases Ξ.mp h with h |h
    .rw[h];simp
    .exact i _ _ _ UL h
   .exact I _ _ _ H h
  |cl f e s a c=>intro p k q H h;exact c _ _ _ H h
  |nil |ask _ |rd _ _ |wr _ _=>intro p k q H h;cases h
 exactλ{p} H w q h=>b w p 0 q H h
theorem uO{w:Sk}(c:a≠[])(h:gF AC H (Dy a w) d):∃Y,aS d (δ 1) θ=Y/\Y.length=(w.ws a 0).length/\∀x∈Y,∃p:gG,p≠[]/\AC H x p:=by let⟨x,r,rfl,_,b⟩:=h;refine#[r,sN _ _,by rw[b.len,Lw],λy f=>?_];let⟨i,g⟩:=List.mem_iff_getElem?.mp f;let⟨p,j,k⟩:=b.at g;refine#[p,?_,k];let l:=LS j;intro e;subst e;exact GX c w [] l Z
theorem Gk:ak ["steps","at"] ["steps","at"] (aa DP):=bJ
theorem De(F:rx K "chain_taken" DP f x):ah P w K mg base aE 1 f x ["steps","at"] lM:=by
 refine F.ok Gk (len:=by rintro _ _ _ _⟨e,S,_,⟨rfl,_⟩ | ⟨p,h,k,n,u,w,rfl,_⟩⟩<;>rfl) λC A o s H V Q E N h=>?_
 let⟨e,S,j,h⟩:=h;rcases h with ⟨rfl,q⟩ | ⟨p,h,k,n,u,w,rfl,l,m,t,r,q⟩
 .refine#[_,(jd (jx (PW.pt$ Ka (Yb$ @uE _ _ _ _ _$ pv 1)$ Jt$ jA Kb (jz$ jr jM (jr jM (pv 0) (pv 1) (λ_ _=>Z)) je (λ_ _=>Z)) jk$ aG _) (jg$ jo$ @zZ _ _ _) jp)$ jg$ jo$ jz$ jr jM (jr jM (pv 0) (pv 1) (λ_ _=>Z)) je (λ_ _=>Z)),?_];try dsimp only[d9,Cx.nox,Cx.wish]
  exact aj λv d=>#[_,Z,_,Z,ci (by rw[LX Z]) q]
 refine#[_,(jd (jx (PW.pt$ Ka (Yb$ @uE _ _ _ _ _$ pv 1)$ Jt$ jA Kb (jz$ jr jM (jr jM (pv 0) (pv 1) (λ_ _=>Z)) je (λ_ _=>Z)) jk$ aG _) (jg$ jo$ @zZ _ _ _) jp)$ jg$ jo$ jz$ jr jM (jr jM (pv 0) (pv 1) (λ_ _=>Z)) je (λ_ _=>Z)),?_];let B:=aI;cases w with
 |nil |st _ _ _ _=>exact r.elim
 |ask _ |rd _ _ |wr _ _=>let⟨i,rfl,G⟩:=t;refine aj λv d=>#[_,Z,_,Z,aX (by rw[LL (by intro z;cases z)]) #[_,Z,_,Z,e,_,_,_,Z,Z,aC.of j,jJ l,p,_,_,_,Z,Z,aC.of m,mO,i,_,_,_,Z,Z,aC.of G,fo,Z,_,Z,ci UM$ q _$ .inl #[λf I s a z=>(by cases z),Z]]]
 |cl f I s a=>let⟨i,c,g,D,Y,rfl,G,J,g3,L,M⟩:=t;refine aj λv d=>#[_,Z,_,Z,aX (by rw[LL (by intro z;cases z)]) #[_,Z,_,Z,e,_,_,_,Z,Z,aC.of j,jJ l,p,_,_,_,Z,Z,aC.of m,mO,i,_,_,_,Z,Z,aC.of G,fo,Z,_,Z,aX UM$ d _ _ ?_]];clear d;exact#[_,Z,_,Z,e,_,_,_,Z,Z,aC.of j,jJ l,p,_,_,_,Z,Z,aC.of m,mO,i,_,_,_,Z,Z,aC.of G,lR,q _$ .inr #[f,I,s,a,c,Z,Z,#[c,g,D,Y,Z,J,g3,L,M]]]
theorem Bk:ak ["self","path","old","deed","deep","what"] z25z (aa yO):=bJ
theorem Fz(F:aQ K "what_along" "AgainRun.what_along" yO f fd)(ck:RK K C)(n6:aW K C "anew")(GW:ah P w K mg base (c7 P w) (2*j+13) fW f0 z11z (gU C TL TD nA j))(bW:aw K f0 z11z [])(m0:a8 K C "what_of" fW)(GT:ah P w K mg base (c7 P w) 1 fT f2 ["self"] (eK C TL))(bT:aw K f2 ["self"] [])(m1:a8 K C "take_turn" fT)(GA:ah P w K mg base (c7 P w) (2*j+38) fA f3 z15z (nk C TL TD nA j))(bA:aw K f3 z15z [])(m2:a8 K C "chain_along" fA)(GD:ah P w K mg base (c7 P w) 1 fD f4 ["deep"] (di TD))(bD:aw K f4 ["deep"] [])(kD:fz K (.ref fD)=ν)(mD:mg "deeper"=↑fD)(cP:Cl P w K mg base 36 fP f5 z9z (nH 17) "paths_at"):ah P w K mg base (c7 P w) (2*j+39) f fd z25z (DY C TL TD nA j):=by
 refine F.ok1 Bk λc0 A o1 s H vs Q E hr h=>?_
 let⟨M,r,D,l,I,B,J,U,ps,u,t,nn,L,Cs,k,ov,ud,e,ys,ds,ns,xs,V,rfl,h5,n,hA,b2,h6,ht,hP,O,h7,h8,h',h0,gk,h3,a0,q,N⟩:=h;refine#[_,(jd (jx (jA Yd (pv 2) (@zZ _ _ _)$ aG _) (jd (jy 5 Bk.nd$ j7 (pv 0) ck.cl m0 GW hr.m bW .nil j5$ ja (pv 3)$ ja (pv 4) jb)$ jd (jQ$ kM LM NP NO JC (kU (pv 0) Z)$ ja (jK kH (cP.e hr.m$ ja (pv 1)$ ja (pv 5) jb) (jG je) jW) jb)$ jg$ jo$ pv 5) jp)$ jd (jQ$ Xo (pv 0) ck.cl m1 GT hr.m bT .nil j5)$ jg$ jo$ jh$ ja jk$ ja (j7 (pv 0) ck.cl m2 GA hr.m bA .nil j5$ ja (pv 1)$ ja (pv 2)$ ja (kG GD hr.m Z mD kD bD .nil j5$ ja (pv 4) jb) jb) jb),?_];let b3:=aI;let hM:=n.hm;let⟨nr,nl,nc⟩:=hA.ne n;rcases a0 with rfl | ⟨p0,x,f',q',ts,so,ao,c,rfl,rfl,a',o2,s0,h4⟩
 .refine aj λF1 G=>#[_,Z,Z,_,Z,ci (LX Z) ?_];clear G;refine aj λF1 G=>#[_,Z,r,D,_,Z,n.ins,n.tl.w,_,Z,_,Z,M,r,D,db l,I,B,J,u,t,L,Cs,k,ud,e,ys,ds,ns,xs,V,Z,h5,n,h6,ht,hP,h',h0,gk,h3,λw v _L W e1 hw X ft d0 R2 l2 t2 k2=>G _ _ ?_,(ie.next$ N.mono λW Y=>λb o R n2 _ nx e=>Y b o R n2 nx e)];clear G;let t0:=n.tm k2;let⟨as,a1,a2,a3⟩:=(hA.keep t0 λo e=>k2 _ _ nr nl e).ex;refine aj λF1 G=>#[_,Z,r,C,D,_,_,Z,R2.ins,ck.cl,n6,Z,.inl #[Z,_,aJ.of a1],_,Z,_,Z,U,ps,w,v,Z,t0 _ _ O,UK,hw,X,UK,UK,λrl x H3 n0 b0 b1 s3=>#[_,Z,rl,x,Z,aJ.of b0,λp np=>?_]];let⟨zs,ez,lz,hz⟩:=uO h8 b1;let e0:aS x (δ 1) θ=zs:=ez;rw[qT X]at lz;let S:ae W (af H3 p$ .lst$ aS x (δ 1) θ):=s3.trans (jf np);let e4:af H3 p (.lst$ aS x (δ 1) θ) p=δ (.lst zs):=by rw[<- e0];exact jc
  let t1:ai H3 (af H3 p$ .lst$ aS x (δ 1) θ):=ae.tm (jf np);generalize af H3 p (.lst$ aS x (δ 1) θ)=H4 at S e4 t1 ⊢;let a4:=S _ _ a1;refine#[l,p,as,zs,Z,Z,a4,e4,UK,G _ _ ?_];clear G;let A5:An (af H4 l$ .lst$ as++zs) l (nn+w.size):=An.add (k:=0) a4 UK (λy hy=>let #[p,h1,h2]:=a3 y hy;#[p,h1,lF _ _ _ _ (ae.tm S) h2]) (λy hy=>let #[p,h1,h2]:=hz y hy;#[p,h1,lF _ _ _ _ t1 h2]);let b5:dn r B l H4 (af H4 l$ .lst$ as++zs):=λb o _ _ n3 e=>by rw[ji n3];exact e
  let t3:ai H4 (af H4 l$ .lst$ as++zs):=λb xs e=>by rw[ji$ jO e a4 (by intro z;cases z)];exact e
  let R5:Rn (af H4 l$ .lst$ as++zs) C r D (db l) I B J M (t+1+w.size) _L Cs:=#[by rw[ji nr.symm];exact S _ _ R2.ins,by rw[ji nl.symm];exact S _ _ R2.lf,by rw[ji nc.symm];exact S _ _ R2.ce,R2.iL,R2.iC,R2.cl,R2.tl,R2.hm];exact#[_,Z,q w v _L _ e1 ((hw.mono$ ae.tm S).mono t3) X ft d0 R5 l2 t2 A5 (((dn.of2 k2).trans$ dn.of_same S).trans b5)]
 .let⟨i,d,hd,hn,rfl⟩:=hP.find h3;let⟨_,_,_,o3,_⟩:=h0;refine aj λF1 G=>#[_,Z,Z,_,Z,aX (LL (λz=>by cases z))$ G _ _ ?_];clear G;refine aj λF1 G=>#[_,Z,r,D,_,Z,n.ins,n.tl.t,r,D,db l,I,B,J,M,t,Z,n.ins,n.tl,λlt=>G _ _ ?_,λge=>((N.1$ qf UK).mono λH' Y=>λb o _ _ _ nx e=>Y b o nx e).nextK];clear G;let T:ai H (af H r$ .ins C D$ c8 (db l) I B J M$ t+1):=λb xs e=>by rw[ji$ jO e n.ins (by intro z;cases z)];exact e
  let R1:Rn (af H r$ .ins C D$ c8 (db l) I B J M$ t+1) C r D (db l) I B J M (t+1) L Cs:=#[jc,by rw[ji n.rl.1.symm];exact n.lf,by rw[ji n.rl.2.symm];exact n.ce,n.iL,n.iC,n.cl,n.tl,n.hm];let k1:dn r B l H (af H r$ .ins C D$ c8 (db l) I B J M$ t+1):=λb o R _ _ e=>by rw[ji R];exact e
  let A1:An (af H r$ .ins C D$ c8 (db l) I B J M$ t+1) l nn:=hA.keep T λo e=>by rw[ji nr];exact e
  generalize af H r (.ins C D$ c8 (db l) I B J M$ t+1)=H1 at T R1 k1 A1;let lt':t+1<=M:=by omega
  refine#[_,Z,r,D,_,Z,R1.ins,Z,_,Z,_,Z,_,Z,(u:Int),Z,λdl=>?_,λdg=>((N.2 (by let z:j=0:=UK;rw[zS UK,z];rfl)).mono λW Y=>λb o R n2 n3 nx e=>Y b o nx (k1 b o R n2 n3 e)).nextK];refine#[M,r,D,l,I,B,J,U,c,ps,u+1,t+1,nn,i,L,Cs,so,ao,d,ds,ns,xs,V,ts.map λc=>c.2.ev k,Z,UK,UK,R1,A1,UK,UK,lt',hP.mono T,T _ _ O,h7,hd,by rw[Lw];exact hn,λz hz=>?_,h9.mono' a' T,o2,s0,h4,λv sk a L' W eq hc ok dp ia R2 l2 t2 A2 k2=>?_,ie.next3 ((N.imp (λz=>by rw[zS UK,z];rfl) (λz=>by rw[zS UK,z];rfl)).mono λW Y=>λb o R n2 n3 nx e=>Y b o R n2 n3 nx (k1 b o R n2 n3 e))]
  .let⟨c,hc,rfl⟩:=dw.mp hz;exact Jc gk (o3.2.2 c hc).1
  .let⟨c2,g,ee,ss,rfl,c1,c3,c4,c5⟩:=hc;refine#[bL,λv2 nv=>?_];let s2:ae W (af W v2$ .tup [.str "call",.ref c2]):=jf nv;exact q (.cl d.f (ts.map λc=>c.2.ev k) sk a) _ L' _ (by rw[zS UK,eq];rfl) #[v2,c2,g,ee,ss,Z,jc,s2 _ _ c1,s2 _ _ c3,s2 _ _ c4,c5.mono$ ae.tm s2] ok ia (by show sk.dep+1<=j;omega) (R2.same s2) l2 t2 (A2.same s2) ((k1.trans k2).trans$ dn.of_same s2)
noncomputable def Sk.fnd:Sk->Int
 | .ask b=>b
 | .rd _ i=>i
 | .wr _ i=>i
 | .cl _ _ _ a=>a
 |_=>0
inductive iN(b:List V)(H:Hp)(Q:VK)(a:XK):Prop
 |mk(u:V)(w:Sk)(_:b=[u])(_:eL H w u [])(_:w.ok μ)(_:Q (.int w.fnd) H)
theorem GS{w W:Sk}(o:w.ok μ)(O:W.ok μ)(h:gJ w=gJ W)(f:w.fnd=W.fnd):w.wh=W.wh:=by
 let n:∀{a b:ρ} {x y:List Tr},a≠b->aB (aN a::x)=aB (aN b::y)->False:=λH e=>H (Q9 e);cases w with
 |nil |st _ _ _ _=>exact o.elim
 |ask b=>
  cases W with
  |nil |st _ _ _ _=>exact O.elim
  |ask B=>exact MO Wh.ask f
  |rd _ _ |wr _ _ |cl _ _ _ _=>exact(n UJ h).elim
 |rd c i=>
  cases W with
  |nil |st _ _ _ _=>exact O.elim
  |ask B |wr _ _ |cl _ _ _ _=>exact(n UJ h).elim
  |rd C I=>
   let f:i=I:=f;let e:c=C:=by injection h with h;injection h with _ h;injection h with h _;injection h with h;injection h
   show Wh.rd c i=Wh.rd C I;rw[e,f]
 |wr c i=>
  cases W with
  |nil |st _ _ _ _=>exact O.elim
  |ask B |rd _ _ |cl _ _ _ _=>exact(n UJ h).elim
  |wr C I=>
   let f:i=I:=f;let e:c=C:=by injection h with h;injection h with _ h;injection h with h _;injection h with h;injection h
   show Wh.wr c i=Wh.wr C I;rw[e,f]
 |cl g j s a=>
  cases W with
  |nil |st _ _ _ _=>exact O.elim
  |ask B |rd _ _ |wr _ _=>exact(n UJ h).elim
  |cl G d S A=>have f:a=A:=f;let⟨E,k⟩:=KE h;show Wh.cl g j a=Wh.cl G d A;rw[E,k,f]
theorem EV{k:aO}(h:sy H y e):∃w:Sk,w.ok μ/\gJ w=wP k e/\∀f i s a,w= .cl f i s a->∃g x q d,e= .st g (.cl x f q d)/\i=d.map λc=>c.2.ev k:=by
 cases e with
 |ask t T=>exact#[.ask (if T.ev k=0 then 0 else 1),trivial,Z,λf i s a z=>by cases z]
 |st p l=>
  let⟨v,_,_,_,C⟩:=h;cases l with
  |rd x a T=>exact#[.rd (T.ev k) 0,trivial,Z,λf i s a z=>by cases z]
  |wr a b T U=>exact#[.wr (T.ev k) (U.ev k),trivial,Z,λf i s a z=>by cases z]
  |cl x f q d=>
   refine#[.cl f (d.map λc=>c.2.ev k) .nil 0,trivial,?_,λF i s a z=>?_]
   .show aB [aN "call",aN f,aB ((d.map λc=>c.2.ev k).map ay)]=aB [aN "call",aN f,aB$ d.map λc=>ay (c.2.ev k)];rw[Nt];rfl
   .cases z;exact#[p,x,q,d,Z,Z]
  |st x a T |gv a T=>cases C
theorem xA(h:sy H y e)(d:gJ (.cl f i s a)=wP k e):∃p x q t,e= .st p (.cl x f q t)/\i=t.map λc=>c.2.ev k:=by
 let⟨w,o,D,j⟩:=EV (k:=k) h;rw[<- D]at d;cases w with
 |nil |st _ _ _ _=>exact o.elim
 |ask b |rd b c |wr b c=>exact absurd (Q9 d) UJ
 |cl g J S A=>let⟨E,l⟩:=KE d;subst E;subst l;exact j _ _ _ _ Z
theorem tK{Q:VK}(c:eL H d .non f)(o:d.ok ν)(y:k<=f.length)(i:∀st,d.steps[k]?=δ st->∃n:Nat,st.1=(n:Int))(q:∀v a,aP a (Hg$ Er A$ d.steps.drop k) v []->ae H a->Q v a):(∃(p h:η) (n:Int) (c:List Int) (u:V),f[k]?=↑p/\H p=δ (.tup [.int n,.ref h,u])/\H h=δ (.tup$ c.map rm)/\∀(v:V) (a:Hp),aP a (aB [aN "go",ay n,aB$ c.map ay]) v []->ae H a->Q v a)∨(k=f.length/\∀(v:V) (a:Hp),aP a (aB [aN "give",ay A]) v []->ae H a->Q v a):=by
 let L:=zK o c;by_cases h:k < f.length
 .let⟨n,b,w,p,j,u,g,_,_,_,l,m,r,_⟩:=z9 o c (Ls h);refine .inl #[p,j,n,b,u,by rw[<- l];exact Ls h,m,r,λv a t s=>q v a ?_ s];let e:d.steps.drop k=(n,b,w)::d.steps.drop (k+1):=by let⟨x,e⟩:=ξ.mp g;rw[Rq x,e]
  let⟨N,E⟩:=i _ g;let E:n=(N:Int):=E;rw[e];show aP a (aB [aN "go",ay ((n.toNat:Nat):Int),aB$ b.map ay]) v [];rw[E]at t ⊢;exact t
 .refine .inr #[UK,λv a t s=>q v a ?_ s];rw[List.drop_eq_nil_iff.mpr UK];exact t
theorem Fq(h:lT n H o=ν):o.1=n/\o.2.1=H:=Mu h
theorem Fn(h:lh f i o=ν):∃s a,o.2.2= .cl f i s a:=by
 let⟨n,H,w⟩:=o;cases w with
 |cl g j s a=>have h:decide (g=f/\j=i)=ν:=h;let⟨rfl,rfl⟩:=Mu h;exact#[s,a,Z]
 |_=>cases h
theorem tX{os:List eX}{w:Sk}(h:oW os m w=δ j):∃f i s a,w= .cl f i s a/\nS (lh f i) os m=δ j:=by
 cases w with
 |cl f i s a=>exact#[f,i,s,a,Z,h]
 |_=>cases h
def IM(e:DD)(k:aO)(os:List eX)(m:Nat):Option Nat->Prop
 |none=>True
 |some j=>m<=j/\∃o,os[j]?=δ o/\∀f i s a,o.2.2= .cl f i s a->∃p x q t,e= .st p (.cl x f q t)/\i=t.map λc=>c.2.ev k
theorem GL{H:Hp}{Q:VK}(r:L=[.ref e,iB T])(M:H e=δ (.tup v))(g:eL H b .non v)(O:b.ok ν)(N:b.size<=1000)(y:∀{k:Nat} {st:eX},b.steps[k]?=δ st->Hs z pd ao st (b.steps.drop$ k+1))(A:IM d k b.steps m T)(q:∀l,(l= .non∨∃(B:η) (x f:ρ) (q:η) (t:List (η×Tm)) (s:Sk) (a:Int) (c:η),d= .st B (.cl x f q t)/\l= .ref c/\h9 H f (t.map λc=>c.2.ev k) s a (.ref c)/\s.ok ν/\s.size<=1000/\sj z f (t.map λc=>c.2.ev k) s a)->Q l H):
  lM L H Q E:=by
 subst r;refine#[e,v,M,?_];cases T with
 |none=>exact .inl #[Z,q _ (.inl Z)]
 |some j=>
  let⟨_,o,C,D⟩:=A;let R:=zK O g;let I:j < v.length:=by rw[R];exact(ξ.mp C).1
  let⟨n,hs,w,p,h,u,J,i,_,S,U,V,h3,W⟩:=z9 O g (Ls I);rw[C]at J;cases J;refine .inr #[p,h,j,n,u,w,Z,by rw[<- U];exact Ls I,V,W,i,λl F=>?_];rcases F with ⟨_,rfl⟩ | ⟨f,X,s,a,c,rfl,rfl,G⟩
  .exact q _$ .inl Z
  .let⟨B,x,Y,t,e1,e2⟩:=D f X s a Z;subst e2;let S:s.size+1<=b.size:=S;exact q _$ .inr #[B,x,f,Y,t,s,a,c,e1,Z,G,i,UK,(y C).cl _ _ _ _ Z]
noncomputable def Hh(m:Nat):Option Nat->Nat
 |none=>m
 |some j=>j+1
inductive IC(M:Nat)(a:iz)(Y:cq)(s:OC)(S C r z x y Q X q c sl:η)(d:Df)(b t T j:Nat)(u:aO)(v:V)(ss:List V)(H:Hp)(P:Nat)(σ:_L.St)(w:Hp):Prop
 |mk(U W n o p:Option V)(O:V)(g:Gd)(m R:Nat)(Z:Sk)(l:List V)(L:aO)(A:σ=[↑r,↑q,↑c,δ (.int (b:Int)),δ v,↑sl,δ (.int (m:Int)),δ O,U,W,n,o,p])(B:w sl=δ (.lst l))(D:eL w Z .non l)(E:Z.ok ν)(F:Z.dep+1<=j)(G:m<=ss.length)(I:EA w S d O g)(J:Rn w C r z (db x) y Q X M (t+Z.size) L u)(K:An w x (T+Z.size))(N:L.length<=t+Z.size)(e:t+Z.size<=M)(f:dn r Q x H w)(h:P+t+Z.size=M+1)(i:(eB M a u Y R g L (t+Z.size)).pre Z=s)(k:M+2<=R+(t+Z.size))
theorem rJ(F:rx K "found_in" gf f r):ah P w K mg base aE 1 f r ["what"] iN:=by
 refine F.ok lH λC A o s H v Q E x h=>?_
 let⟨u,w,rfl,l,d,q⟩:=h;refine#[_,(jg$ jo$ kr (kc$ jz$ pv 0) (jz$ jr jM (pv 0) je (λ_ _=>Z))$ jr jM (pv 0) (uF Yc je) (λ_ _=>Z)),?_];cases w with
 |nil |st _ _ _ _=>exact d.elim
 |ask b |rd a i |wr a i=>let⟨p,rfl,m⟩:=l;exact(ju m fo #[Z,_,Z,aX UM #[_,Z,_,Z,p,_,_,_,Z,Z,aC.of m,Z,q]])
 |cl f I s i=>let⟨p,c,g,e,S,rfl,n,t,_⟩:=l;exact(ju n fo #[Z,_,Z,ci UM$ ju n lR #[c,_,_,_,Z,Z,aC.of t,jJ (j:=3) Z,q]])
theorem fc:ak ["self","path","old","deep","part","steps","mark","goal","here","like","deed","taken","step"] z15z (aa yN):=bJ
theorem Fy(F:aQ K "chain_along" "AgainRun.chain_along" yN f fd)(ck:RK K C)(n6:aW K C "anew")(cN:Cl P w K mg base 2 fN m8 ["parts","f"] iT "part_of")(cG:Cl P w K mg base 1 fG m9 ["chain","number"] nB "goal_at")(cL:Cl P w K mg base 1 fL o7 ["steps","mark","cut"] iS "like_from")(cV:Cl P w K mg base 2 fV o' ["steps","mark","deed"] iR "lender_from")(cI:Cl P w K mg base 1 fI p2 ["what"] lJ "deed_in")(cE:Cl P w K mg base 9 fE p3 z8z (dU nA) "deed_at")(cO:Cl P w K mg base 9 fO p4 ["part","step"] (oK nA) "onward")(cK:Cl P w K mg base 1 fK p6 ["steps","at"] lM "chain_taken")(cF:Cl P w K mg base 1 fF p7 ["what"] iN "found_in")(GW:ah P w K mg base (c7 P w) (2*j+39) fW g8 z25z (DY C TL TD nA j))(bW:aw K g8 z25z [])(m0:a8 K C "what_along" fW)(ml:mg "len"=θ)(m1:mg "tuple"=θ):ah P w K mg base (c7 P w) (2*j+40) f fd z15z (nk C TL TD nA$ j+1):=by
 refine F.ok1 fc λp9 A o5 s H vs Q E hr h=>?_
 let⟨M,r,dx,aA,cA,lA,pA,p1,c,ps,d0,t,nn,i,L,Cs,so,ao,d,ds,ns,xs,J,is,rfl,p',q0,hR,hA,q7,g',ht,hP,c6,q8,hd,hn,i1,i2,Y,s9,c9,q,t5⟩:=h;refine#[_,(jd (jy 4 fc.nd$ cN.e hr.m$ ja (kU (pv 0) Z)$ ja (jz$ pv 2) jb)$ jd (jy 5 fc.nd$ jI jb)$ jd (jy 6 fc.nd je)$ jd (jy 7 fc.nd$ cG.e hr.m$ ja (pv 2)$ ja (pv 6) jb)$ jd (Kt RJ (kc$ jz$ pv 7)$ jd (jy 8 fc.nd$ jv j4 (pv 1)$ jh$ ja (jF jN Z ml ME$ ja (pv 5) jb) jb)$ jd (jy 9 fc.nd$ cL.e hr.m$ ja (jz$ pv 2)$ ja (pv 6)$ ja (jK kO (pv 7) (jG je) jW) jb)$ jd (jx (jA Yd (pv 9) (@zZ _ _ _)$ aG _) (jd (jy 10 fc.nd$ cE.e hr.m$ ja (pv 4)$ ja (jz$ pv 7)$ ja (jz$ pv 7) jb)$ jg$ jy 11 fc.nd$ cV.e hr.m$ ja (jz$ pv 2)$ ja (pv 6)$ ja (pv 10) jb)$ jd (jy 10 fc.nd$ cI.e hr.m$ ja (jz$ jr jM (jr jM (pv 2) je (λ_ _=>Z)) (pv 9) (λ_ _=>Z)) jb)$ jg$ jy 11 fc.nd$ pv 9)$ jd (jy 6 fc.nd$ kr (jA Yd (pv 11) (@zZ _ _ _)$ aG _) (pv 6)$ jv jU (pv 11) je)$ jd (jy 12 fc.nd$ jv j4 (jK kO (pv 7) (jG je) jW)$ jh$ ja (j7 (pv 0) ck.cl m0 GW hr.m bW .nil j5$ ja (pv 8)$ ja (cK.e hr.m$ ja (jz$ pv 2)$ ja (pv 11) jb)$ ja (pv 10)$ ja (pv 3) jb) jb)$ jd (jQ$ kM LM L9 LZ jT (pv 5)$ ja (pv 12) jb)$ jg$ jx (PW.pt$ Ju (jA yz (pv 9) (@zZ _ _ _)$ aG _)$ qA$ jA qo (cF.e hr.m$ ja (jz$ pv 12) jb) (cF.e hr.m$ ja (jz$ jr jM (jr jM (pv 2) je (λ_ _=>Z)) (pv 9) (λ_ _=>Z)) jb)$ aG _) (jg$ jy 7 fc.nd$ cG.e hr.m$ ja (pv 2)$ ja (pv 6) jb)$ jd (jQ$ kM LM L9 LZ jT (kU (pv 0) Z)$ ja (pv 8) jb)$ jg$ jy 7 fc.nd$ cO.e hr.m$ ja (pv 4)$ ja (pv 12) jb)$ jg$ jo$ jh$ ja (jz$ pv 2)$ ja (jz$ pv 2)$ ja (jE jL Z m1 Ni$ ja (pv 5) jb)$ ja (jz$ pv 7) jb),?_];let q9:=aI;let hM:=hR.hm;let⟨c',gA,eA,ss,ec,hc,hg,he,b4⟩:=i2;cases ec;let⟨v,hv,_,i3,i4⟩:=hP.at hd;let⟨ys,D,i',r0,pr,d2⟩:=hP.part hd hv;let⟨j0,a4⟩:=c9.steps d2 Y;let l3:=zK Y b4;let r1:=JA Y b4;let b7:∀(k:Nat) (st:eX),so.steps[k]?=δ st->∃n:Nat,st.1=(n:Int):=λ(k:Nat) (st:eX) h=>let #[#[n,_,e,_],_]:=a4 h;#[n,e]
 let e7:aK M J Cs (j+1) d.f is L t=eB M (aK M J Cs j) Cs D (M+2) (eS (nU D) (b8 D.way.sets$ aR D.ps is) D.way.goal) L t:=by show(match fb J d.f with |none=>OC.long |some D=>eB M (aK M J Cs j) Cs D (M+2) (eS (nU D) (b8 D.way.sets$ aR D.ps is) D.way.goal) L t)=_;rw[d2]
 generalize aK M J Cs (j+1) d.f is L t=t3 at q t5 e7;refine aj λF1 B=>#[_,Z,r,C,dx,_,_,Z,hR.ins,ck.cl,ck.n5,Z,ju hc fo #[pA,d.f,xs,i,v,Z,hP.at',hv,i3,i4,B _ _ ?_]];clear B;refine aj λF1 B=>#[lN,λU n0=>B _ _ ?_];clear B;let s1:ae H (af H U$ .lst []):=jf n0;let l1:af H U (.lst []) U=δ (.lst []):=jc;generalize af H U (.lst [])=H1 at s1 l1 ⊢;refine aj λF1 B=>B _ _ ?_;clear B;refine aj λF1 B=>#[_,Z,_,Z,d.f,is,so,ao,c,gA,eA,ss,0,Z,s1 _ _ hc,s1 _ _ he,tK (b4.mono$ ae.tm s1) Y (LF _) (b7 0) λgl H2 h2 s2=>B _ _ ?_];clear B;let S2:=s1.trans s2;let gz:GT (aR D.ps is):=qR i1;let h2:aP H2 (Hg$ Er ao so.steps) gl []:=h2;rw[<- j0]at h2;let g1:=QX (H:=H) (nA:=nA) (d:=d) (by rw[Yj,pr.nms];exact h2) (qd pr.wv.sets gz) pr.wv.goal;rw[pr.nms]at g1;let d3:U≠r:=Me (jl hR.ins n0);let d4:U≠lA:=Me (jl hR.lf n0);let j1:cA≠U:=jl hR.ce n0;let c1:aA≠U:=by let⟨as,h1,_⟩:=hA.ex;exact jl h1 n0
 refine aj λF1 B=>?_;refine oM (IC M (aK M J Cs j) D t3 nA C r dx aA cA lA pA p1 c U d d0 t nn (j+1) Cs v ss H) (M+1 - t) #[θ,θ,θ,θ,θ,gl,_,0,M+2,.nil,[],L,Z,s2 _ _ l1,Z,trivial,by show 0+1<=j+1;omega,LF _,g1,hR.same S2,hA.same S2,g',ht,dn.of_same S2,by show M+1 - t+t+0=M+1;omega,by rw[e7];show OC.pre .nil (eB M (aK M J Cs j) Cs D (M+2) _ L t)=_;cases eB M (aK M J Cs j) Cs D (M+2) (eS (nU D) (b8 D.way.sets$ aR D.ps is) D.way.goal) L t<;>rfl,by show M+2<=M+2+(t+0);omega] ?_;intro kk σ H3 E' rt fE F kT cF.k Gq kq hW;let⟨o8,o9,r2,r3,o4,gl,gd,m,mm,sk,N,L1,rfl,w1,w2,w3,w4,w5,w6,w7,w8,w9,d5,w',r4,W,r5⟩:=hW;obtain⟨mm,rfl⟩:∃m',mm=m'+1:=#[mm - 1,UK];let t0:=hA.tm hR w';let m7:=JA w3 w2;cases w6 with
 |give gp a e3 h5 ia=>subst e3;refine kq$ ju h5 Z #[Z,_,Z,?_];rw[show decide (ri (Str.ofString "give")=ri (Str.ofString "go"))=μ by decide+kernel];refine cF.k _$ B _ _ ?_;refine(ju (t0 _ _ hc) fo$ ju (t0 _ _ hc) lR #[_,Z,U,N,Z,.inl #[aJ.of w1,λl2 k0=>?_]]);let s4:ae H3 (af H3 l2$ .tup N):=jf k0;refine(ju (s4 _ _ h5) lR #[su,λv2 nv=>?_]);let s5:=s4.trans (jf (o:=.tup [.str d.f,.ref gA,.ref l2,.int a]) nv);let W:OC.ok (sk.app .nil) a L1 (t+sk.size)=t3:=W;rw[KB w3]at W;exact q _ sk a L1 _ W.symm #[v2,gA,l2,N,Z,jc,s5 _ _$ t0 _ _ hg,ar jc nv,w2.mono$ ae.tm s5] w3 w4 ia (w7.same s5) w9 d5 (w8.same s5) (w'.trans$ dn.of_same s5)
 |go gp h7 n X hs e3 h5 h6 b2 hl hi=>
  subst e3;refine kq$ ju h5 Z #[Z,_,Z,?_];rw[show decide (ri (Str.ofString "go")=ri (Str.ofString "go"))=ν by decide+kernel];refine kT _ ?_;clear kT cF.k B;let P1:=i'.mono t0;let⟨pa,ca,wv,cs,r6,r7,_,_,k1⟩:=P1.parts;let⟨ka,na,wa,dv,r8,_,d6⟩:=P1.cut k1 b2;let k2:n < D.cs.length:=by rw[pr.len];exact(ξ.mp b2).1
  obtain⟨cd,c2⟩:∃cd,D.cs[n]?=δ cd:=#[_,Ls k2];let cr:=(pr.cs n X cd b2 c2).mono t0;let⟨k3,e,c0⟩:=cd;let⟨e9,ed,d1,k4,l5,k5⟩:=cr;let e9:k3=canon X.M:=e9;subst e9;let W:OC.pre sk (match D.cs[n]? with
   |none=>OC.long
   |some c=>match dX M (aK M J Cs j) Cs (aR c.nm hs) L1 (t+sk.size) c.e with
    | .ok w L1 t1=>(eB M (aK M J Cs j) Cs D mm (nV D c hs w.wh) L1 t1).cons (n:Int) hs w
    | .long=>.long
    | .deep=>.deep)=t3:=W
  rw[c2]at W;let W:OC.pre sk (match dX M (aK M J Cs j) Cs (aR (canon X.M) hs) L1 (t+sk.size) e with
    | .ok w L1 t1=>(eB M (aK M J Cs j) Cs D mm (nV D #[canon X.M,e,c0] hs w.wh) L1 t1).cons (n:Int) hs w
    | .long=>.long
    | .deep=>.deep)=t3:=W
  let gk:GT (aR (canon X.M) hs):=qR hi;let d7:e.Cs ((ds.map Df.f).zip ns):=by
   cases e with
   |ask=>trivial
   |st p0 l=>cases l<;>first |trivial |exact hP.cs hd _ k4
  let h8:=t0 _ _ hc;let h':=t0 _ _ he;let h0:=b4.mono t0;let fq:N.length<=M:=by omega
  refine aj λF1 B=>#[_,Z,_,Z,U,_,Z,.inl$ aJ.of w1,i8,λq1 n7=>#[p1,q1,ps.map rm,_,Z,Z,ar (t0 _ _ c6) n7,jc,(by rw[Lw];show ps.length+1<=υ;omega),λq2 H4 e4 s4=>B _ _ ?_]];clear B;let S4:ae H3 H4:=(jf n7).trans s4;let e4:H4 q2=δ (.tup ((ps++[(N.length:Int)]).map rm)):=by rw[Mc];exact e4
  refine aj λF1 B=>(ju (S4 _ _ h8) mO #[_,Z,_,Z,_,Z,gp,_,Z,S4 _ _ h5,λq3 H5 e5 s5=>?_]);let S5:=S4.trans s5;let e5:H5 q3=δ (.tup [.int (n:Int),.ref h7]):=e5;refine#[eA,ss,so,m,(n:Int),hs,.ref q3,Z,S5 _ _ h',h0.mono$ ae.tm S5,Y,s9,UK,jD e5$ jm Z jV$ jm Z (qS$ S5 _ _ h6) jC,λH6 s6=>B _ _ ?_];clear B;let S6:=S5.trans s6;refine aj λF1 B=>?_;let nx:∀(lk tk:Option Nat) (ud:V) (H7:Hp),ae H3 H7->H7 q2=δ (.tup ((ps++[(N.length:Int)]).map rm))->aP H7 (wP (aR (canon X.M) hs) e) ud []->IM e (aR (canon X.M) hs) so.steps m tk->(∀jj,lk=δ jj->tk=δ jj/\∃o,so.steps[jj]?=δ o/\o.2.2.ok μ/\gJ o.2.2=wP (aR (canon X.M) hs) e/\Er ao (so.steps.drop$ jj+1)=nV D #[canon X.M,e,c0] hs o.2.2.wh)->F1 [↑r,↑p1,↑c,δ$ .int (d0:Int),δ v,↑U,δ$ .int (m:Int),↑gp,↑q2,δ$ iB lk,δ ud,δ$ iB tk,o4] H7:=by
   intro lk tk ud H7 S7 k6 h3 d8 c3;refine B _ _ ?_;clear B;let k7:Hh m tk<=ss.length:=by
    cases tk with
    |none=>exact w5
    |some jj=>let⟨_,o,ho,_⟩:=d8;let:=(ξ.mp ho).1;show jj+1<=ss.length;omega
   refine aj λF1 B=>?_;let n':F1 [↑r,↑p1,↑c,δ$ .int (d0:Int),δ v,↑U,δ$ .int ((Hh m tk:Nat):Int),↑gp,↑q2,δ$ iB lk,δ ud,δ$ iB tk,o4] H7:=by
    refine B _ _ ?_;clear B;refine aj λF1 B=>#[_,Z,_,Z,gp,_,Z,S7 _ _ h5,λq4 H8 e8 s8=>?_];let S8:=S7.trans s8;let e8:H8 q4=δ (.tup [.int (n:Int),.ref h7]):=e8;let R8:=w7.same S8;let A8:=w8.same S8;let t8:=t0.trans (ae.tm S8);let d':=s8 _ _ k6;refine#[_,Z,r,dx,_,Z,R8.ins,Z,_,Z,ju (S8 _ _ h8) mO #[_,Z,GL Z (S8 _ _ h') (h0.mono$ ae.tm S8) Y s9 a4 d8 λov k8=>?_]];refine#[_,Z,_,Z,M,r,dx,aA,cA,lA,pA,q2,ps++[(N.length:Int)],d0,t+sk.size,nn+sk.size,L1,Cs,aR (canon X.M) hs,ov,ud,e,ys,ds,ns,xs,J,Z,UK,R8,A8,UK,w9,d5,hP.mono t8,d',by rw[Ly];show ps.length+1+j<=60;omega,UL,h3.mono$ ae.tm s8,d1.mono$ ae.tm S8,gk,d7,k8,λw vv L' H9 f0 k' o1 ft l6 R9 l9 t9 A9 k9=>?_,ie.next3 ((t5.imp (λz=>by rw[z]at W;exact W.symm) (λz=>by rw[z]at W;exact W.symm)).mono λH9 kk=>λb o n1 n2 n3 nx e=>kk b o n1 n2 n3 nx (S8 _ _$ w' _ _ n1 n2 n3 e))];let t4:=A8.tm R8 k9;refine#[i8,λq5 f4=>#[q4,q5,_,_,Z,Z,ar (t4 _ _ e8) f4,jc,(by show 2+1<=υ;omega),λq6 O e6 l7=>B _ _ ?_]];clear B;let S1:ae H9 O:=(jf f4).trans l7;let K1:dn r lA aA H3 O:=((dn.of_same S8).trans k9).trans (dn.of_same S1);let t7:ai H3 O:=w8.tm w7 K1;let e6:O q6=δ (.tup [.int (n:Int),.ref h7,vv]):=e6;let l0:O U=δ (.lst N):=K1 _ _ d3 d4 c1.symm w1;let R1:=R9.same S1;let A3:=A9.same S1;let v0:=k'.mono (ae.tm S1);let f5:O q2=δ (.tup ((ps++[(N.length:Int)]).map rm)):=S1 _ _ (t4 _ _ d');refine aj λF1 B=>#[_,Z,.inl #[Z,_,aJ.of l0],_,Z,U,_,_,Z,Z,l0,UK,B _ _ ?_];clear B;let b1:aD U O (af O U$ .lst$ N++[.ref q6]):=λb o nb e=>by rw[ji nb];exact e
    let G:ai O (af O U$ .lst$ N++[.ref q6]):=λb xs e=>b1 _ _ (jO e l0 (by intro z;cases z)) e;let l4:af O U (.lst$ N++[.ref q6]) U=δ (.lst$ N++[.ref q6]):=jc;generalize af O U (.lst$ N++[.ref q6])=R at b1 G l4;let g:=t7.trans G;let h4:w.wh.side < X.ws.length:=by
     rw[d6.v.len,<- ed];cases e with
     |ask ta T=>show _ < 2;unfold Wh.side;split<;>(try split)<;>omega
     |st p0 l=>show _ < 1;cases w<;>first |exact Nat.one_pos |exact o1.elim | (cases l<;>exact ft.elim)
    obtain⟨w0,b9⟩:∃w0,c0[w.wh.side]?=δ w0:=#[_,Ls (by rw[l5];exact h4)];let⟨f6,b3⟩:=k5 _ _ w0 (Ls h4) b9;let e':nV D #[canon X.M,e,c0] hs w.wh=eS (nU D) (b8 w0.sets$ oi e w.wh$ aR (canon X.M) hs) w0.goal:=by show(match c0[w.wh.side]? with |some wd=>eS (nU D) (b8 wd.sets$ oi e w.wh$ aR (canon X.M) hs) wd.goal |none=>Gd.give 0)=_;rw[b9]
    rw[f0]at W;let W:OC.pre sk ((eB M (aK M J Cs j) Cs D mm (nV D #[canon X.M,e,c0] hs w.wh) L'$ t+sk.size+1+w.size).cons (n:Int) hs w)=t3:=W;rw[XJ _ w3]at W;let s0:=KA (n:=(n:Int)) (hs:=hs) (w:=w) w3;let ez:t+sk.size+1+w.size=t+(Sk.put (n:Int) hs w sk).size:=by rw[s0];omega
    let S:Rn R C r dx (db aA) cA lA pA M (t+sk.size+1+w.size) L' Cs:=#[b1 _ _ d3.symm R1.ins,b1 _ _ d4.symm R1.lf,b1 _ _ j1 R1.ce,R1.iL,R1.iC,R1.cl,R1.tl,R1.hm];let A2:An R aA (nn+sk.size+w.size):=A3.keep G λo e=>b1 _ _ c1 e;rw[ez]at S l9 t9 W;let f7:∀(g0:V) (H0:Hp),ai R H0->(∀b o,b≠aA->R b=δ o->H0 b=δ o)->An H0 aA (nn+(Sk.put (n:Int) hs w sk).size)->aP H0 (Hg$ nV D #[canon X.M,e,c0] hs w.wh) g0 []->E'.nx [↑r,↑p1,↑c,δ$ .int (d0:Int),δ v,↑U,δ$ .int ((Hh m tk:Nat):Int),δ g0,↑q2,δ$ iB lk,δ ud,δ$ iB tk,↑q6] H0:=by
     intro g0 H0 I b0 A1 h2;let g2:=QX (H:=H3) (nA:=nA) (d:=d) (by rw[Yj,pr.nms,<- e'];exact h2) (qd b3.sets$ Yi ft gk) b3.goal;rw[pr.nms,<- e']at g2;let n4:=A2.ne S;refine fE (kk - (w.size+1)) _ _ UK #[_,_,_,_,_,g0,_,Hh m tk,mm,Sk.put (n:Int) hs w sk,N++[.ref q6],L',Z,b0 _ _ c1.symm l4,uP (I _ _$ G _ _ e6) (I _ _$ g _ _ h6) ((v0.mono G).mono I) w3 ((w2.mono g).mono I),Q6 o1 w3,?_,k7,g2,#[b0 _ _ n4.1.symm S.ins,b0 _ _ n4.2.1.symm S.lf,b0 _ _ n4.2.2.symm S.ce,S.iL,S.iC,S.cl,S.tl,S.hm],A1,l9,t9,?_,by rw[s0];omega,W,UK]
     .let:=Q7 (n:=(n:Int)) (hs:=hs) (w:=w) (j:=j) l6 w3 UK;omega
     .intro b o n1 n2 n3 e;exact b0 _ _ n3$ b1 _ _ (jl e n0)$ K1 _ _ n1 n2 n3$ w' _ _ n1 n2 n3 e
    refine oR λG1 yT yF=>?_;let f9:G1 μ R:=by
     refine yF _ ?_;let⟨as,a1,a2,a3⟩:=A2.ex;refine aj λF1 B=>#[_,Z,r,C,dx,_,_,Z,S.ins,ck.cl,n6,Z,.inl #[Z,_,aJ.of a1],_,Z,aA,as,_,Z,Z,a1,UK,B _ _ ?_];clear B;let g4:=G _ _ f5;let A1:An (af R aA$ .lst$ as++[.ref q2]) aA (nn+(Sk.put (n:Int) hs w sk).size):=An.add (k:=0) a1 (by rw[s0];show as.length+1<=_;omega) a3 (λy hy=>by cases τ.mp hy;exact#[ps++[(N.length:Int)],UL,q2,Z,g4]);let I:ai R (af R aA$ .lst$ as++[.ref q2]):=λb xs e=>by rw[ji$ jO e a1 (by intro z;cases z)];exact e
     let b0:∀b o,b≠aA->R b=δ o->af R aA (.lst$ as++[.ref q2]) b=δ o:=λb o nb e=>by rw[ji nb];exact e
     generalize af R aA (.lst$ as++[.ref q2])=H0 at A1 I b0;let t2:=g.trans I;let sv:lv H0 nA d ys v q6 n h7 vv X hs w.wh e w0:=#[P1.mono t2,I _ _$ G _ _ e6,b2,t2 _ _ h6,hl,hi,(GU o1 v0).mono$ G.trans I,ed,d1.mono t2,ft,by rw[f6];exact Ls h4,b3.mono t2];refine#[_,Z,_,Z,v,vv,q6,h7,n,d,ys,X,hs,w.wh,e,w0,Z,sv,λu2 H' b5 c4=>f7 u2 H' (I.trans$ ae.tm c4) (λb o nb e=>c4 _ _ (b0 _ _ nb e)) (A1.same c4) ?_];let b5:aP H' (oq (dI nA d) (b8 w0.sets$ oi e w.wh$ aR (canon X.M) hs) w0.goal) u2 []:=b5;rw[Yj,pr.nms,<- e']at b5;exact b5
    cases lk with
    |none=>exact#[_,Z,Z,_,Z,aX (by show(!decide (V.non=V.non))=μ;rw[LX Z];rfl) f9]
    |some jj=>
     let⟨l8,o,ho,o2,l',g5⟩:=c3 jj Z;subst l8;let a0:jj < ss.length:=by rw[l3];exact(ξ.mp ho).1
     let⟨n2,r9,wo,p,h,u,z1,_,_,_,ex,hp,hh,hw⟩:=z9 Y h0 (Ls a0);rw[ho]at z1;cases z1;let hk:ss[jj]?=↑p:=by rw[<- ex];exact Ls a0
     refine#[_,Z,Z,_,Z,ci (by rw[LL (by intro z;cases z)];rfl)$ ju (G _ _ e6) mO #[vv,w,Z,v0.mono G,o1,ju (g _ _ h8) mO #[_,Z,eA,_,_,_,Z,Z,aC.of$ g _ _ h',jJ hk,p,_,_,_,Z,Z,aC.of$ g _ _ hp,mO,u,wo,Z,hw.mono g,o2,Z,_,Z,?_]]];by_cases hf:w.fnd=wo.fnd
     .rw[LX (show rm w.fnd=rm wo.fnd by rw[hf])];refine yT _ ?_;let ew:w.wh=wo.wh:=GS o1 o2 ((sQ f0).trans l'.symm) hf;refine#[_,Z,_,Z,d.f,is,so,ao,c,gA,eA,ss,jj+1,Z,g _ _ h8,g _ _ h',tK (h0.mono g) Y a0 (b7$ jj+1) λg0 H0 h2 c5=>f7 g0 H0 (ae.tm c5) (λb o _ e=>c5 _ _ e) ((A2.le (by rw[s0];omega)).same c5) ?_];rw[ew,<- g5];exact h2
     .rw[LL (show ¬rm w.fnd=rm wo.fnd from λz=>hf (by injection z))];exact f9
   cases tk with
   |none=>exact#[_,Z,Z,_,Z,ci (LX Z) #[_,Z,n']]
   |some jj=>exact#[_,Z,Z,_,Z,aX (LL (λz=>by cases z)) #[_,Z,_,_,Z,Z,n']]
  clear B;let g6:=s6 _ _ (s5 _ _ e4);cases m2:nS (lT (n:Int) hs) so.steps m with
  |none=>
   refine#[_,Z,Z,_,Z,ci (LX Z) ?_];refine aj λF2 f2=>#[_,Z,ju (S6 _ _ h5) Z$ ju (S6 _ _ h5) Z #[v,n,h7,d,ys,X,hs,e,Z,P1.mono$ ae.tm S6,b2,S6 _ _ h6,hl,hi,ed,d1.mono$ ae.tm S6,λud H7 h3 s7=>f2 _ _ ?_]];clear f2;let S7:=S6.trans s7;let⟨wE,o6,dE,hE⟩:=EV (k:=aR (canon X.M) hs) d1;refine(ju (S7 _ _ h8) mO #[_,Z,_,Z,eA,ss,so,wE,m,ud,Z,S7 _ _ h',h0.mono$ ae.tm S7,Y,s9,UK,by rw[dE];exact h3,o6,λH8 s8=>nx θ _ ud H8 (S7.trans s8) (s8 _ _$ s7 _ _ g6) (h3.mono$ ae.tm s8) ?_ (λjj z=>by cases z)]);cases m3:oW so.steps m wE with
   |none=>trivial
   |some jj=>let⟨f',i0,s',a',rfl,g7⟩:=tX m3;let⟨hm,o,ho,m4⟩:=ZJ g7;let⟨p0,x,q',ts,e1,e2⟩:=hE _ _ _ _ Z;let⟨s2,a2,eo⟩:=Fn m4;refine#[hm,o,ho,λf3 r' s3 a3 z=>?_];rw[eo]at z;cases z;exact#[p0,x,q',ts,e1,e2]
  |some jj=>
   refine#[_,Z,Z,_,Z,aX (LL (λz=>by cases z)) ?_];let⟨hm,o,ho,c3⟩:=ZJ m2;let⟨en,m5⟩:=Fq c3;obtain⟨⟨n2,t',m6,b',e0,e3⟩,_⟩:=a4 ho;let e2:n2=n:=by rw[en]at m6;omega
   subst e2;rw[c2]at b';cases b';rw[m5]at e0 e3;let a0:jj < ss.length:=by rw[l3];exact(ξ.mp ho).1
   let⟨n3,u0,wo,p,h,u,z1,o3,_,_,ex,hp,hh,hw⟩:=z9 Y h0 (Ls a0);rw[ho]at z1;cases z1;let hk:ss[jj]?=↑p:=by rw[<- ex];exact Ls a0
   refine aj λF2 f2=>(ju (S6 _ _ h8) mO #[_,Z,eA,_,_,_,Z,Z,aC.of$ S6 _ _ h',jJ hk,p,_,_,_,Z,Z,aC.of$ S6 _ _ hp,mO,u,wo,Z,hw.mono$ ae.tm S6,o3,λud H7 h3 s7=>f2 _ _ ?_]);clear f2;let e0:gJ wo=wP (aR (canon X.M) hs) e:=e0;rw[e0]at h3;refine#[_,Z,nx (δ jj) (δ jj) ud H7 (S6.trans s7) (s7 _ _ g6) h3 #[hm,_,ho,λf' i0 s' a' z=>?_] λj2 z=>?_]
   .let z:wo= .cl f' i0 s' a':=z;subst z;exact xA d1 e0
   .cases z;exact#[Z,_,ho,o3,e0,e3]
noncomputable abbrev DC:cv:=bK 46
inductive pE(g f n:η)(s:List V)(H:Hp)(Q:VK)(E:XK):Prop
 |mk(M:Nat)(q j c:η)(i:Nat)(e:aO)(r:Sk)(h:Int)(d:Df)(k:List Df)(o:List Nat)(t:List V)(b:List cq)(m:List Int)(_:s=[.ref q,.ref c,.ref j,.int (M:Int)])(_:M<=60)(_:Ps H n q k o t b)(_:k[i]?=δ d)(_:o[i]?=δ m.length)(_:∀z∈m,eP z)(_:H j=δ (.dK e))(_:GT e)(_:h9 H d.f m r h (.ref c))(_:r.ok ν)(_:r.size<=1000)(_:sj b d.f m r h)(_:∀(p l:η) (v:V) (sk:Sk) (a:Int) (L':aO) (H':Hp),aK M b e 16 d.f m [] 0= .ok sk a L' sk.size->H' p=δ (.tup [v,.ref l])->h9 H' d.f m sk a v->sk.ok ν->sk.dep<=15->sk.size<=M->ae H H'->Q (.ref p) H')(_:ie (aK M b e 16 d.f m [] 0= .long) (aK M b e 16 d.f m [] 0= .deep) E g f (Kp H))
theorem ZL(s:ae H a)(h:a x=θ):H x=θ:=by
 cases z:H x with
 |none=>rfl
 |some o=>have:=s _ _ z;rw[h]at this;cases this
theorem vw:ak ["parts","old","cells","most","running","chain"] z28z (aa DC):=bJ
theorem CU(F:rx K "again" DC f fd)(ck:RK K C)(n6:aW K C "anew")(mk:Mk K C fI)(GI:ah P w K mg base aE 3 fI O z6z (mx C))(bI:aw K O z6z [])(mC:mg "AgainRun"=↑C)(GA:ah P w K mg base (c7 P w) 70 fA U z15z (nk C TL TD nA 16))(bA:aw K U z15z [])(R:a8 K C "chain_along" fA)(V:mg "sorted"=θ):ah P w K mg base (c7 P w) 71 f fd z28z (pE TL TD nA):=by
 refine F.ok1 vw λc0 A W s H vs Q E hr h=>?_
 let⟨M,j,k,c,i,Cs,so,ao,d,ds,ns,xs,t,is,rfl,hM,hP,hd,hn,X,u,Y,h0,o1,s6,B,q,t0⟩:=h;refine#[_,(jd (jy 4 vw.nd$ Q0 mk GI hr.m Z mC bI .nil bH$ ja (pv 0)$ ja (pv 2)$ ja (pv 3) jb)$ jd (jy 5 vw.nd$ j7 (pv 4) ck.cl R GA hr.m bA .nil j5$ ja (jh jb)$ ja (pv 1)$ ja je jb)$ jg$ jo$ jh$ ja (pv 5)$ ja (jF Xk Z V Pt$ ja (kU (pv 4) Z) jb) jb),?_];let b0:=aI;refine aj λF1 G=>#[_,Z,_,Z,_,Z,λr D J nd ne=>?_];let s0:ae H (af (af H D$ .own r) r$ .ins C D []):=λc o e=>by rw[ji$ jl e J,ji$ jl e nd];exact e
 refine#[r,D,j,k,M,Z,jc,λL g nl na n0=>#[Z,G _ _ ?_]];clear G;let n1:L≠r:=λe=>by rw[e,jc]at nl;cases nl
 let n2:g≠r:=λe=>by rw[e,jc]at na;cases na
 let n:=ZL s0 nl;let N:=ZL s0 na;let S:ae H (af (af (af (af (af H D$ .own r) r$ .ins C D []) L$ .dK []) g$ .lst []) r$ .ins C D$ c8 (db g) k L j M 0):=λc o e=>by rw[ji$ jl e J,ji$ jl e N,ji$ jl e n];exact s0 _ _ e
 let R1:Rn (af (af (af (af (af H D$ .own r) r$ .ins C D []) L$ .dK []) g$ .lst []) r$ .ins C D$ c8 (db g) k L j M 0) C r D (db g) k L j M 0 [] Cs:=#[jc,by rw[ji n1,ji n0];exact jc,S _ _ u,GT.nil,Y,jl u n,xk g,UK];let A1:An (af (af (af (af (af H D$ .own r) r$ .ins C D []) L$ .dK []) g$ .lst []) r$ .ins C D$ c8 (db g) k L j M 0) g 0:=#[[],by rw[ji n2];exact jc,Lx _,λx z=>by cases z];generalize (af (af (af (af (af H D$ .own r) r$ .ins C D []) L$ .dK []) g$ .lst []) r$ .ins C D$ c8 (db g) k L j M 0)=H1 at S R1 A1;refine aj λF1 G=>#[_,Z,r,D,_,Z,R1.ins,Z,lN,λpa n3=>#[_,Z,?_]];let I:ae H1 (af H1 pa$ .tup []):=jf n3;let T:=ae.tm (S.trans I);refine#[M,r,D,g,k,L,j,pa,c,[],0,0,0,i,[],Cs,so,ao,d,ds,ns,xs,t,is,Z,Z,UJ,R1.same I,A1.same I,Lx _,Lx _,LF _,hP.mono T,jc,UJ,hd,hn,X,h9.mono' h0 T,o1,s6,B,λv sk a L' H3 eq h1 o2 d0 ia R3 l3 t3 A3 k3=>G _ _ ?_,ie.next3$ t0.mono λH' kk=>λb o nx e=>kk b o (jl e J) (jl e n) (jl e N) nx (I _ _$ S _ _ e)];clear G;rw[O0]at eq t3 A3;let s3:ae H H3:=λb o e=>k3 _ _ (jl e J) (jl e n) (jl e N) (I _ _$ S _ _ e);let⟨as,a1,a2,a3⟩:=A3.ex;refine#[_,Z,_,Z,r,C,D,_,_,Z,R3.ins,ck.cl,n6,Z,g,as,Z,aJ.of a1,UK,λx hx=>?_,λl ws n4=>?_]
 .let⟨p,hp,y,e1,e2⟩:=a3 x hx;exact#[y,p,e1,e2,hp]
 let s4:ae H3 (af H3 l$ .lst ws):=jf n4;refine#[bL,λp np=>?_];let s5:=jf (o:=.tup [v,.ref l]) np;exact q p l v sk a L' _ eq jc (h9.mono' h1$ ae.tm$ s4.trans s5) o2 UK t3 ((s3.trans s4).trans s5)
noncomputable abbrev Gc:cv:=bK 82
inductive nJ(n:Nat)(d:List V)(H:Hp)(Q:VK)(b:XK):Prop
 |mk(f:ρ)(c:List Int)(s:Sk)(a:Int)(u:V)(_:d=[u])(_:h9 H f c s a u)(_:s.ok ν)(_:s.dep < n)(_:s.size<=60)(_:∀H',ae H H'->Q (.int (s.size:Int)) H')
noncomputable def wR(s:Sk):List Int:=s.steps.map λo=>1+(o.2.2.size:Int)
theorem ZM:∀{s:Sk},s.ok ν->(wR s).sum=(s.size:Int)
 | .nil,_=>rfl
 | .st n h w r,o=>by show(1+(w.size:Int))+(wR r).sum=((w.size+r.size+1:Nat):Int);rw[ZM o.2];omega
 | .ask _,o=>o.elim
 | .rd _ _,o=>o.elim
 | .wr _ _,o=>o.elim
 | .cl _ _ _ _,o=>o.elim
theorem D1{s:Sk}:s.ok ν->s.steps.length<=s.size:=λo=>by
 induction s with
 |st n h w r _ i=>have:=i o.2;show r.steps.length+1<=w.size+r.size+1;omega
 |nil=>exact Lx _
 |_=>exact LF _
theorem Ik:ak z16z z16z (aa Gc):=bJ
noncomputable def se:hG:=#[.function,[(".0",.local),("_law_step",.local),("_law_size",.globalImplicit)],μ,μ,[]]
theorem CO:(["_law_step"]:List ρ).Nodup:=by decide+kernel
theorem BW:bu z16z (aa Gc) se ["_law_step"] 1 []:=sr
theorem FH(F:rx K "_law_size" Gc f fd)(cS:Cl P w K mg base (n+1) fS f0 z16z (nJ n) "_law_size")(ms:mg "sum"=θ):ah P w K mg base aE (n+2) f fd z16z (nJ$ n+1):=by
 refine F.ok Ik λc0 A O s H vs Q E hr h=>?_
 let⟨f,is,s,a,u,rfl,hc,d,hd,hz,q⟩:=h;refine#[_,(jg$ jo$ jF (sG Z) Z ms boot_sum$ ja (@zi _ _ _ _ _ _ _ (["_law_step"]) (1) ([]) _ _ _ _ Z (zN$ jz$ pv 0) BW (λ_ _ _ _ _=>(jw (i:=0) CO Z$ Φ Z)) (λ_ _ _ _ _=>(@zz _)) (λ_ _ _ _ _=>(kr (kc$ jr (r:=eh K) jM (jr (r:=eh K) jM (pv 0) je (λ_ _=>Z)) je (λ_ _=>Z)) (jv jU je$ cS.e hr.m$ ja (jr (r:=eh K) jM (jr (r:=eh K) jM (pv 0) je (λ_ _=>Z)) je (λ_ _=>Z)) jb) je)) (by intro _;rfl)) jb),?_];let b0:=aI;let⟨c,g,e,k,rfl,h1,B,R,T⟩:=id hc;let ln:=zK d T;let le:=D1 d;refine(ju h1 mO #[e,Z,#[_,aC.of R],?_]);refine zX (K:=K) (a:=e) (xs:=k) UK (λi C j=>ae H j/\i<=k.length/\C=((wR s).map rm).take i) #[λ_ _ z=>z,LF _,Z] (λi C j h=>#[aC.of$ h.1 _ _ R,by rw[h.2.2,Mb];exact O6 _ _]) ?_ ?_
 .intro i x C j U h;let⟨S,hi,rfl⟩:=h;let⟨n0,hs,w,p,hh,u,g1,o,D,t,rfl,g2,g3,g4⟩:=z9 d T U;let B:=S _ _ g2;let W:=g4.mono (ae.tm S);let il:i < k.length:=(ξ.mp U).1;let X:∀G,ae j G->ae H G/\i+1<=k.length/\((wR s).map rm).take i++[rm (1+(w.size:Int))]=((wR s).map rm).take (i+1):=λG y=>#[S.trans y,il,by
   rw[M1];unfold wR;rw[LK,LK,g1];rfl]
  let v:ae j j:=λ_ _ z=>z;cases w with
  |nil |st=>exact o.elim
  |ask b |wr b b' |rd b b'=>let⟨I,rfl,J⟩:=W;exact(ju B mO #[I,_,_,_,Z,Z,aC.of J,fo,Z,_,Z,aX UM$ X _ v])
  |cl f' M L a'=>let⟨I,c1,g',e1,Y,rfl,J,q2,q3,q4,q5⟩:=W;let t:L.size+1<=s.size:=t;let D:L.dep+1<=s.dep:=D;exact(ju B mO #[I,_,_,_,Z,Z,aC.of J,fo,Z,_,Z,ci UM$ ju B mO #[I,_,_,_,Z,Z,aC.of J,lR,f',M,L,a',.ref c1,Z,#[c1,g',e1,Y,Z,q2,q3,q4,q5],o,UK,UK,λG y=>#[1,(L.size:Int),Z,Z,X _ y]]])
 intro C j h l nl;let⟨S,_,rfl⟩:=h;let tl:((wR s).map rm).take k.length=(wR s).map rm:=MP (by rw[Lw];unfold wR;rw[Lw,ln];exact Lx _);rw[tl];refine#[l,wR s,Z,aJ.of jc,?_];rw[ZM d];exact q _$ S.trans$ jf nl
noncomputable abbrev vt:cv:=bK 83
theorem BP:bootBuiltins "ValueError"=δ (.type "ValueError"):=by decide+kernel
structure Cs where
 C:η
 N:η
 R:η
 S:η
 T:η
 W:η
 L:η
 D:η
 B:η
structure nZ(K:β)(c:Cs)(C:η)(d:Bool):Prop where
 x:lQ K C
 kD:kitOne K (.ref C) (.ref c.D)=δ d
 kL:kitOne K (.ref C) (.ref c.L)=δ (!d)
 kC:kitOne K (.ref C) (.ref c.C)=δ μ
 kN:kitOne K (.ref C) (.ref c.N)=δ μ
 kR:kitOne K (.ref C) (.ref c.R)=δ μ
 kS:kitOne K (.ref C) (.ref c.S)=δ μ
 kT:kitOne K (.ref C) (.ref c.T)=δ μ
 kW:kitOne K (.ref C) (.ref c.W)=δ μ
 kv:kitOne K (.ref C) (.type "ValueError")=δ ν
 mb:mroIn K C (.ref c.B)=δ ν
theorem HI{K:β}(h:kitOne K t a=δ μ)(H:kitOne K t b=δ μ)(g:kitOne K t c=δ μ)(i:kitOne K t d=δ μ)(j:kitOne K t e=δ μ)(k:kitOne K t f=δ μ):kitAny K t [a,b,c,d,e,f]=δ μ:=by unfold kitAny;rw[h];show kitAny K t [b,c,d,e,f]=δ μ;unfold kitAny;rw[H];show kitAny K t [c,d,e,f]=δ μ;unfold kitAny;rw[g];exact HG i j k
noncomputable def Bw:Bool->ρ
 |true=>"deep"
 |false=>"long"
theorem Xa(s:ae H b)(e:pT H a C f):pT b a C f:=by
 rcases e with ⟨h,T,e⟩ | ⟨d,T,e,E⟩
 .exact .inl #[h,T,s _ _ e]
 .exact .inr #[d,T,s _ _ e,s _ _ E]
inductive iZ(K:β)(c:Cs)(f:List V)(H:Hp)(Q:VK)(b:XK):Prop
 |mk(a C:η)(e:List (ρ×V))(d:Bool)(_:f=[.ref a])(_:pT H a C e)(_:nZ K c C d)(_:∀H',ae H H'->Q (.str (Bw d)) H')
theorem vO:ak ["_law_fault","_law_others"] ["_law_fault"] (aa vt):=bJ
theorem yx(F:rx K "_law_word" vt f u){c:Cs}(m:mg "isinstance"=θ)(M:mg "ValueError"=θ)(y:mg "int"=θ)(z:mg "NoCount"=δ (.ref c.C))(B:mg "NoName"=δ (.ref c.N))(I:mg "NoRow"=δ (.ref c.R))(J:mg "NoStep"=δ (.ref c.S))(U:mg "NoText"=δ (.ref c.T))(X:mg "Twice"=δ (.ref c.W))(Y:mg "TooLong"=δ (.ref c.L))(G:mg "TooDeep"=δ (.ref c.D)):By P w K mg base 1 f u ["_law_fault"] (iZ K c):=by
 refine F.okM vO (λvs H Q E h=>?_) (λc0 A O s H vs Q E hr h=>?_)
 .let⟨a,C,fs,d,rfl,_⟩:=h;rfl
 let⟨a,C,fs,d,rfl,j,k,q⟩:=h;refine#[_,(jd (jy 1 vO.nd$ jF Qi Z m Nv$ ja (pv 0)$ ja (jh$ ja (kh (v:=.ref c.C) Z z Z)$ ja (kh (v:=.ref c.N) Z B Z)$ ja (kh (v:=.ref c.R) Z I Z)$ ja (kh (v:=.ref c.S) Z J Z)$ ja (kh (v:=.ref c.T) Z U Z)$ ja (kh (v:=.ref c.W) Z X Z) jb) jb)$ jd (jx (PW.pt$ Ka (uM$ Kh$ jF zq Z m Nv$ ja (pv 0)$ ja (JV (v:=.ty "ValueError") Z M BP Z) jb)$ Ka (Kh$ pv 1)$ Jt$ jA qo (jF zq Z m Nv$ ja (pv 0)$ ja (kh (v:=.ref c.D) Z G Z) jb) (jF zq Z m Nv$ ja (pv 0)$ ja (kh (v:=.ref c.L) Z Y Z) jb)$ aG _) (jg$ jo jk) jp)$ jg$ jo$ jr jq (jI$ @Q3 _ _ ["long","deep"] UM) (jE qG Z y Ta$ ja (jF zq Z m Nv$ ja (pv 0)$ ja (kh (v:=.ref c.D) Z G Z) jb) jb) (λ_ _=>Z)),?_];try dsimp only[Ep,d9,Cx.nox,Cx.wish]
 let b0:=aI;refine aj λF1 e=>#[_,Z,(by show 6<=υ;decide),λt n=>#[a,C,_,t,[c.C,c.N,c.R,c.S,c.T,c.W],μ,Z,jc,Xa (jf n) j,k.x,HI k.kC k.kN k.kR k.kS k.kT k.kW,e _ _ ?_]];clear e;let i:ae H (af H t$ .tup [.ref c.C,.ref c.N,.ref c.R,.ref c.S,.ref c.T,.ref c.W]):=jf n;show dy _ _ _ _ (af H t$ .tup [.ref c.C,.ref c.N,.ref c.R,.ref c.S,.ref c.T,.ref c.W]);generalize af H t (.tup [.ref c.C,.ref c.N,.ref c.R,.ref c.S,.ref c.T,.ref c.W])=H1 at i;let g:=Xa i j;refine aj λF1 e=>om λG' p=>#[_,Z,a,C,_,_,_,_,Z,Z,g,k.x,k.kv,_,Z,rj ?_];refine#[_,Z,_,Z,rj ?_];refine#[_,Z,a,C,_,_,_,_,Z,Z,g,k.x,k.kD,_,Z,a,C,_,_,_,_,Z,Z,g,k.x,k.kL,Z,_,Z,p _ _$ aX (by cases d<;>decide+kernel)$ e _ _ ?_];clear e p;refine#[bL,λl nl=>?_];let r:=jf (o:=.lst ((["long","deep"]:List ρ).map ri)) nl;refine#[_,Z,a,C,_,_,_,_,Z,Z,Xa r g,k.x,k.kD,.inr #[d,Z,l,_,_,_,Z,Z,aJ.of jc,(show dO ((["long","deep"]:List ρ).map ri) (if d then 1 else 0)=δ (.str$ Bw d) from by cases d<;>rfl),q _$ i.trans r]]
noncomputable abbrev u6:cv:=bK 84
inductive iQ(l:η)(o:List V)(H:Hp)(Q:VK)(b:XK):Prop
 |mk(M:Nat)(n g h:η)(i:Nat)(f:aO)(d:Df)(j:List Df)(m:List Nat)(p:List V)(e:List cq)(k:List Int)(_:o=[.ref n,.str d.f,.ref g,.ref h,.int (M:Int)])(_:M<=60)(_:Ps H l n j m p e)(_:j[i]?=δ d)(_:m[i]?=δ k.length)(_:H g=δ (.tup (k.map rm)))(_:∀z∈k,eP z)(_:H h=δ (.dK f))(_:GT f)(_:∀(c:η) (sk:Sk) (a:Int) (L':aO) (H':Hp),aK M e f 16 d.f k [] 0= .ok sk a L' sk.size->h9 H' d.f k sk a (.ref c)->sk.ok ν->sk.dep<=15->sk.size<=M->Kp H H'->Q (.ref c) H')(_:aK M e f 16 d.f k [] 0= .long->∀H',Kp H H'->Q (.str "long") H')(_:aK M e f 16 d.f k [] 0= .deep->∀H',Kp H H'->Q (.str "deep") H')
theorem iG:ak ["_law_parts","_law_f","_law_args","_law_cells_here","_law_most","_law_told","e"] z36z (aa u6):=bJ
theorem yl{c:Cs}(F:rx K "_law_run" u6 f fd)(GR:ah P w K mg base (c7 P w) 45 fR l z27z (pM c.L c.D nA))(bR:aw K l z27z [])(kR:fz K (.ref fR)=ν)(mR:mg "run"=↑fR)(GW:By P w K mg base 1 fW q ["_law_fault"] (iZ K c))(bW:aw K q ["_law_fault"] [])(kW:fz K (.ref fW)=ν)(mW:mg "_law_word"=↑fW)(gB:mg "BookError"=δ (.ref c.B))(hB:clsIn K c.B≠θ)(tB:typeIn K (.ref c.B)=δ (.type "type"))(mB:mroIn K c.B (.type "BaseException")=δ ν)(kL:nZ K c c.L μ)(kD:nZ K c c.D ν)(r:mg "dict"=θ):ah P w K mg base aE 46 f fd z36z (iQ nA):=by
 refine F.ok iG λc0 A O s H vs Q E hr h=>?_
 let⟨M,t,v,y,i,Cs,d,ds,ns,xs,p,is,rfl,hM,hP,hd,hn,ha,G,I,J,q1,q2,q3⟩:=h;refine#[_,(jd (jy 5 iG.nd jk)$ jd (@uK _ _ _ _ _ _ _ _ _ _ _ _ (6) Z Z (@Zg _ _ _ _ (5) _ _ iG.nd Z (Φ Z) (@Xu _ _ _ _ _ _ _ _ _ _ _ _ _ _ GR hr.m Z mR kR bR .nil (ja (pv 0)$ ja (pv 1)$ ja (pv 2)$ ja (jE JD Z r TU$ ja (pv 3) jb)$ ja (pv 4) jb) UJ UN UN) UN (by first |exact .inl Z |exact .inr Z)) Z gB hB tB mB iG.nd Z Z (λ_=>(jg$ jy 5 iG.nd$ @Xz _ _ _ _ _ _ _ _ _ _ _ _ _ _ GW (bo.mkM hr.m) Z mW kW bW .nil (ja (pv 6) jb) UJ UN UN)) UJ)$ jg$ jo$ pv 5),?_];refine aj λF1 g=>g _ _ ?_;clear g;refine aj λF1 g=>?_;show D8 _ _ _ _ _ _ [↑t,δ$ .str d.f,↑v,↑y,δ$ .int (M:Int),δ$ .str "none",θ] H;refine#[_,Z,_,Z,_,Z,_,Z,y,Cs,Z,I,λj nh=>?_];let S:ae H (af H j$ .dK Cs):=jf nh;refine#[_,Z,M,t,v,j,i,Cs,d,ds,ns,xs,p,is,Z,UK,hP.mono$ ae.tm S,hd,hn,S _ _ ha,G,jc,J,λu sk a L' H2 k hc ok dp sz s2=>?_,λk=>?_,λk=>?_]
 .let⟨c',z⟩:=id hc;let⟨_,_,_,rfl,_⟩:=z;exact g _ _ #[_,Z,q1 c' sk a L' H2 k hc ok dp sz$ Kp.of_same$ S.trans s2]
 .intro _ H7 R x C T U V hT W;cases U;refine#[kL.mb,λX n=>#[_,Z,x,_,[],μ,Z,.inl #[Z,X,jc],kL,λH8 Y=>g _ _ #[_,Z,q2 k _ ?_]]];exactλb o N e=>Y _ _ (qe (H:=H) (R _ _ N$ S _ _ e) N V n)
 .intro _ H7 R x C T U V hT W;cases U;refine#[kD.mb,λX n=>#[_,Z,x,_,[],ν,Z,.inl #[Z,X,jc],kD,λH8 Y=>g _ _ #[_,Z,q3 k _ ?_]]];exactλb o N e=>Y _ _ (qe (H:=H) (R _ _ N$ S _ _ e) N V n)
noncomputable abbrev DL:cv:=bK 85
inductive nC(l:η)(p:List V)(H:Hp)(Q:VK)(b:XK):Prop
 |mk(M:Nat)(n c h:η)(i:Nat)(f:aO)(o:Sk)(g:Int)(d:Df)(j:List Df)(m:List Nat)(q:List V)(e:List cq)(k:List Int)(_:p=[.ref n,.ref c,.ref h,.int (M:Int)])(_:M<=60)(_:Ps H l n j m q e)(_:j[i]?=δ d)(_:m[i]?=δ k.length)(_:∀z∈k,eP z)(_:H h=δ (.dK f))(_:GT f)(_:h9 H d.f k o g (.ref c))(_:o.ok ν)(_:o.size<=1000)(_:sj e d.f k o g)(_:∀(c:η) (sk:Sk) (a:Int) (L':aO) (H':Hp),aK M e f 16 d.f k [] 0= .ok sk a L' sk.size->h9 H' d.f k sk a (.ref c)->sk.ok ν->sk.dep<=15->sk.size<=M->Kp H H'->Q (.ref c) H')(_:aK M e f 16 d.f k [] 0= .long->∀H',Kp H H'->Q (.str "long") H')(_:aK M e f 16 d.f k [] 0= .deep->∀H',Kp H H'->Q (.str "deep") H')
theorem ni:ak ["_law_parts","_law_old","_law_cells_here","_law_most","_law_told","e"] z37z (aa DL):=bJ
theorem C4{c:Cs}(F:rx K "_law_along" DL f fd)(GR:ah P w K mg base (c7 P w) 71 fR u z28z (pE c.L c.D nA))(bR:aw K u z28z [])(kR:fz K (.ref fR)=ν)(mR:mg "again"=↑fR)(GW:By P w K mg base 1 fW y ["_law_fault"] (iZ K c))(bW:aw K y ["_law_fault"] [])(kW:fz K (.ref fW)=ν)(mW:mg "_law_word"=↑fW)(gB:mg "BookError"=δ (.ref c.B))(hB:clsIn K c.B≠θ)(tB:typeIn K (.ref c.B)=δ (.type "type"))(mB:mroIn K c.B (.type "BaseException")=δ ν)(kL:nZ K c c.L μ)(kD:nZ K c c.D ν)(G:mg "dict"=θ):ah P w K mg base aE 72 f fd z37z (nC nA):=by
 refine F.ok ni λc1 A O s H vs Q E hr h=>?_
 let⟨M,I,J,R,i,Cs,so,ao,d,ds,ns,xs,j,is,rfl,hM,hP,hd,hn,U,V,W,X,Y,s0,k,q1,q2,q3⟩:=h;refine#[_,(jd (jy 4 ni.nd jk)$ jd (@uK _ _ _ _ _ _ _ _ _ _ _ _ (5) Z Z (@Zg _ _ _ _ (4) _ _ ni.nd Z (Φ Z) (@Dv _ _ _ _ _ _ _ jM (@Xu _ _ _ _ _ _ _ _ _ _ _ _ _ _ GR hr.m Z mR kR bR .nil (ja (pv 0)$ ja (pv 1)$ ja (jE JD Z G TU$ ja (pv 2) jb)$ ja (pv 3) jb) UJ UN UN) je (λ_ _=>Z)) UN (by first |exact .inl Z |exact .inr Z)) Z gB hB tB mB ni.nd Z Z (λ_=>(jg$ jy 4 ni.nd$ @Xz _ _ _ _ _ _ _ _ _ _ _ _ _ _ GW (bo.mkM hr.m) Z mW kW bW .nil (ja (pv 5) jb) UJ UN UN)) UJ)$ jg$ jo$ pv 4),?_];refine aj λF1 g=>g _ _ ?_;clear g;refine aj λF1 g=>?_;show D8 _ _ _ _ _ _ [↑I,↑J,↑R,δ$ .int (M:Int),δ$ .str "none",θ] H;refine#[_,Z,_,Z,_,Z,R,Cs,Z,V,λq nh=>?_];let S:ae H (af H q$ .dK Cs):=jf nh;let t:=ae.tm S;refine#[_,Z,M,I,q,J,i,Cs,so,ao,d,ds,ns,xs,j,is,Z,hM,hP.mono t,hd,hn,U,jc,W,h9.mono' X t,Y,s0,k,λp l v sk a L' H2 r hp hc ok dp sz s2=>?_,λr=>?_,λr=>?_]
 .let⟨c',z⟩:=id hc;let⟨_,_,_,rfl,_⟩:=z;exact#[p,_,_,_,Z,Z,aC.of hp,fo,g _ _ #[_,Z,q1 c' sk a L' H2 r hc ok dp sz$ Kp.of_same$ S.trans s2]]
 .intro _ H7 k7 x C T eC hx hT h0;cases eC;refine#[kL.mb,λT' n=>#[_,Z,x,_,[],μ,Z,.inl #[Z,T',jc],kL,λH8 s8=>g _ _ #[_,Z,q2 r _ ?_]]];exactλb o N e=>s8 _ _ (qe (H:=H) (k7 _ _ N$ S _ _ e) N hx n)
 .intro _ H7 k7 x C T eC hx hT h0;cases eC;refine#[kD.mb,λT' n=>#[_,Z,x,_,[],ν,Z,.inl #[Z,T',jc],kD,λH8 s8=>g _ _ #[_,Z,q3 r _ ?_]]];exactλb o N e=>s8 _ _ (qe (H:=H) (k7 _ _ N$ S _ _ e) N hx n)
def Tn(c C:iz)(M:Nat):Prop:=∀f i L t s a l T,c f i L t= .ok s a l T->t<=T/\(T<=M->C f i L t= .ok s a l T)/\(t<=M->M < T->C f i L t= .long)
theorem xF(j:Tn c C m){Cs:aO}{w:Sk}(h:dX M c Cs k L t e= .ok w g d):t < d/\(d<=m->dX m C Cs k L t e= .ok w g d)/\(t<=m->m < d->dX m C Cs k L t e= .long):=by
 by_cases H:t < M
 case neg=>rw[qf H]at h;cases h
 let O:∀{o:OW},(∀{N:Nat} {c:iz},t < N->dX N c Cs k L t e=o)->o= .ok w g (t+1)->t < t+1/\(t+1<=m->dX m C Cs k L t e= .ok w g (t+1))/\(t<=m->m < t+1->dX m C Cs k L t e= .long):=λa b=>#[MQ _,λl=>by rw[a UK,b],λn i=>qf UK];cases e with
 |ask p T=>rw[Kr H]at h;cases h;exact O (λz=>Kr z) Z
 |st p l=>
  cases l with
  |rd x a T=>rw[Xl H]at h;cases h;exact O (λz=>Xl z) Z
  |wr a b T U=>rw[Xm H]at h;cases h;exact O (λz=>Xm z) Z
  |cl x f q r=>
   rw[zS H]at h;cases z:c f (r.map λc=>c.2.ev k) L (t+1) with
   |long |deep=>rw[z]at h;cases h
   |ok s a _L A=>
    rw[z]at h;cases h;let⟨B,u,v⟩:=j _ _ _ _ _ _ _ _ z;refine#[UK,λl=>?_,λn i=>?_]
    .rw[zS UK,u l];rfl
    .by_cases y:t < m
     .rw[zS y,v y i];rfl
     .exact qf y
  |st x a T |gv a T=>unfold dX at h;rw[LP H]at h;cases h
theorem ZN(H:Tn c j f){Cs:aO}:∀{m:Nat} {g:Gd} {L:aO} {t:Nat} {s:Sk} {a:Int} {i:aO} {T:Nat},eB M c Cs p m g L t= .ok s a i T->t<=T/\(∀d,T<=f->T - t+1<=d->eB f j Cs p d g L t= .ok s a i T)/\(∀d,t<=f->f < T->eB f j Cs p d g L t= .long)
 |0,_,_,_,_,_,_,_,h=>by cases h
 |m+1,.give b,L,t,s,a,i,T,h=>by
  cases h;refine#[Lx _,λd _ l=>?_,λd o r=>by omega];cases d with
  |zero=>omega
  |succ d=>rfl
 |m+1,.go n u,L,t,s,a,i,T,h=>by
  unfold eB at h;cases y:p.cs[n]? with
  |none=>rw[y]at h;cases h
  |some C=>
   rw[y]at h;cases z:dX M c Cs (aR C.nm u) L t C.e with
   |long |deep=>simp only[z]at h;cases h
   |ok w A v=>
    simp only[z]at h;cases x:eB M c Cs p m (nV p C u w.wh) A v with
    |long |deep=>rw[x]at h;cases h
    |ok S E _L F=>
     rw[x]at h;cases h;let⟨I,D,B⟩:=xF H z;let⟨J,G,g3⟩:=ZN H x;refine#[UK,λd l k=>?_,λd o r=>?_]
     .cases d with
      |zero=>omega
      |succ d=>unfold eB;rw[y];simp only[D UK];rw[G d l UK];rfl
     .cases d with
      |zero=>rfl
      |succ d=>
       unfold eB;rw[y];by_cases q:v<=f
       .simp only[D q];rw[g3 d q r];rfl
       .simp only[B o UK]
theorem XQ{M':Nat}{Cs:aO}:∀j,Tn (aK M p Cs j) (aK M' p Cs j) M'
 |0=>λf i L t s a b T h=>by cases h
 |j+1=>λf i L t s a b T h=>by
  unfold aK at h ⊢;cases y:fb p f with
  |none=>simp only[y]at h;cases h
  |some k=>simp only[y]at h ⊢;let⟨H,c,d⟩:=ZN (XQ j) h;exact#[H,λl=>c _ l UK,λe g=>d _ e g]
theorem uS{M':Nat}{Cs:aO}(h:aK M p Cs 16 f i [] 0= .ok s a L n):(n<=M'->aK M' p Cs 16 f i [] 0= .ok s a L n)/\(M' < n->aK M' p Cs 16 f i [] 0= .long):=
 let #[_,H,b]:=XQ (M':=M') 16 _ _ _ _ _ _ _ _ h
 #[H,λl=>b (LF _) l]
noncomputable abbrev vj:cv:=bK 81
inductive mH(b:List V)(H:Hp)(Q:VK)(a:XK):Prop
 |mk(p:η)(_:b=[.ref p])(_:ap H p)(_:∀(t r:η) (v2 v3:V) (ds:List Df) (xs:List V) (H':Hp),H' t=δ (.tup [.ref r,v2,v3])->H' r=δ (.tup xs)->b6 H' ds xs->ds.length=2->∀ns,nX ds ns->j' H' ds ns->iA H' ds v2 v3->ap H' p->aD p H H'->Q (.ref t) H')
section
variable {Cf:ik}{ys:List ρ}{H0 Hb H:Hp}{p wl:η}{σ:_L.St}
theorem D3{p:η}{f:ρ}(h:H p=δ (.tup [.str "call",.str x,.str f,.ref q]))(d:x∈ys)(a:(f,1)∈Cf)(e:H q=δ (.tup [.ref t]))(g:fj H ys k t)(i:k < 6):cf Cf H ys 0 (.ref p):=by
 let⟨T,j,m⟩:=g.ok i;refine Qp (l:=.cl x f q [(t,T)]) h #[Z,e,λc b=>?_] #[d,(by show 1<=6;decide),λc b=>?_] a
 .rw[τ.mp b];exact j
 .rw[τ.mp b];exact m
theorem AM(d:Ev H0 p wl ys Hb σ g (PN ys))(i:Ev H0 p wl ys Hb σ l (sq f))(b:(f,1)∈Cf)(n:Ev H0 p wl ys Hb σ T (PT ys j))(o:j < 6):Ev H0 p wl ys Hb σ (bn$ am (tC$ .str "call")$ am g$ am l$ am (bn$ am T aL) aL) (λH v=>cf Cf H ys 0 v):=by
 let' R:Hp->V->Prop:=λH v=>∃q a,v= .ref q/\H q=δ (.tup [.ref a])/\fj H ys j a
 let M:n8 R:=λ_ _ _ m #[q,a,e,c,s]=>#[q,a,e,m _ _ c,s.mono m];let A:Ev H0 p wl ys Hb σ (bn$ am T aL) R:=λH Q m W q=>
  n H _ m W λU Y #[a,E,X] C D=>#[i8,λr N=>ke (P:=R) C (λF G x I k=>q F G x I (D.trans k)) N λt z=>#[r,a,Z,by rw[z,E],X.mono t]]
 exact BZ xY (B:=sq f) (λ_ _ _ _ h=>h) M d i A λH r u v x z #[y,J,c] (E:v= .str f) #[q,a,L,O,S]=>D3 (f:=f) (by rw[z,J,E,L]) c b O S o
theorem Ff:Ev H0 p wl ys Hb σ (bn aL) (PP 0):=λH Q m W q=>#[lN,λr n=>ke (P:=PP 0) W q n λt z=>#[r,[],Z,z,Z]]
theorem Ab{K:β}{H:Hp}{D:a7}(W:Wd H0 H p wl ys)(b:Ev H0 p wl ys H σ T (PT ys 0))(c:Ev H0 p wl ys H σ d (PT ys 0))
  (q:∀u v h,PT ys 0 h u->PT ys 0 h v->Wd H0 h p wl ys->Fw p H h->D.nx ((σ.set j$ δ v).set i$ δ u) h):Bq K (bn$ am T$ am d aL) i j D σ H:=
 b H _ .refl W λV e x f k=>c e _ k f λg m X l a=>#[bL,λr n=>#[r,_,_,Z,aC.of jc,q V g _ (aq _ _ _ (ae.tm$ jf n)$ aq _ _ _ a.t x) (aq _ _ _ (ae.tm$ jf n) X) (l.same$ jf n) ((k.trans a).trans$ .new n)]]
theorem HP(r:oN [(j,N),(k,c)] N H a j)(s:oN [(j,N),(k,c)] c H b k)(l:N<=100/\c<=100):∃d e,b6 H [d,e] [.ref a,.ref b]/\((∀x∈[d,e],i9 x/\x.b.Cs [(j,N),(k,c)])/\d.f=j/\e.f=k)/\j' H [d,e] [N,c]/\∃m:List ρ,H d.pa=δ (.tup$ m.map ri)/\m.length=N:=by
 let⟨d,t,u,v,D,o,E⟩:=r;let⟨e,y,z,F,A,B,C⟩:=s;refine#[d,e,#[_,_,Z,t,_,_,Z,y,Z],#[λx q=>?_,E,C],#[Z,λi x n h g=>?_],v,D,o]
 .simp only[M8,Ma,Oj]at q;rcases q with rfl |rfl
  .exact u
  .exact z
 .match i,h,g with
  |0,h,g=>cases h;cases g;exact#[_,D,o,l.1]
  |1,h,g=>cases h;cases g;exact#[_,A,B,l.2]
theorem Fb{f1 f2:ρ}{n2:Nat}(C:n2<=100)(D:Ev H0 p wl ys Hb σ E (PD [(f1,0),(f2,n2)] 0 f1))(F:Ev H0 p wl ys Hb σ G (PD [(f1,0),(f2,n2)] n2 f2))(I:Ev H0 p wl ys Hb σ J (sq f1)):Ev H0 p wl ys Hb σ (bn$ am (bn$ am E$ am G aL)$ am J$ am (bn aL) aL) (λH v=>∃t r V c d e s,v= .ref t/\H t=δ (.tup [.ref r,V,c])/\H r=δ (.tup s)/\b6 H [d,e] s/\((∀x∈[d,e],i9 x/\x.b.Cs [(f1,0),(f2,n2)])/\d.f=f1/\e.f=f2)/\j' H [d,e] [0,n2]/\iA H [d,e] V c):=λH Q m W q=>
 D H _ m W λV L O R k=>F L _ (m.trans k) R λc h S U l=>#[bL,λr N=>by
  let u:ae h (af h r$ .tup [V,c]):=jf N;let Y:=U.same u;let y:Fw p h (af h r$ .tup [V,c]):=.new N;let e4:af h r (.tup [V,c]) r=δ (.tup [V,c]):=jc;refine I _ _ ((m.trans$ k.trans l).trans y) Y λj g X W5 n=>#[lN,λa z=>?_];let o:ae g (af g a$ .tup []):=jf z;let e5:af g a (.tup []) a=δ (.tup []):=jc;refine#[fq,λt A=>?_];let T:ae (af g a$ .tup []) (af (af g a$ .tup []) t$ .tup [.ref r,j,.ref a]):=jf A;let M:ai h (af (af g a$ .tup []) t$ .tup [.ref r,j,.ref a]):=((ae.tm u).trans n.t).trans (ae.tm$ o.trans T);let⟨b1,g1,h1⟩:=ig _ _ _ M (ig _ _ _ l.t O);let⟨b2,g2,h2⟩:=ig _ _ _ M S;let⟨d,e,z1,B,z3,ps,z4,z5⟩:=HP h1 h2 #[LF _,C];let X:j= .str f1:=X;refine q _ _ #[t,r,j,.ref a,d,e,_,Z,jc,?_,z1,B,z3,d,ps,a,[],LN,by rw[X,B.2.1],z4,Z,T _ _ e5,by rw[z5];rfl,LF _,λi hi=>by cases hi] ((W5.same o).same T) (((((k.trans l).trans y).trans n).trans$ .new z).trans$ .new A);rw[<- g1,<- g2];exact T _ _$ o _ _$ n.t _ _ e4]
end
theorem gK:ak ["_law_box_here","_law_w","_law_n","_law_x","_law_deeper","_law_body_here","_law_first"] z1z (aa vj):=bJ
theorem yu(F:rx K "_law_sunk" vj f U)(cA:Cl P w K mg base 2 fA f0 z21z eN "_law_names"):ah P w K mg base aE 3 f U z1z mH:=by
 refine F.ok gK λc0 A O s H vs Q E hr h=>?_
 let⟨p,rfl,B,q⟩:=h;refine#[_,(jd (jy 1 gK.nd$ cA.e hr.m$ ja (pv 0)$ ja je jb)$ jd (@yG _ _ _ _ _ _ _ (2) (3) Z gK.nd Z Z (Φ Z) (Φ Z) (jh$ ja (jh$ ja jk$ ja (jr jq (pv 1) je (λ_ _=>Z)) jb)$ ja (jh$ ja jk$ ja (jr jq (pv 1) je (λ_ _=>Z)) jb) jb) (by first |exact .inl Z |exact .inr Z) (by first |exact .inl Z |exact .inr Z) UN UN)$ jd (jy 4 gK.nd$ jh$ ja jk$ ja (jr jq (pv 1) je (λ_ _=>Z))$ ja (jr jq (pv 1) je (λ_ _=>Z))$ ja (jh$ ja (jh$ ja jk$ ja jk$ ja (pv 2)$ ja (jh$ ja jk$ ja je jb) jb) jb) jb)$ jd (jy 5 gK.nd$ jh$ ja (jh$ ja jk$ ja (pv 2)$ ja (jh$ ja (pv 4)$ ja (jh$ ja jk$ ja (jr jq (pv 1) je (λ_ _=>Z))$ ja (jh$ ja jk$ ja jk$ ja (pv 3)$ ja (pv 2) jb) jb) jb)$ ja (jh$ ja (jh$ ja jk$ ja (jr jq (pv 1) je (λ_ _=>Z))$ ja (jh$ ja jk$ ja je jb) jb) jb) jb)$ ja (jh$ ja jk$ ja (pv 3) jb) jb)$ jd (jy 6 gK.nd$ jh$ ja (jh$ ja jk$ ja (jr jq (pv 1) je (λ_ _=>Z))$ ja (jh$ ja jk$ ja je jb) jb)$ ja (jh$ ja jk$ ja (jr jq (pv 1) je (λ_ _=>Z))$ ja (jr jq (pv 1) je (λ_ _=>Z))$ ja (jh$ ja (pv 2) jb) jb)$ ja (jh$ ja jk$ ja (pv 3) jb) jb)$ jg$ jo$ jh$ ja (jh$ ja (jh$ ja (jr jq (pv 1) je (λ_ _=>Z))$ ja (jh jb)$ ja (pv 6) jb)$ ja (jh$ ja (jr jq (pv 1) je (λ_ _=>Z))$ ja (jh$ ja (jr jq (pv 1) je (λ_ _=>Z)) jb)$ ja (pv 5) jb) jb)$ ja (jr jq (pv 1) je (λ_ _=>Z))$ ja (jh jb) jb),?_];refine aj λFa J=>#[_,Z,p,4,Z,B,UJ,UJ,λW Y L n0 D h1 g Ba ka=>J _ _ ?_];clear J;obtain⟨a,i⟩:∃y,Y[0]?=δ y:=#[_,Ls (by omega:0 < Y.length)];obtain⟨c,l⟩:∃y,Y[3]?=δ y:=#[_,Ls (by omega:3 < Y.length)];let ne:c≠a:=λz=>by let:=(Pz (by omega:0 < Y.length) g.2).mp (by rw[i,l,z]:Y[0]?=Y[3]?);cases this
 let W0:Wd H L p W Y:=#[Ba,ka,D];show dy _ _ _ [↑p,↑W,θ,θ,θ,θ,θ] L;refine aj λF1 f1=>Ab W0 (qY$ j6 Z UJ UK) (qY$ j6 Z UJ UK) λo u M X G W1 k1=>f1 _ _ ?_;show dy _ _ _ [↑p,↑W,δ o,δ u,θ,θ,θ] M;refine aj λF2 f2=>jS W1 (AM (Cf:=[(c,0),(a,1)]) (j6 Z UJ UK) (zI (k:=0) Z Z i) UL (zH (n:=1) (zR Ky) (jH Z aq$ X) (kf (JP UJ (by decide:(1:Int) < 9)) UJ) UJ UJ) UJ) λV H2 x2 W2 j=>f2 _ _ ?_;show dy _ _ _ [↑p,↑W,δ o,δ u,δ V,θ,θ] H2;refine aj λF3 f3=>jS W2 (Qq (Cf:=[(c,0),(a,1)]) (sY (Cf:=[(c,0),(a,1)]) (jH Z aq$ aq _ _ _ j.t X) (Qq (jH Z dR x2)$ Ja (j6 Z UJ UK) (zH (n:=1) (zR zj) (jH Z aq$ aq _ _ _ j.t G) (jH Z aq$ aq _ _ _ j.t X) UJ UJ) UJ) (JH$ qZ (j6 Z UJ UK) (kf (JP UJ (by decide:(1:Int) < 9)) UJ) UJ) UJ UJ)$ Ev.up (Kf (Cf:=[(c,0),(a,1)]) (jH Z aq$ aq _ _ _ j.t G) UJ) λ_ _=>cf.lift) λC N x3 W3 k3=>f3 _ _ ?_;show dy _ _ _ [↑p,↑W,δ o,δ u,δ V,δ C,θ] N;let R:ai M N:=j.t.trans k3.t;refine aj λF4 f4=>jS W3 (AH (Cf:=[(c,0),(a,1)]) (qZ (j6 Z UJ UK) (kf (JP UJ (by decide:(0:Int) < 9)) UJ) UJ) (AM (j6 Z UJ UK) (zI (k:=0) Z Z i) UL (jH Z aq$ aq _ _ _ R X) UJ)$ Kf (jH Z aq$ aq _ _ _ R G) UJ) λv4 H4 x4 W4 k4=>f4 _ _ ?_;show fi _ _ [↑p,↑W,δ o,δ u,δ V,δ C,δ v4] H4;refine Kq W4 (Fb (f1:=c) (f2:=a) (n2:=1) UJ (Qs (zI (k:=3) Z Z l) Ff (Ev.up (jH Z du x4) λ_ _=>PB.lift) UJ UK) (Qs (zI (k:=0) Z Z i) (sZ$ j6 Z UJ UK) (jH Z du$ du _ _ _ k4.t x3) UJ UK)$ zI (k:=3) Z Z l) λv H' x S=>?_;let⟨t,r,V,C,d,e,xs,rfl,g0,g1,g2,g3,g4,g5⟩:=x;refine q t r V C [d,e] xs H' g0 g1 g2 Z [0,1] #[?_,?_] g4 g5 S.B S.K
 .show ∀x∈[d,e],i9 x/\x.b.Cs [(d.f,0),(e.f,1)];rw[g3.2.1,g3.2.2];exact g3.1
 .show [d.f,e.f].Nodup/\∀y∈[d.f,e.f],y.length<=20;rw[g3.2.1,g3.2.2];refine#[by simp [ne],λy T=>g.1 y ?_];simp only[M8,Ma,Oj]at T;rcases T with rfl |rfl
  .exact LS l
  .exact LS i
noncomputable abbrev oy:cv:=bK 79
noncomputable abbrev DH:cv:=bK 80
noncomputable abbrev oC:cv:=bK 86
theorem yI(a:aO)(k:bM)(v:V):(bg a k v).length<=a.length+1:=zk
inductive iy(b:List V)(H:Hp)(Q:VK)(a:XK):Prop
 |mk(p:η)(_:b=[.ref p])(_:ap H p)(_:∀(l:η) (C:aO) (H':Hp),H l=θ->H' l=δ (.dK C)->GT C->C.length<=13->ap H' p->aD p H H'->Q (.ref l) H')
inductive CL(p l:η)(H:Hp)(i:Nat)(k:_L.St)(a:Hp):Prop
 |mk(h j:Option V)(C:aO)(b:k=[↑p,↑l,h,j])(c:a l=δ (.dK C))(d:GT C)(e:C.length<=i)(f:ap a p)(g:aD p H a)
theorem CT:NX (.lst x):=λa z=>by cases z
theorem Ym:NX (.tup x):=λa z=>by cases z
theorem Kp.tm(k:Kp H h):ai H h:=λb x e=>k b _ Ym e
theorem Dp{H:Hp}{D:List Df}{n:List Nat}(h:j' H D n){i:Nat}{d:Df}{p:List ρ}(a:D[i]?=δ d)(c:H d.pa=δ (.tup$ p.map ri)):n[i]?=δ p.length:=by let f:i < D.length:=(ξ.mp a).1;let b:n[i]?=δ (n[i]'(by rw[<- h.1];exact f)):=Ls _;let⟨g,e,l,_⟩:=h.2 i d _ a b;rw[c]at e;injection e with e;injection e with e;let:=MO List.length e;rw[Lw,Lw]at this;rw[b,<- l,this]
theorem Be:NX (.dK x):=λa z=>by cases z
theorem ap.kp(B:ap H p)(k:Kp H h):ap h p:=by let⟨a,b,c,d,f,e⟩:=B;exact#[a,b,c,d,f,k _ _ CT e]
def sC(H:Hp)(X:List V):Prop:=∀x∈X,∃(q:η) (c i:Int),x= .ref q/\H q=δ (.tup [.int c,.int i])/\eP i
theorem sC.mono(k:ai H a)(h:sC H b):sC a b:=λx d=>let #[q,c,i,e,f,g]:=h x d;#[q,c,i,e,k _ _ f,g]
inductive pH(b:List V)(H:Hp)(Q:VK)(a:XK):Prop
 |mk(p:η)(m:Int)(_:b=[.ref p,.int m])(_:ap H p)(_:0 < m)(_:m<=100)(_:∀(l:η) (xs:List V) (H':Hp),H l=θ->H' l=δ (.lst xs)->sC H' xs->xs.length<=100->ap H' p->aD p H H'->Q (.ref l) H')
inductive ID(p l:η)(m:Int)(H:Hp)(i:Nat)(n:_L.St)(a:Hp):Prop
 |mk(h j:Option V)(k:List V)(b:n=[↑p,δ (.int m),↑l,h,j])(c:a l=δ (.lst k))(d:sC a k)(e:k.length<=i)(f:ap a p)(g:aD p H a)
def Ic(r R:R2):R2:=λx y H Q=>r x y H Q∨R x y H Q
theorem Dm{X:Cx}(b:eW X o c)(d:eW X o e):eW X o (Ic c e):=λp s a H x y v u Q I r R h=>h.elim (b p s a H x y v u Q I r R) (d p s a H x y v u Q I r R)
inductive nD(K:β)(d:List V)(H:Hp)(Q:VK)(b:XK):Prop
 |mk(a:η)(c:List Int)(_:d=[.ref a])(_:aJ K H a (c.map rm))(_:c.length<=63)(_:∀H',Q (.bl ν) H')
theorem gi:ak ["_law_box_here","_law_cells_here","_law_k","_law_cell"] z1z (aa oy):=bJ
theorem uk(F:rx K "_law_cells" oy f fd)(r:Cl P w K mg base 1 fT f0 z0z aZ "_law_take")(cU:Cl P w K mg base 2 fU f2 z1z hX "_law_number")(mr:mg "range"=θ):ah P w K mg base aE 3 f fd z1z iy:=by
 refine F.ok gi λc0 A O s H vs Q E g h=>?_
 let⟨p,rfl,B,q⟩:=h;refine#[_,(jd (jy 1 gi.nd Xr)$ jd (ki Ml Z (kY Z mr$ ja (r.e g.m$ ja (pv 0)$ ja je jb) jb) (jw (i:=2) gi.nd Z$ Φ Z)$ jd (jy 3 gi.nd$ r.e g.m$ ja (pv 0)$ ja je jb)$ jd (jx (ze$ r.e g.m$ ja (pv 0)$ ja je jb) (jg$ jy 3 gi.nd$ jv kj (jv kj (jv Jv je je) je)$ r.e g.m$ ja (pv 0)$ ja je jb) jp)$ jg$ qc (zQ g) (pv 1) (pv 3) (cU.e g.m$ ja (pv 0) jb) Z)$ jg$ jo$ pv 1),?_];let b0:=aI;let t0:=pP;refine aj λt a=>λl N=>a _ _ ?_;clear a;let S:ae H (af H l$ .dK []):=jf N;let I:af H l (.dK []) l=δ (.dK []):=jc;generalize af H l (.dK [])=H1 at S I;let L:l≠p:=B.ne N;let B1:=B.same S;refine aj λt a=>eQ λJ j=>#[_,Z,p,14,Z,B1,UJ,UJ,λd H2 d0 d1 B2 M=>#[_,Z,UK,UK,j _ _ ?_]];clear j;refine kX (lo:=0) (CL p l H) #[θ,θ,[],Z,by rw[M l L];exact I,_K.GT.nil,Lx _,B2,(aD.of_same S).trans$ aD.of_eq M] ?_ (λσ H' h=>a _ _ ?_)
 .clear a;intro E0 _ i σ H3 hi fE Gq o h;let⟨o2,o3,C,rfl,x,G,lC,y,D⟩:=h;refine o ?_;clear o;show dy (eu _ _) _ E0 _ _;refine aj λt a=>#[_,Z,p,14,Z,y,UJ,UJ,λc4 H4 d2 d3 B4 R=>a _ _ ?_];clear a;refine aj λt a=>?_;let c:∀(u:Int) (v:Hp),ap v p->(∀b,b≠p->v b=H3 b)->t [↑p,↑l,δ$ .int (0+(i:Int)),δ$ .int u] v:=λu v BH T=>a _ _ (by
   refine#[_,Z,p,Z,BH,λm H7 m0 m1 B7 U=>?_];let h7:H7 l=δ (.dK C):=by rw[U l L,T l L];exact x
   let pl:=yI C (.inl u) (.int m);exact#[_,Z,_,Z,l,_,Z,lO.k (k:=.inl u) h7 UK,fE _ _ #[_,_,_,Z,jc,G.put _ #[m0,m1],UK,B7.eq$ ji$ Me L,(D.trans ((aD.of_eq T).trans$ aD.of_eq U)).upd_own N]])
  refine oR λG1 yT yF=>#[_,Z,p,8,Z,B4,UJ,UJ,λd5 H5 d4 d7 W X=>#[Z,_,Z,?_]];by_cases Y:d5=0
  .rw[Y,LX (Z:rm 0=rm 0)];refine yT _ #[_,_,Z,Z,#[UJ,UJ,UJ],_,_,Z,Z,_,Z,p,4,Z,W,UJ,UJ,λd6 H6 d8 d' B6 e6=>#[_,_,Z,Z,c _ H6 B6 λb n=>(e6 b n).trans ((X b n).trans$ R b n)]]
  .rw[LL (λz=>Y (by injection z))];exact yF _$ c _ H5 W λb n=>(X b n).trans (R b n)
 .let⟨o2,o3,C,rfl,x,G,lC,y,D⟩:=h;exact#[_,Z,q l C H' N x G UK y D]
theorem mZ:ak ["_law_box_here","_law_most","_law_found","_law_k","_law_cell"] ["_law_box_here","_law_most"] (aa DH):=bJ
theorem C0(F:rx K "_law_changes" DH f fd)(D:Cl P w K mg base 1 fT f0 z0z aZ "_law_take")(cN:Cl P w K mg base 2 fN f2 z1z hX "_law_number")(mr:mg "range"=θ):ah P w K mg base aE 3 f fd ["_law_box_here","_law_most"] pH:=by
 refine F.ok mZ λc0 A O s H vs Q E g h=>?_
 let⟨p,m,rfl,B,m0,m1,q⟩:=h;refine#[_,(jd (jy 2 mZ.nd$ jI jb)$ jd (ki Ml Z (kY Z mr$ ja (jv jU je$ D.e g.m$ ja (pv 0)$ ja (pv 1) jb) jb) (jw (i:=3) mZ.nd Z$ Φ Z)$ jd (jy 4 mZ.nd$ D.e g.m$ ja (pv 0)$ ja je jb)$ jd (jx (ze$ D.e g.m$ ja (pv 0)$ ja je jb) (jg$ jy 4 mZ.nd$ jv kj (jv kj (jv Jv je je) je)$ D.e g.m$ ja (pv 0)$ ja je jb) jp)$ jg$ jQ$ kM LM L9 LZ jT (pv 2)$ ja (jh$ ja (pv 4)$ ja (cN.e g.m$ ja (pv 0) jb) jb) jb)$ jg$ jo$ pv 2),?_];let b0:=aI;let t0:=pP;refine aj λG a=>#[lN,λl I=>a _ _ ?_];clear a;let R:ae H (af H l$ .lst []):=jf I;let e1:af H l (.lst []) l=δ (.lst []):=jc;generalize af H l (.lst [])=H1 at R e1;let L:l≠p:=B.ne I;let B1:=B.same R;refine aj λG a=>eQ λJ j=>#[_,Z,_,Z,p,m,Z,B1,m0,UK,λd H2 d0 d1 B2 e2=>#[_,_,Z,Z,_,Z,UK,UK,j _ _ ?_]];clear j;refine kX (lo:=0) (ID p l m H) #[θ,θ,[],Z,by rw[e2 l L];exact e1,(λ_ h=>nomatch h),Lx _,B2,(aD.of_same R).trans$ aD.of_eq e2] ?_ (λσ H' h=>a _ _ ?_)
 .clear a;intro E0 _ i σ H3 hi fE Gq k h;let⟨o3,o4,X,rfl,U,W,lV,M,Y⟩:=h;refine k ?_;clear k;show dy (eu _ _) _ E0 _ _;refine aj λG a=>#[_,Z,p,15,Z,M,UJ,UJ,λc4 H4 d2 d3 B4 e4=>a _ _ ?_];clear a;refine aj λG a=>?_;let c:∀(C:Int) (r:Hp),ap r p->(∀b,b≠p->r b=H3 b)->G [↑p,δ$ .int m,↑l,δ$ .int (0+(i:Int)),δ$ .int C] r:=λC r BH eH=>a _ _ (by
   let u:r l=δ (.lst X):=by rw[eH l L];exact U
   refine#[_,Z,.inl #[Z,_,aJ.of u],_,Z,_,Z,p,Z,BH,λn v n0 n1 B7 e7=>#[bL,λt nt=>?_]];let h7:v l=δ (.lst X):=by rw[e7 l L];exact u
   let S:ae v (af v t$ .tup [.int C,.int n]):=jf nt;let t8:af v t (.tup [.int C,.int n]) t=δ (.tup [.int C,.int n]):=jc;refine#[l,_,_,Z,Z,S _ _ h7,UK,fE _ _ ?_];generalize af v t (.tup [.int C,.int n])=y at S t8;let k8:aD p H3 y:=((aD.of_eq eH).trans$ aD.of_eq e7).trans (aD.of_same S);let l8:=S _ _ h7;let kl:aD l y (af y l$ .lst$ X++[.ref t]):=λb o N e=>by rw[ji N];exact e
   let T:ai y (af y l$ .lst$ X++[.ref t]):=λb ys e=>kl _ _ (jO e l8 (by intro z;cases z)) e;refine#[_,_,X++[.ref t],Z,jc,?_,by rw[Ly];show X.length+1<=_;omega,(B7.same S).eq$ ji$ Me L,(Y.trans k8).upd_own I];intro x hx;rcases γ.mp hx with z |z
   .exact((W.mono$ k8.tm M).mono T) x z
   .rw[τ.mp z];exact#[t,C,n,Z,T _ _ t8,n0,n1])
  refine oR λG1 yT yF=>#[_,Z,p,8,Z,B4,UJ,UJ,λd5 H5 d4 d7 B5 e5=>#[Z,_,Z,?_]];by_cases h3:d5=0
  .rw[h3,LX (Z:rm 0=rm 0)];refine yT _ #[_,_,Z,Z,#[UJ,UJ,UJ],_,_,Z,Z,_,Z,p,4,Z,B5,UJ,UJ,λd6 H6 d8 d' B6 e6=>#[_,_,Z,Z,c _ H6 B6 λb N=>(e6 b N).trans ((e5 b N).trans$ e4 b N)]]
  .rw[LL (λz=>h3 (by injection z))];exact yF _$ c _ H5 B5 λb N=>(e5 b N).trans (e4 b N)
 .let⟨o3,o4,X,rfl,U,W,lV,M,Y⟩:=h;exact#[_,Z,q l X H' I U W UK M Y]
section
open SeqAt
variable {X:Cx}
theorem Ie(I:au X p σ H s)(n:Nat)(G:∀(t:Tr) {A:bS},t.dep<=n->A.units+n < cLine->t.In->t.isL=μ->∀{u:Tr} {x y:V},u.In->u.isL=μ->aP H t x []->aP H u y []->∀a b,aF x a->aF y b->EqAt A s a b (hZ t u)){l m:Tr}(hn:l.dep<=n)(hu:A.units+n+1 < cLine)(J:l.In)(L:m.In)(d:l.isL=ν)(f:m.isL=ν)(M:H g=δ (.tup i))(N:H B=δ (.tup o))(T:aP H l .non i)(q:aP H m .non o):RcNeAt A s (.ref g) (.ref B) (!hZ (.tp l) (.tp m)):=by
 let⟨v,r,O,_⟩:=I.tuple (aC.of (K:=X.K) M);let⟨C,R,Q,_⟩:=I.tuple (aC.of (K:=X.K) N);let⟨S,U⟩:=qw d J T;let⟨W,Y⟩:=qw f L q;let z:=RcNeAt.tuples (A:=A) (e:=ls l m) (show s.heap.IsTuple g v.toArray from O) (show s.heap.IsTuple B C.toArray from Q) UK (λj h1 h2=>?_)
 .rw[XO d f T q (by rw[LA,<- r.length,S]) (by rw[LA,<- R.length,W])]at z;let E:hZ (.tp l) (.tp m)=hZ l m:=by
   by_cases c:l=m
   .rw[zT c,zT (by rw[c])]
   .rw[zr c,zr (λk=>c (by injection k))]
  rw[E];exact z
 .let la:=r.length;let lb:=R.length;let D:j < i.length:=by simp at h1;omega
  let h:j < o.length:=by simp at h2;omega
  let⟨u1,q1,r1⟩:=r.get (Ls D);let⟨u2,q2,r2⟩:=R.get (Ls h);let e1:v.toArray[j]=u1:=by let⟨_,e⟩:=ξ.mp q1;simpa using e
  let E:C.toArray[j]=u2:=by let⟨_,e⟩:=ξ.mp q2;simpa using e
  rw[e1,E];let⟨F,g1,g2,g3,g4,g5⟩:=U j _ (Ls D);let⟨u',k1,k2,k3,k4,k5⟩:=Y j _ (Ls h);let et:ls l m j=hZ F u':=by unfold ls;rw[g1,k1]
  rw[et];exact G F (A:=A.in1) UK (by show A.units+1+n < cLine;omega) g3 g2 k3 k2 g5 k5 _ _ r1 r2
inductive yL(d:Nat)(x y:V)(H:Hp)(Q:VK):Prop
 |mk(l m:Tr)(_:l.dep < d)(_:l.In)(_:m.In)(_:aP H (.tp l) x [])(_:aP H (.tp m) y [])(_:Q (.bl (!hZ (.tp l) (.tp m))) H)
theorem Dl{d:Nat}(c:X.A.units+d+1 < cLine):eW X (compareOp .NotEq) (yL d):=by intro p s n H x y v u Q I r R h;obtain⟨l,m,o,i,e,⟨f,a,z,rfl,g,t⟩,⟨j,b,B,rfl,k,T⟩,q⟩:=h;cases r;cases R;exact Ie I d (wA I d) UK c i e f j g k t T X.prog X.w _ _ #[.bl _,H,I,Z,q]
end
theorem AX(h:bo k A):A.units+100+1 < cLine:=by let:=h.un;omega
inductive IG(a p d n:η)(o q r:V)(c:Hp)(k i:Nat)(s:_L.St)(b:Hp):Prop
 |mk(l m:Option V)(D:aO)(e:s=[↑a,↑p,δ o,δ q,δ r,↑d,↑n,l,m,θ,θ,θ,θ,θ])(f:b n=δ (.dK D))(g:GT D)(h:D.length<=k+i)(j:aD n c b)
inductive IH(a p d w:η)(A:_L.St)(c:Hp):Prop
 |mk(r:η)(x y:V)(u v:Option V)(e:List Df)(z:List V)(t:List Nat)(b D:aO)(f:A=[↑a,↑p,↑r,δ x,δ y,↑d,↑w,u,v,θ,θ,θ,θ,θ])(g:c r=δ (.tup z))(h:b6 c e z)(i:e.length<=8)(j:nX e t)(k:j' c e t)(l:iA c e x y)(m:c d=δ (.dK b))(n:GT b)(o:c w=δ (.dK D))(q:GT D)(s:ap c p)
inductive RR(M:Nat)(H:Hp)(pds:List cq)(Cs:aO)(f:ρ)(is:List Int):V->Prop
 |ok (c:η) (sk:Sk) (b:Int) (L':aO) (eq:aK M pds Cs 16 f is [] 0= .ok sk b L' sk.size) (hc:h9 H f is sk b (.ref c)) (ok:sk.ok ν) (dp:sk.dep<=15) (sz:sk.size<=M):RR M H pds Cs f is (.ref c)
 |long (eq:aK M pds Cs 16 f is [] 0= .long):RR M H pds Cs f is (.str "long")
 |deep (eq:aK M pds Cs 16 f is [] 0= .deep):RR M H pds Cs f is (.str "deep")
structure EK(H:Hp)(nA pA ta cA ot p:η)(i:Nat)(Cs D:aO)(d:Df)(ds:List Df)(ns:List Nat)(xs:List V)(pds:List cq)(is:List Int):Prop where
 ps:Ps H nA pA ds ns xs pds
 hd:ds[i]?=δ d
 hn:ns[i]?=δ is.length
 ag:H ta=δ (.tup$ is.map rm)
 hi:∀z∈is,eP z
 ce:H cA=δ (.dK Cs)
 gc:GT Cs
 oe:H ot=δ (.dK D)
 gd:GT D
 bx:ap H p
theorem EK.kp{Cs:aO}{xs:List V}(h:EK H n b t c o p i Cs D d e N xs a I)(k:Kp H f):EK f n b t c o p i Cs D d e N xs a I:=#[h.ps.mono$ Kp.tm k,h.hd,h.hn,k _ _ Ym h.ag,h.hi,k _ _ Be h.ce,h.gc,k _ _ Be h.oe,h.gd,h.bx.kp k]
theorem iA.mono(h:iA H D v a)(k:ai H b):iA b D v a:=let #[d,p,t,i,c,e,f,g,j,l]:=h;#[d,p,t,i,c,e,k _ _ f,g,k _ _ j,l]
theorem Kp.trn(h:Kp A B)(k:Kp B C):Kp A C:=λb o n e=>k _ _ n (h _ _ n e)
theorem Y7:∀{b:Bool} {s:Sk},s.ok b->(nW s).In
 |true,.nil,_=>trivial
 |true,.st n h w r,o=>#[#[Z,qF h,Y7 o.1,trivial],Y7 o.2]
 |false,.ask _,_=>#[Z,Z,trivial]
 |false,.rd _ _,_=>#[Z,Z,Z,trivial]
 |false,.wr _ _,_=>#[Z,Z,Z,trivial]
 |false,.cl f i s a,o=>#[Z,#[Z,qF i,Y7 (b:=ν) o,Z,trivial],trivial]
theorem Y8{s:Sk}(o:s.ok ν):(HK f i s a).In:=#[Z,qF i,Y7 (b:=ν) o,Z,trivial]
theorem RR.tm{Cs:aO}(h:RR M H p Cs f i v)(k:ai H a):RR M a p Cs f i v:=by
 cases h with
 |ok c s b L e d ok D S=>exact .ok c s b L e (d.mono' k) ok D S
 |long e=>exact .long e
 |deep e=>exact .deep e
theorem Gb{Cs:aO}(g:RR M H p Cs f i x)(a:RR M H p Cs f i y){Q:VK}(q:Q (.bl μ) H):Ic (yL 100) Ib x y H Q:=by
 cases g with
 |ok c S b L E j ok D k=>
  cases a with
  |ok C s B _L e h o d bL=>rw[E]at e;cases e;exact .inl #[_,_,sH ok D,Y8 ok,Y8 ok,Y6 j ok,Y6 h ok,by rw[zT Z];exact q]
  |long e |deep e=>rw[E]at e;cases e
 |long E=>
  cases a with
  |ok C s B _L e h o d bL |deep e=>rw[E]at e;cases e
  |long e=>exact .inr #[Z,by rw[LX Z];exact q]
 |deep E=>
  cases a with
  |ok C s B _L e h o d bL |long e=>rw[E]at e;cases e
  |deep e=>exact .inr #[Z,by rw[LX Z];exact q]
theorem BS{t:Nat}{pds:List cq}{D:aO}{f:ρ}{is:List Int}{T b:TE}{G:Bool->Hp->Prop}(e:∀F:VK,(∀v h,Kp H h->RR t h pds D f is v->F v h)->T c H F)(i:∀h,Kp H h->∀F:VK,(∀v a,Kp h a->RR t a pds D f is v->F v a)->b c h F)(g:∀a,Kp H a->G μ a):i6 (dW (Ic (yL 100) Ib) T b) c H G:=
 e _ λv h k r=>i h k _ λu a d R=>Gb (r.tm$ Kp.tm d) R #[_,Z,g a$ k.trn d]
structure Lp(H:Hp)(nA pA ta cA ot p c0:η)(i:Nat)(Cs D:aO)(d:Df)(ds:List Df)(ns:List Nat)(xs:List V)(pds:List cq)(is:List Int)(so:Sk)(ao:Int)(vd:V):Prop where
 rw:EK H nA pA ta cA ot p i Cs D d ds ns xs pds is
 co:h9 H d.f is so ao (.ref c0)
 ok:so.ok ν
 sz:so.size<=1000
 old:sj pds d.f is so ao
 vd:RR 60 H pds D d.f is vd
section
variable {H H':Hp}{nA pA ta cA ot p c0:η}{i:Nat}{Cs D:aO}{d:Df}{ds:List Df}{ns:List Nat}{xs:List V}{pds:List cq}{is:List Int}{so:Sk}{ao:Int}{vd:V}
theorem Lp.kp(h:Lp H nA pA ta cA ot p c0 i Cs D d ds ns xs pds is so ao vd)(k:Kp H H'):Lp H' nA pA ta cA ot p c0 i Cs D d ds ns xs pds is so ao vd:=#[h.rw.kp k,h.co.mono'$ Kp.tm k,h.ok,h.sz,h.old,h.vd.tm$ Kp.tm k]
theorem Lp.bx(h:Lp H nA pA ta cA ot p c0 i Cs D d ds ns xs pds is so ao vd)(B:ap H' p)(e:∀b,b≠p->H' b=H b):Lp H' nA pA ta cA ot p c0 i Cs D d ds ns xs pds is so ao vd:=by
 let N:∀{b:η} {o:HO},H b=δ o->(∀l,o≠ .lst l)->H' b=δ o:=λ{b o} E n=>by rw[e b λz=>by let⟨_,_,_,_,_,g⟩:=h.rw.bx.ob;rw[<- z,E]at g;exact n _$ Mh g];exact E
 let t:ai H H':=λb xs E=>N E (by intro l z;cases z);exact#[#[h.rw.ps.mono t,h.rw.hd,h.rw.hn,t _ _ h.rw.ag,h.rw.hi,N h.rw.ce (by intro l z;cases z),h.rw.gc,N h.rw.oe (by intro l z;cases z),h.rw.gd,B],h.co.mono' t,h.ok,h.sz,h.old,h.vd.tm t]
theorem Lp.al(h:Lp H nA pA ta cA ot p c0 i Cs D d ds ns xs pds is so ao vd){t:Nat}(e:l=[.ref pA,.ref c0,.ref ot,.int (t:Int)])(m:t<=60){Q:VK}(g:∀v j,Kp H j->RR t j pds D d.f is v->Q v j):nC nA l H Q E:=
 #[t,pA,c0,ot,i,D,so,ao,d,ds,ns,xs,pds,is,e,m,h.rw.ps,h.rw.hd,h.rw.hn,h.rw.hi,h.rw.oe,h.rw.gd,h.co,h.ok,h.sz,h.old,λc s b L H' a n o q S k=>g _ H' k (.ok c s b L a n o q S),λa H' k=>g _ H' k (.long a),λa H' k=>g _ H' k (.deep a)]
theorem Lp.ru(h:Lp H nA pA ta cA ot p c0 i Cs D d ds ns xs pds is so ao vd)(e:l=[.ref pA,.str d.f,.ref ta,.ref ot,.int (t:Int)])(m:t<=60){Q:VK}(g:∀v j,Kp H j->RR t j pds D d.f is v->Q v j):iQ nA l H Q E:=
 #[t,pA,ta,ot,i,D,d,ds,ns,xs,pds,is,e,m,h.rw.ps,h.rw.hd,h.rw.hn,h.rw.ag,h.rw.hi,h.rw.oe,h.rw.gd,λc s b L H' a n o q S k=>g _ H' k (.ok c s b L a n o q S),λa H' k=>g _ H' k (.long a),λa H' k=>g _ H' k (.deep a)]
end
inductive II(a p r C k z A j E v:η)(x y:Option V)(c:List V)(s m:Nat)(f D:aO)(d:Df)(l:List Df)(w:List Nat)(e:List V)(b:List cq)(t:List Int)(B:Sk)(h:Int)(F:V)(i:Nat)(G:_L.St)(g:Hp):Prop
 |mk(o:Option V)(n:G=[↑a,↑p,↑r,δ (.str d.f),↑C,↑k,↑z,x,y,↑A,↑j,δ F,δ (.int (m:Int)),o])(u:Lp g v A C k z p j s f D d l w e b t B h F)(q:g E=δ (.tup c))
theorem cg:ak ["_law_script","_law_box_here","_law_program","_law_f","_law_args","_law_cells_here","_law_other","_law_cell","_law_number_here","_law_parts","_law_old","_law_due","_law_most","_law_turns"] ["_law_script"] (aa oC):=bJ
theorem C5(F:rx K "law" oC f fd)(cB:Cl P w K mg base 1 fB f3 ["_law_script","_law_k"] (pG K) "_law_box")(cK:Cl P w K mg base 23 fK f4 z1z mz "_law_case")(cM:Cl P w K mg base 65 fM f5 ["program"] (mE K nA) "made")(cC:Cl P w K mg base 3 fC f6 z1z iy "_law_cells")(cG:Cl P w K mg base 3 fG f7 ["_law_box_here","_law_most"] pH "_law_changes")(cT:Cl P w K mg base 1 fT f9 z0z aZ "_law_take")(cS:Cl P w K mg base 3 fS f' z1z mH "_law_sunk")(cU:Cl P w K mg base 46 fU g5 z36z (iQ nA) "_law_run")(cL:Cl P w K mg base 72 fL g6 z37z (nC nA) "_law_along")(cZ:Cl P w K mg base 17 fZ g7 z16z (nJ 16) "_law_size")(m2:mg "dict"=θ)(m0:mg "isinstance"=θ)(m1:mg "str"=θ)(m3:mg "max"=θ)(k0:kitOne K (.type "str") (.type "str")=δ ν)(k4:kitOne K (.type "tuple") (.type "str")=δ μ):ah P w K mg base aE 73 f fd ["_law_script"] (nD K):=by
 refine F.ok cg λg8 A o4 s H vs Q E B h=>?_
 let⟨a,ns,rfl,hS,i1,q⟩:=h;refine#[_,(jd (jy 1 cg.nd$ cB.e B.m$ ja (pv 0)$ ja je jb)$ jd (zf (cK.e B.m$ ja (cB.e B.m$ ja (pv 0)$ ja je jb) jb)$ zM (n:=3) Z$ jB (jw (i:=2) cg.nd Z$ Φ Z)$ jB (jw (i:=3) cg.nd Z$ Φ Z)$ jB (jw (i:=4) cg.nd Z$ Φ Z) kE)$ jd (jy 5 cg.nd$ cC.e B.m$ ja (cB.e B.m$ ja (pv 0)$ ja je jb) jb)$ jd (jy 6 cg.nd$ jE JD Z m2 TU$ ja (pv 5) jb)$ jd (ki Ml Z (qC$ cG.e B.m$ ja (cB.e B.m$ ja (pv 0)$ ja je jb)$ ja je jb) (zM (n:=2) Z$ jB (jw (i:=7) cg.nd Z$ Φ Z)$ jB (jw (i:=8) cg.nd Z$ Φ Z) kE)$ jg$ qc (zQ B) (pv 6) (pv 7) (pv 8) Z)$ jd (j3$ jx (ze$ cT.e B.m$ ja (pv 1)$ ja je jb) (jd (zf (cS.e B.m$ ja (pv 1) jb)$ zM (n:=3) Z$ jB (jw (i:=2) cg.nd Z$ Φ Z)$ jB (jw (i:=3) cg.nd Z$ Φ Z)$ jB (jw (i:=4) cg.nd Z$ Φ Z) kE)$ jd (qc (zQ B) (pv 5) je (cT.e B.m$ ja (pv 1)$ ja je jb) Z)$ jg$ qc (zQ B) (pv 6) je (jv jU je$ cT.e B.m$ ja (pv 1)$ ja je jb) Z) jp)$ jd (jy 9 cg.nd$ cM.e B.m$ ja (pv 2) jb)$ jd (jy 10 cg.nd$ cU.e B.m$ ja (pv 9)$ ja (pv 3)$ ja (pv 4)$ ja (pv 5)$ ja je jb)$ jd (jx (Kh$ jF qx Z m0 Nv$ ja (pv 10)$ ja (JV (v:=.ty "str") Z m1 UB Z) jb) (jg$ jo$ qE za (pv 10) (jh$ @Q3 _ _ ["long","deep"] UM) Z) jp)$ jd (jy 11 cg.nd$ cU.e B.m$ ja (pv 9)$ ja (pv 3)$ ja (pv 4)$ ja (pv 6)$ ja je jb)$ jd (jy 12 cg.nd je)$ jd (jx (uM$ Kh$ jF qx Z m0 Nv$ ja (pv 11)$ ja (JV (v:=.ty "str") Z m1 UB Z) jb) (jg$ jy 12 cg.nd$ cZ.e B.m$ ja (pv 11) jb) jp)$ jd (ki Ml Z (zN$ jh$ ja je$ ja (pv 12)$ ja (jF (ZT Z) Z m3 boot_max$ ja je$ ja (jv kj (pv 12) je) jb)$ ja je$ ja (cT.e B.m$ ja (pv 1)$ ja (jv jU (pv 12) je) jb)$ ja je jb) (jw (i:=13) cg.nd Z$ Φ Z)$ jg$ jx (jA (Dm (Dl (d:=100)$ AX B) Kb) (cL.e B.m$ ja (pv 9)$ ja (pv 10)$ ja (pv 6)$ ja (pv 13) jb) (cU.e B.m$ ja (pv 9)$ ja (pv 3)$ ja (pv 4)$ ja (pv 6)$ ja (pv 13) jb)$ aG _) (jg$ jo$ @Bf _ _ _ _) jp)$ jd (jx (Kh$ jF qx Z m0 Nv$ ja (pv 11)$ ja (JV (v:=.ty "str") Z m1 UB Z) jb) (jg$ jo$ qE za (pv 11) (jh$ @Q3 _ _ ["long","deep"] UM) Z) jp)$ jd (jx (PW.pt$ Ju (jA qX (pv 12) je$ aG _)$ qA$ jA Kb (cL.e B.m$ ja (pv 9)$ ja (pv 10)$ ja (pv 6)$ ja (jv kj (pv 12) je) jb) jk$ aG _) (jg$ jo$ @Bf _ _ _ _) jp)$ jg$ jo$ qE (Yk (d:=100)$ AX B) (cL.e B.m$ ja (pv 9)$ ja (pv 10)$ ja (pv 6)$ ja (pv 12) jb) (pv 11)$ aG _),?_];let i2:=aI;refine aj λI u=>#[_,Z,a,ns,1,Z,hS,UJ,UJ,λp H1 np B1 e1=>u _ _ ?_];clear u;let s1:ae H H1:=λb o e=>by rw[e1 b$ jl e np];exact e
 refine aj λI u=>#[_,Z,a,ns,2,Z,s1.seq hS,UJ,UJ,λp2 H2 n1 B2 e2=>#[p2,Z,B2,λt r v2 v3 ds x1 H3 ht a2 hD h1 h8 nl hN X h5 B3 k3=>#[t,_,Z,aC.of ht,Z,_,_,Z,_,_,Z,_,_,Z,Z,u _ _ ?_]]];clear u;let s3:ae H1 H3:=λb o e=>k3 _ _ (jl e n1) (by rw[e2 b$ jl e n1];exact e);show dy _ _ _ [↑a,↑p,↑r,δ v2,δ v3,θ,θ,θ,θ,θ,θ,θ,θ,θ] H3;refine aj λI u=>#[_,Z,a,ns,3,Z,(s1.trans s3).seq hS,UJ,UJ,λp4 H4 n2 B4 e4=>#[p4,Z,B4,λC Cs L n5 Y gC lC B5 k5=>u _ _ ?_]];clear u;let s5:ae H3 L:=λb o e=>k5 _ _ (jl e n2) (by rw[e4 b$ jl e n2];exact e);refine aj λI u=>#[_,Z,C,Cs,Z,Y,λO not=>u _ _ ?_];clear u;let s6:ae L (af L O$ .dK Cs):=jf not;let e6:af L O (.dK Cs) O=δ (.dK Cs):=jc;generalize af L O (.dK Cs)=S at s6 e6;let s0:=s5.trans s6;let n0:C≠O:=jl Y not;refine aj λI u=>eQ λJ j=>#[_,Z,a,ns,4,Z,((s1.trans s3).trans s0).seq hS,UJ,UJ,λp7 H7 n3 B7 e7=>#[p7,4,Z,B7,UJ,UJ,λl zs H8 n6 h6 pV lV B8 k8=>#[l,Z,#[_,aJ.of h6],j _ _ ?_]]];clear j;let s8:ae S H8:=λb o e=>k8 _ _ (jl e n3) (by rw[e7 b$ jl e n3];exact e);refine QL (K:=K) (a:=l) (xs:=zs) (IG a p C O (.ref r) v2 v3 H8 Cs.length) #[θ,θ,Cs,Z,s8 _ _ e6,gC,Lx _,λ_ _ _ e=>e] (λk σ H' _ h=>?_) ?_ (λσ H' h=>u _ _ ?_)
 .let⟨_,_,_,_,_,_,_,kk⟩:=h;exact aJ.of$ kk _ _ (λz=>by rw[z,s8 _ _ e6]at h6;cases h6) h6
 .clear u;intro E rt k x σ HC h7 fE Gq kq h;let⟨T,U,D,rfl,w1,w2,w3,w4⟩:=h;refine kq ?_;clear kq;let⟨qq,cc,ii,rfl,hq,c4⟩:=pV x (LS h7);let hq:=w4 _ _ (λz=>by rw[z,s8 _ _ e6]at hq;cases hq) hq;let i3:=(ξ.mp h7).1;let pl:=zk (kvs:=D) (k:=.inl cc) (v:=.int ii);refine#[qq,_,Z,aC.of hq,Z,_,_,Z,_,_,Z,Z,#[_,Z,_,Z,_,Z,O,_,Z,lO.k (k:=.inl cc) w1 UK,fE _ _ #[_,_,_,Z,jc,w2.put _ c4,UK,λb o nb e=>by rw[ji nb];exact w4 _ _ nb e]]]
 let⟨T,U,D,rfl,w1,w2,w3,w4⟩:=h;let t0:=ae.tm (s0.trans s8);let tm:ai H3 H':=λb xs e=>w4 b _ (λz=>by let:=t0 _ _ e;rw[z,s8 _ _ e6]at this;cases this) (t0 _ _ e);let h3:=w4 _ _ n0 (s8 _ _$ s6 _ _ Y);let Bp:ap H' p:=by let⟨b1,b2,g1,g2,g3,g4⟩:=(B1.same$ s3.trans$ s0.trans s8).ob;exact#[b1,b2,g1,g2,g3,w4 _ _ (λz=>by rw[z,s8 _ _ e6]at g4;cases g4) g4]
 let c5:=tm _ _ a2;let c6:=hD.mono tm;let a3:=X.mono tm;let a4:=h5.mono tm;let lD:D.length<=200:=by omega
 clear w4 s8 s0 s6 s5 s3 s1 tm t0 a2 hD X h5 w3;refine aj λI u=>dF (IH a p C O) (λE0 _ fm=>?_) λσ1 H0 c9=>?_
 .clear u;refine#[_,Z,p,3,Z,Bp,UJ,UJ,λdg H9 d0 d1 B9 q9=>#[Z,_,Z,?_]];let k9:aD p H' H9:=aD.of_eq q9;let cp:C≠p:=λz=>by let⟨_,_,_,_,_,g⟩:=Bp.ob;rw[<- z,h3]at g;cases g
  let op:O≠p:=λz=>by let⟨_,_,_,_,_,g⟩:=Bp.ob;rw[<- z,w1]at g;cases g
  let t9:ai H' H9:=λb xs e=>k9 b _ (λz=>by let⟨_,_,_,_,_,g⟩:=Bp.ob;rw[<- z,e]at g;cases g) e;split
  .refine aj λF2 f2=>#[_,Z,p,Z,B9,λt r5 v5 v6 es ys HA ht d2 d3 h2 ml d4 a' b0 BA kA=>#[t,_,Z,aC.of ht,Z,_,_,Z,_,_,Z,_,_,Z,Z,f2 _ _ ?_]];clear f2;let c2:=kA _ _ cp (k9 _ _ cp h3);let o1:=kA _ _ op (k9 _ _ op w1);let pt:∀{H0:Hp} {b:η} {xs:List V},ap H0 p->H0 b=δ (.tup xs)->b≠p:=λB0 e z=>by let⟨_,_,_,_,_,g⟩:=B0.ob;rw[<- z,e]at g;cases g
   show dy _ _ _ [↑a,↑p,↑r5,δ v5,δ v6,↑C,↑O,T,U,θ,θ,θ,θ,θ] HA;let p1:=λx=>zk (kvs:=Cs) (k:=.inl 0) (v:=.int x);refine aj λF2 f2=>#[_,Z,p,9,Z,BA,UJ,UJ,λd6 HB g0 g1 BB qB=>#[_,Z,C,_,Z,lO.k (k:=.inl 0) (by rw[qB C cp];exact c2) UK,f2 _ _ ?_]];clear f2;let tB:ai HA HB:=λb xs e=>by rw[qB b$ pt BA e];exact e
   let o5:HB O=δ (.dK D):=by rw[qB O op];exact o1
   let cB:HB C=δ (.dK Cs):=by rw[qB C cp];exact c2
   let k':aD C HB (af HB C$ .dK$ bg Cs (.inl 0)$ .int d6):=λb o nb e=>by rw[ji nb];exact e
   let e0:af HB C (.dK$ bg Cs (.inl 0)$ .int d6) C=δ (.dK$ bg Cs (.inl 0)$ .int d6):=jc;let BC:ap (af HB C$ .dK$ bg Cs (.inl 0)$ .int d6) p:=BB.eq (ji$ Me cp);generalize af HB C (.dK$ bg Cs (.inl 0)$ .int d6)=HC at k' e0 BC;let tC:ai HB HC:=λb xs e=>k' b _ (λz=>by rw[z,cB]at e;cases e) e;let o2:=k' _ _ (Me n0) o5;let pD:=λx=>zk (kvs:=D) (k:=.inl 0) (v:=.int x);refine#[_,Z,p,12,Z,BC,UJ,UJ,λd7 HD g2 g3 BD qD=>#[8,d7,Z,Z,_,Z,O,_,Z,lO.k (k:=.inl 0) (by rw[qD O op];exact o2) UK,fm _ _ ?_]];let tD:ai HC HD:=λb xs e=>by rw[qD b$ pt BC e];exact e
   let o6:HD O=δ (.dK D):=by rw[qD O op];exact o2
   let cD:HD C=δ (.dK$ bg Cs (.inl 0)$ .int d6):=by rw[qD C cp];exact e0
   let tE:ai HD (af HD O$ .dK$ bg D (.inl 0)$ .int (8+d7)):=λb xs e=>by rw[ji (λz=>by rw[z,o6]at e;cases e)];exact e
   let tt:=((tB.trans tC).trans tD).trans tE;exact#[r5,v5,v6,T,U,es,ys,ml,_,_,Z,tt _ _ d2,d3.mono tt,UK,d4,a'.mono tt,b0.mono tt,by rw[ji n0];exact cD,gC.put _ #[g0,UK],jc,w2.put _ #[UK,UK],BD.eq$ ji$ Me op]
  .exact fm _ _ #[r,v2,v3,T,U,ds,x1,nl,Cs,D,Z,t9 _ _ c5,c6.mono t9,h8,hN,a3.mono t9,a4.mono t9,k9 _ _ cp h3,gC,k9 _ _ op w1,w2,B9]
 refine u _ _ ?_;clear u;let⟨r,v3,v4,T,U,ds,xs,nl,Cs,D,rfl,b3,h',h8,hN,X,h5,Y,gC,b4,gD,Bp⟩:=c9;let⟨d,ps,ta,is,hd,rfl,d5,rfl,b5,d8,d',e5⟩:=h5;refine aj λI u=>#[_,Z,r,ds,xs,Z,b3,h',UK,λd hd=>(hN.1 d hd).1,λv H4 hv s4=>u _ _ ?_];clear u;let⟨W,x0,rfl,b7,b9⟩:=J7 hv;let T4:=ae.tm s4;let⟨i0,hi,ei⟩:=hJ.mp hd;let a0:ds[i0]?=δ d:=by rw[<- ei];exact Ls hi
 let a1:=Dp X a0 d5;rw[<- d8]at a1;let⟨pds,hP⟩:=FR b7 b9 #[xs,h'.mono T4] hN (X.mono T4);let R:EK H4 nA W ta C O p i0 Cs D d ds nl x0 pds is:=#[hP,a0,a1,T4 _ _ b5,e5,s4 _ _ Y,gC,s4 _ _ b4,gD,Bp.same s4];show dy _ _ _ [↑a,↑p,↑r,δ$ .str d.f,↑ta,↑C,↑O,T,U,↑W,θ,θ,θ,θ] H4;clear hP X a1 a0 b5 Y b4 hv b9 b7 h' b3 Bp T4 s4;refine aj λI u=>?_;suffices M:∀(v:V) (L:Hp),Kp H4 L->RR 60 L pds Cs d.f is v->I [↑a,↑p,↑r,δ$ .str d.f,↑ta,↑C,↑O,T,U,↑W,δ v,θ,θ,θ] L by clear u;exact#[_,Z,_,Z,_,Z,_,Z,60,W,ta,C,i0,Cs,d,ds,nl,x0,pds,is,Z,UJ,R.ps,R.hd,R.hn,R.ag,R.hi,R.ce,R.gc,λc sk b L' L y hc ok dp sz k5=>M _ L k5 (.ok c sk b L' y hc ok dp sz),λy L k5=>M _ L k5 (.long y),λy L k5=>M _ L k5 (.deep y)]
 intro vo L k5 ro;refine u _ _ ?_;clear u;let N:=R.kp k5;refine aj λI u=>?_;suffices M:∀(c0:η) (so:Sk) (ao:Int) (Lo:aO),aK 60 pds Cs 16 d.f is [] 0= .ok so ao Lo so.size->h9 L d.f is so ao (.ref c0)->so.ok ν->so.dep<=15->so.size<=60->I [↑a,↑p,↑r,δ$ .str d.f,↑ta,↑C,↑O,T,U,↑W,↑c0,θ,θ,θ] L by
  clear u;cases ro with
  |ok c sk b L' y hc ok dp sz=>let⟨c',g',e',s2,ec,h4,_⟩:=id hc;cases ec;exact#[_,Z,_,_,_,_,_,Z,Z,.tup h4,k4,_,Z,aX Z$ M _ sk b L' y hc ok dp sz]
  |long y |deep y=>refine#[_,Z,_,_,_,_,_,Z,Z,.str _,k0,_,Z,ci Z ?_];refine#[_,Z,bL,λl7 n7=>#[l7,_,Z,.inr$ aC.of jc,Z,Z,?_]];exact q _
 intro c0 so ao Lo e3 b' o9 e8 s';refine u _ _ ?_;clear u;refine aj λI u=>?_;suffices M:∀(v:V) (S:Hp),Kp L S->RR 60 S pds D d.f is v->I [↑a,↑p,↑r,δ$ .str d.f,↑ta,↑C,↑O,T,U,↑W,↑c0,δ v,θ,θ] S by clear u;exact#[_,Z,_,Z,_,Z,_,Z,60,W,ta,O,i0,D,d,ds,nl,x0,pds,is,Z,UJ,N.ps,N.hd,N.hn,N.ag,N.hi,N.oe,N.gd,λc sk b L' S y hc ok dp sz k6=>M _ S k6 (.ok c sk b L' y hc ok dp sz),λy S k6=>M _ S k6 (.long y),λy S k6=>M _ S k6 (.deep y)]
 intro vd S k6 rd;refine u _ _ ?_;clear u;let l2:Lp S nA W ta C O p c0 i0 Cs D d ds nl x0 pds is so ao vd:=#[N.kp k6,b'.mono'$ Kp.tm k6,o9,UK,#[60,Cs,16,[],0,Lo,so.size,e3],rd];clear k6 N R k5 b' e3 e8 ro;refine aj λI u=>u _ _ ?_;clear u;show dy _ _ _ [↑a,↑p,↑r,δ$ .str d.f,↑ta,↑C,↑O,T,U,↑W,↑c0,δ vd,δ$ .int 60,θ] S;refine aj λI u=>?_;suffices M:∀(m:Nat) (H7:Hp),m<=60->(∀sk b L',aK 60 pds D 16 d.f is [] 0= .ok sk b L' sk.size->m=sk.size)->Kp S H7->I [↑a,↑p,↑r,δ$ .str d.f,↑ta,↑C,↑O,T,U,↑W,↑c0,δ vd,δ$ .int (m:Int),θ] H7 by
  clear u;cases rd with
  |ok c sk b L' y hc ok dp sz=>let⟨c',g',e',s2,ec,h4,_⟩:=id hc;cases ec;refine#[_,Z,_,_,_,_,_,Z,Z,.tup h4,k4,_,Z,ci Z #[_,Z,d.f,is,sk,b,_,Z,hc,ok,UK,sz,λH7 s7=>?_]];exact M sk.size H7 sz (λ_ _ _ z=>by rw[y]at z;cases z;rfl)$ Kp.of_same s7
  |long y |deep y=>exact#[_,Z,_,_,_,_,_,Z,Z,.str _,k0,_,Z,aX Z (M 60 S (Lx _) (λ_ _ _ z=>by rw[y]at z;cases z) λ_ _ _ e=>e)]
 intro m H7 hm e9 k7;refine u _ _ ?_;clear u;let l0:=l2.kp k7;clear l2 k7 rd;refine aj λI u=>eQ λJ j=>#[_,Z,_,Z,_,_,Z,Z,_,_,Z,_,Z,_,Z,_,_,Z,Z,p,(m:Int)+1,Z,l0.rw.bx,UK,UK,λdg H8 d0 d1 B8 q8=>#[(by show 6<=υ;decide),λtp n4=>#[tp,Z,#[_,aC.of jc],j _ _ ?_]]];clear j;let l1:=(l0.bx B8 q8).kp (Kp.of_same$ jf (o:=.tup [.int 60,.int (m:Int),.int (if (m:Int) - 1 > 0 then (m:Int) - 1 else 0),.int 0,.int dg,.int 60]) n4);refine Jj (K:=K) (a:=tp) (xs:=[.int 60,.int (m:Int),.int (if (m:Int) - 1 > 0 then (m:Int) - 1 else 0),.int 0,.int dg,.int 60]) (II a p r ta C O W c0 tp nA T U [.int 60,.int (m:Int),.int (if (m:Int) - 1 > 0 then (m:Int) - 1 else 0),.int 0,.int dg,.int 60] i0 m Cs D d ds nl x0 pds is so ao vd) #[_,Z,l1,jc] (λk σ H' _ h=>?_) ?_ (λσ H' h=>u _ _ ?_)
 .let⟨_,_,_,e⟩:=h;exact aC.of e
 .clear u l1 l0;intro E rt k x σ HC h7 fE Gq kq h;let⟨o3,rfl,lp,e1⟩:=h;refine kq ?_;clear kq;let hx:∃t:Nat,t<=60/\x= .int (t:Int):=by
   let hx:=LS h7;rcases Ξ.mp hx with rfl |hx
   .exact#[60,Lx _,Z]
   rcases Ξ.mp hx with rfl |hx
   .exact#[m,hm,Z]
   rcases Ξ.mp hx with rfl |hx
   .exact#[m - 1,UK,by congr 1;split<;>omega]
   rcases Ξ.mp hx with rfl |hx
   .exact#[0,UK,Z]
   rcases Ξ.mp hx with rfl |hx
   .exact#[dg.toNat,UK,by congr 1;omega]
   rcases Ξ.mp hx with rfl |hx
   .exact#[60,Lx _,Z]
   .cases hx
  let⟨t,ht,rfl⟩:=hx;show i5 _ _ _ E [↑a,↑p,↑r,δ$ .str d.f,↑ta,↑C,↑O,T,U,↑W,↑c0,δ vd,δ$ .int (m:Int),δ$ .int (t:Int)] HC;refine oR λG1 yT yF=>BS (t:=t) (pds:=pds) (D:=D) (f:=d.f) (is:=is) (λF M=>#[_,Z,_,Z,_,Z,_,Z,lp.al Z ht M]) (λH1 k1 F M=>#[_,Z,_,Z,_,Z,_,Z,_,Z,(lp.kp k1).ru Z ht M]) λH2 k2=>yF _ ?_;exact fE _ _ #[_,Z,lp.kp k2,k2 _ _ Ym e1]
 let⟨o3,rfl,lp,_⟩:=h;clear l1 l0;refine aj λI u=>?_;let rv:=lp.vd;cases rv with
 |long y |deep y=>refine#[_,Z,_,_,_,_,_,Z,Z,.str _,k0,_,Z,ci Z ?_];refine#[_,Z,bL,λl7 n7=>#[l7,_,Z,.inr$ aC.of jc,Z,Z,?_]];exact q _
 |ok c sk b L' y hc ok dp sz=>
  let em:=e9 _ _ _ y;let⟨c',g',e',s2,ec,h4,_⟩:=id hc;cases ec;refine#[_,Z,_,_,_,_,_,Z,Z,.tup h4,k4,_,Z,aX Z$ u _ _ ?_];clear u;refine aj λI u=>?_;suffices M:∀H9,Kp H' H9->I [↑a,↑p,↑r,δ$ .str d.f,↑ta,↑C,↑O,T,U,↑W,↑c0,↑c,δ$ .int (m:Int),o3] H9 by
   clear u;refine oR λG1 yT yF=>#[_,Z,_,_,Z,Z,_,Z,?_];by_cases h0:(0:Int) < m
   .refine ci (LX h0) #[_,Z,_,Z,_,Z,_,Z,_,_,Z,Z,lp.al (t:=m - 1) (by show [rs W,.ref c0,.ref O,.int ((m:Int) - 1)]=_;rw[show((m:Int) - 1)=((m - 1:Nat):Int) by omega]) UK λv H1 k1 r1=>?_];let lg:=(uS (M':=m - 1) y).2 UK;cases r1 with
    |ok c1 s9 b1 L1 G c3 o' f0 i8 |deep G=>rw[lg]at G;cases G
    |long G=>exact#[Z,_,Z,by rw[LX Z];exact yF _ (M _ k1)]
   .exact aX (LL h0)$ yF _$ M _ λ_ _ _ e=>e
  intro H9 k9;refine u _ _ ?_;clear u;refine#[_,Z,_,Z,_,Z,_,Z,(lp.kp k9).al (t:=m) Z hm λv H1 k1 r1=>?_];let tl:=(uS (M':=m) y).1 UK;cases r1 with
  |long G |deep G=>rw[tl]at G;cases G
  |ok c1 s9 b1 L1 G c3 o' f0 i8=>rw[tl]at G;cases G;exact#[_,Z,_,_,sH ok dp,Y8 ok,Y8 ok,Y6 c3 ok,Y6 (hc.mono'$ Kp.tm$ k9.trn k1) ok,by rw[zT Z];exact q _]
theorem Fx:ah P w K mg base aE k f c z16z (nJ 0):=by
 let n:∀{v H Q E},¬nJ 0 v H Q E:=by rintro v H Q E ⟨f,i,s,a,u,_,_,_,z,_⟩;omega
 exact#[λv H Q E h=>(n h).elim,λA o s H b U v Q E d e g j h=>(n h).elim]
theorem IW(F:rx K "_law_size" Gc f a)(b:aw K a z16z [])(m:mg "_law_size"=↑f)(M:mg "sum"=θ):∀n,ah P w K mg base aE (n+1) f a z16z (nJ n)
 |0=>Fx
 |n+1=>FH F #[(IW F b m M n),b,F.kp,m] M
theorem Fu:ah P w K mg base (c7 P w) k f g z15z (nk C T b N 0):=by
 let n:∀{v H Q E},¬nk C T b N 0 v H Q E:=by rintro v H Q E ⟨M,r,j,l,m,q,u,p,c,x,D,t,y,i,L,Cs,S,B,d,F,G,X,e,I,_,_,z,_⟩;omega
 exact#[λv H Q E h=>(n h).elim,λA o s H a U v Q E J O R V h=>(n h).elim]
theorem IQ(d:RK K C)(n:aW K C "anew")(F:aQ K "chain_along" "AgainRun.chain_along" yN k f)(B:aw K f z15z [])(m:a8 K C "chain_along" k)(l:aQ K "what_along" "AgainRun.what_along" yO U e)(o:aw K e z25z [])(M:a8 K C "what_along" U)
  (G:∀j,ah P w K mg base (c7 P w) (2*j+13) Y g z11z$ gU C T t N j) (p:aw K g z11z []) (a:a8 K C "what_of" Y) (GT:ah P w K mg base (c7 P w) 1 fT h ["self"] (eK C T)) (q:aw K h ["self"] []) (b:a8 K C "take_turn" fT) (r:ah P w K mg base (c7 P w) 1 s i ["deep"] (di t)) (u:aw K i ["deep"] []) (v:fz K (.ref s)=ν) (x:mg "deeper"=↑s) (y:Cl P w K mg base 36 fP fdP z9z (nH 17) "paths_at")
  (z:Cl P w K mg base 2 fN fdN ["parts","f"] iT "part_of") (A:Cl P w K mg base 1 fG fdG ["chain","number"] nB "goal_at") (D:Cl P w K mg base 1 fL fdL ["steps","mark","cut"] iS "like_from") (E:Cl P w K mg base 2 fV fdV ["steps","mark","deed"] iR "lender_from") (H:Cl P w K mg base 1 fI fdI ["what"] lJ "deed_in") (I:Cl P w K mg base 9 fE fdE z8z (dU N) "deed_at") (J:Cl P w K mg base 9 fO fdO ["part","step"] (oK N) "onward") (L:Cl P w K mg base 1 fK fdK ["steps","at"] lM "chain_taken") (O:Cl P w K mg base 1 fF fdF ["what"] iN "found_in") (Q:mg "len"=θ) (c:mg "tuple"=θ):∀j,ah P w K mg base (c7 P w) (2*j+38) k f z15z (nk C T t N j)
 |0=>Fu
 |j+1=>Fy F d n z A D E H I J L O (Fz l d n (G j) p a GT q b (IQ d n F B m l o M G p a GT q b r u v x y z A D E H I J L O Q c j) B m r u v x y) o M Q c
@[elab_as_elim] theorem Lk{P:List ζ->Prop}(u:List ζ)(h:u.length=1)(q:∀a,P [a]):P u:=by
 cases u with
 |nil=>cases h
 |cons a r=>
  cases r with
  |nil=>exact q a
  |cons _ _=>cases h
theorem _root_._L.aQ.b1{K:β}{st:cv}{p:List ρ}(F:aQ K x q st f g)(h:∀(kV d b:ζ) (A:Option η) (c C a:ζ),bindArgs (qs x q (bN st) (ba st) (aa st) .none kV d b A c C) #[[a],[]]=pure (p.zip [a]):=by intros;rfl)(e:p.length=1:=by rfl):aw K g p []:=F.binds λkV d b A c C u H=>Lk u (H.trans e) λa=>h kV d b A c C a
@[elab_as_elim] theorem Ll{P:List ζ->Prop}(u:List ζ)(h:u.length=2)(q:∀a b,P [a,b]):P u:=by
 cases u with
 |nil=>cases h
 |cons a r=>
  cases r with
  |nil=>cases h
  |cons b R=>
   cases R with
   |nil=>exact q a b
   |cons _ _=>cases h
theorem _root_._L.aQ.b2{K:β}{st:cv}{p:List ρ}(F:aQ K x q st f i)(h:∀(kV d g:ζ) (A:Option η) (c C a b:ζ),bindArgs (qs x q (bN st) (ba st) (aa st) .none kV d g A c C) #[[a,b],[]]=pure (p.zip [a,b]):=by intros;rfl)(e:p.length=2:=by rfl):aw K i p []:=F.binds λkV d g A c C u H=>Ll u (H.trans e) λa b=>h kV d g A c C a b
@[elab_as_elim] theorem Lm{P:List ζ->Prop}(u:List ζ)(h:u.length=3)(q:∀a b c,P [a,b,c]):P u:=by
 cases u with
 |nil=>cases h
 |cons a r=>
  cases r with
  |nil=>cases h
  |cons b R=>
   cases R with
   |nil=>cases h
   |cons c d=>
    cases d with
    |nil=>exact q a b c
    |cons _ _=>cases h
theorem _root_._L.aQ.b3{K:β}{st:cv}{p:List ρ}(F:aQ K x q st f j)(h:∀(kV d g:ζ) (A:Option η) (C i a b c:ζ),bindArgs (qs x q (bN st) (ba st) (aa st) .none kV d g A C i) #[[a,b,c],[]]=pure (p.zip [a,b,c]):=by intros;rfl)(e:p.length=3:=by rfl):aw K j p []:=F.binds λkV d g A C i u H=>Lm u (H.trans e) λa b c=>h kV d g A C i a b c
@[elab_as_elim] theorem Ln{P:List ζ->Prop}(u:List ζ)(h:u.length=4)(q:∀a b c d,P [a,b,c,d]):P u:=by
 cases u with
 |nil=>cases h
 |cons a r=>
  cases r with
  |nil=>cases h
  |cons b R=>
   cases R with
   |nil=>cases h
   |cons c e=>
    cases e with
    |nil=>cases h
    |cons d f=>
     cases f with
     |nil=>exact q a b c d
     |cons _ _=>cases h
theorem _root_._L.aQ.b4{K:β}{st:cv}{p:List ρ}(F:aQ K x q st f j)(h:∀(kV D g:ζ) (A:Option η) (C i a b c d:ζ),bindArgs (qs x q (bN st) (ba st) (aa st) .none kV D g A C i) #[[a,b,c,d],[]]=pure (p.zip [a,b,c,d]):=by intros;rfl)(e:p.length=4:=by rfl):aw K j p []:=F.binds λkV D g A C i u H=>Ln u (H.trans e) λa b c d=>h kV D g A C i a b c d
@[elab_as_elim] theorem Lq{P:List ζ->Prop}(u:List ζ)(h:u.length=5)(q:∀a b c d e,P [a,b,c,d,e]):P u:=by
 cases u with
 |nil=>cases h
 |cons a r=>
  cases r with
  |nil=>cases h
  |cons b R=>
   cases R with
   |nil=>cases h
   |cons c f=>
    cases f with
    |nil=>cases h
    |cons d g=>
     cases g with
     |nil=>cases h
     |cons e i=>
      cases i with
      |nil=>exact q a b c d e
      |cons _ _=>cases h
theorem _root_._L.aQ.b5{K:β}{st:cv}{p:List ρ}(F:aQ K x q st f j)(h:∀(kV D g:ζ) (A:Option η) (C i a b c d e:ζ),bindArgs (qs x q (bN st) (ba st) (aa st) .none kV D g A C i) #[[a,b,c,d,e],[]]=pure (p.zip [a,b,c,d,e]):=by intros;rfl)(e:p.length=5:=by rfl):aw K j p []:=F.binds λkV D g A C i u H=>Lq u (H.trans e) λa b c d e=>h kV D g A C i a b c d e
def dZ(K:β)(p q:ρ)(st:cv)(f:η):Prop:=∃(o:ζ) (O:Option η) (kV d a:ζ) (A:Option η) (c C:ζ) (s:Array (Option ζ)),K.lookup f=δ #[o,O,.func$ qs p q (bN st) (ba st) (aa st) .none kV d a A c C,s]/\codeIn K c q=ν/\fz K (.ref f)=ν
def bZ(K:β)(p:ρ)(st:cv)(f:η):Prop:=nsIn K Δ p=δ (↑f)/\dZ K p p st f
section
variable {K:β}{py q:ρ}{st:cv}{f:η}{oc:ζ}{od:Option η}{kV dc pm:ζ}{an:Option η}{cd ct:ζ}{sl:Array (Option ζ)}
theorem IR(l:K.lookup f=δ #[oc,od,.func$ qs py q (bN st) (ba st) (aa st) .none kV dc pm an cd ct,sl])(c:codeIn K cd q=ν)(k:fz K (.ref f)=ν):dZ K py q st f:=#[_,_,_,_,_,_,_,_,_,l,c,k]
theorem Iz(a:nsIn K Δ py=δ (↑f))(l:K.lookup f=δ #[oc,od,.func$ qs py py (bN st) (ba st) (aa st) .none kV dc pm an cd ct,sl])(c:codeIn K cd py=ν)(k:fz K (.ref f)=ν):bZ K py st f:=#[a,IR l c k]
theorem dZ.go(h:dZ K py q st f):∃F,aQ K py q st f F/\fz K (.ref f)=ν:=by let⟨oc,od,kV,dc,pm,an,cd,ct,sl,l,c,k⟩:=h;exact#[_,tG l c k,k]
theorem bZ.go{mg:ρ->Option ζ}(t:bZ K py st f)(X:K.In h)(G:h.Ns Δ mg):∃a,aQ K py py st f a/\fz K (.ref f)=ν/\mg py=↑f:=by let⟨a,F,k⟩:=t.2.go;exact#[a,F,k,Oe X G t.1]
end
theorem BL{l:pp}{w:bU}{K:β}{mg:ρ->Option ζ}(X:K.In h)(G:h.Ns Δ mg)(r6:mg "law"=↑fa)
                 
  (t3:bZ K "names_in" eI f3)
  (t4:bZ K "own_terms" DM r7)
  (t5:bZ K "used_behind_terms" vq fUb)
  (t7:bZ K "used_ahead_of" yY f6)
  (t8:bZ K "used_ahead" yX fUa)
  (t9:bZ K "bodies_in" DF r8)
  (t':bZ K "many_cuts" vb r9)
  (r':bZ K "deed_of" uZ s0)
  (s1:bZ K "place_of_give" mq f7)
  (s2:bZ K "place_of_set" vf s3)
  (s4:bZ K "part_made" ve s5)
  (s6:bZ K "made" pf s7)
  (s8:bZ K "_law_box" DG s9)
  (wS:bZ K "_law_take" vp s')
  (u0:bZ K "_law_number" mh u1)
  (u2:bZ K "_law_names" iF u3)
  (u4:bZ K "_law_term" pj u8)
  (u9:bZ K "_law_spot" vg u')
  (v1:bZ K "_law_statement" vh fSt)
  (v2:bZ K "_law_body" o0 v3)
  (v4:bZ K "_law_any" DE v5)
  (dW:bZ K "_law_op" Ih v6)
  (v7:bZ K "_law_inner" oB v8)
  (v9:bZ K "_law_looped" ip v')
  (w0:bZ K "_law_ticking" gg w1)
  (w2:bZ K "_law_busy" uW w3)
  (w4:bZ K "_law_case" pe w5)
  (w6:bZ K "joined" me w7)
  (w8:bZ K "worth" mv w9)
  (w':bZ K "named" mf x1)
  (x2:bZ K "begun" ou x3)
  (x4:bZ K "deeper" lY x5)
  (x7:bZ K "part_of" mn x8)
  (x9:bZ K "cut_at" oA x')
  (y0:bZ K "held_at" md y1)
  (y2:bZ K "worths" iq y3)
  (y5:bZ K "deed_at" lX y')
  (A1:bZ K "found_in" gf f9)
  (A2:bZ K "end_of" ma A3)
  (A5:bZ K "first_of" iE A8)
  (A9:bZ K "onward" mj A')
  (B0:bZ K "run" DO B1)
  (B2:bZ K "whats_at" y4 B3)
  (B4:bZ K "whats_in" y6 B5)
  (B6:bZ K "paths_at" yV B7)
  (B8:bZ K "deed_in" DI B9)
  (B':bZ K "goal_at" DJ C')
  (D':bZ K "like_from" va E1)
  (E2:bZ K "chain_taken" DP E3)
  (E4:bZ K "again" DC E5)
  (E6:bZ K "lender_from" u7 E7)
  (E8:bZ K "_law_cells" oy E9)
  (E':bZ K "_law_changes" DH H0)
  (H1:bZ K "_law_sunk" vj H2)
  (H3:bZ K "_law_size" Gc H4)
  (H5:bZ K "_law_word" vt H6)
  (H7:bZ K "_law_run" u6 H8)
  (H9:bZ K "_law_along" DL H')
  (tZ:bZ K "law" oC fZ)
  (I1:nsIn K Δ "NOUGHT"=δ (↑E)) (I2:K.lookup E=δ #[.type "tuple",odN,.seq (ε [.str "num" rN0,.int 0 rN1]) nN,slN]) (I3:nsIn K Δ "Cutting"=δ (↑p)) (v0:nsIn K Δ "TOP"=δ (δ$ .int 1000000000000000000 tTop)) (vD:nsIn K Δ "DEEPEST"=δ (δ$ .int 15 tD)) (vR:nsIn K Δ "BookRun"=δ (↑b)) (vT:nsIn K Δ "Turns"=δ (↑d4)) (vL:nsIn K Δ "AgainRun"=δ (↑C)) (vB:nsIn K Δ "BookError"=δ (↑xB))
  (I4:nsIn K Δ "TooLong"=δ (↑x))
  (I5:nsIn K Δ "TooDeep"=δ (↑r))
  (I6:nsIn K Δ "NoCount"=δ (↑xC))
  (I7:nsIn K Δ "NoName"=δ (↑xN))
  (I':nsIn K Δ "NoRow"=δ (↑xR))
  (J0:nsIn K Δ "NoStep"=δ (↑xS))
  (K1:nsIn K Δ "NoText"=δ (↑xT))
  (K3:nsIn K Δ "Twice"=δ (↑xW))
  (K4:K.lookup x=δ #[ocxL,odxL,.cls cdxL,slxL]) (t1:typeIn K (.ref x)=δ (.type "type")) (mbxL:mroIn K x (.type "BaseException")=δ ν) (k':fz K (.ref x)=ν)
  (K5:K.lookup r=δ #[ocxD,odxD,.cls cdxD,slxD]) (t2:typeIn K (.ref r)=δ (.type "type")) (mbxD:mroIn K r (.type "BaseException")=δ ν) (d5:fz K (.ref r)=ν)
  (L0:K.lookup xB=δ #[ocxB,odxB,.cls cdxB,slxB]) (t0:typeIn K (.ref xB)=δ (.type "type")) (m6:mroIn K xB (.type "BaseException")=δ ν)
  (e0:excIn K x pX "ValueError.__new__"=ν) (e1:excIn K r pX "ValueError.__new__"=ν)
  (X':lQ K x) (d6:lQ K r)
  (d7:nZ K #[xC,xN,xR,xS,xT,xW,x,r,xB] x μ) (d8:nZ K #[xC,xN,xR,xS,xT,xW,x,r,xB] r ν)
  (rk:RK K b) (L1:Mk K b f0) (tm:sw K d4 "__init__" f4) (d':a8 K b "take_turn" f1) (e2:a8 K b "number_in" f2) (m7:a8 K b "chain_of" f') (e3:a8 K b "what_of" f5)
  (ra:RK K C) (n6:aW K C "anew") (L3:Mk K C e4) (L4:sw K b "__init__" f0) (Q:a8 K C "take_turn" f1) (m8:a8 K C "number_in" f2) (m9:a8 K C "chain_of" f') (m':a8 K C "what_of" f5) (a4:a8 K C "chain_along" e5) (e6:a8 K C "what_along" L5)
  (ck:CK K p) (mk:Mk K p e7) (e8:a8 K p "place_of_body" e9) (L6:a8 K p "place_of" L7) (L8:a8 K p "place_of_cut" L') (M':a8 K p "ways_of" N1)
  (N2:dZ K "__init__" "Cutting.__init__" u5 e7)
  (N3:dZ K "place_of_body" "Cutting.place_of_body" yR e9)
  (N':dZ K "place_of" "Cutting.place_of" yW L7)
  (O':dZ K "place_of_cut" "Cutting.place_of_cut" yS L')
  (P1:dZ K "ways_of" "Cutting.ways_of" yZ N1)
  (P4:dZ K "__init__" "Turns.__init__" vk f4)
  (Q':dZ K "take_turn" "Turns.take_turn" oE f1)
  (R1:dZ K "number_in" "Turns.number_in" vm f2)
  (R3:dZ K "__init__" "BookRun.__init__" uV f0)
  (R5:dZ K "chain_of" "BookRun.chain_of" yP f')
  (R7:dZ K "what_of" "BookRun.what_of" yQ f5)
  (R8:dZ K "__init__" "AgainRun.__init__" uU e4)
  (R9:dZ K "chain_along" "AgainRun.chain_along" yN e5)
  (R':dZ K "what_along" "AgainRun.what_along" yO L5)
  (z4:nsIn K Δ "len"=δ θ)
  (z5:nsIn K Δ "int"=δ θ)
  (z0:nsIn K Δ "range"=δ θ)
  (z2:nsIn K Δ "list"=δ θ)
  (I:nsIn K Δ "reversed"=δ θ)
  (z1:nsIn K Δ "tuple"=δ θ)
  (R:nsIn K Δ "sorted"=δ θ)
  (z6:nsIn K Δ "set"=δ θ)
  (z7:nsIn K Δ "zip"=δ θ)
  (z3:nsIn K Δ "dict"=δ θ)
  (A:nsIn K Δ "enumerate"=δ θ)
  (t:nsIn K Δ "isinstance"=δ θ)
  (z8:nsIn K Δ "sum"=δ θ)
  (z':nsIn K Δ "max"=δ θ)
  (e':nsIn K Δ "str"=δ θ)
  (u:nsIn K Δ "ValueError"=δ θ)
  (S1:kitOne K (.type "str") (.type "str")=δ ν)
  (S2:kitOne K (.type "tuple") (.type "str")=δ μ)
  :∃fd:fy,(∀(s:ι) (v:ζ),BindsTo s fd #[[v],[]] [("_law_script",v)])/\∀base:cJ,K.In base->base.Ns Δ mg->ah l.prog w K mg base aE 73 fa fd ["_law_script"] (nD K):=by
 let e:=r6.symm.trans (Oe X G tZ.1);cases e;let⟨S4,J,k0,S⟩:=t3.go X G;let⟨dOw,g0,S5,S6⟩:=t4.go X G;let⟨dUb,g1,kUb,S7⟩:=t5.go X G;let⟨dUo,F3,g2,a'⟩:=t7.go X G;let⟨dUa,g4,kUa,S8⟩:=t8.go X G;let⟨dBi,g5,S9,S'⟩:=t9.go X G;let⟨dMc,b0,g6,g7⟩:=t'.go X G;let⟨dDe,g8,T0,T1⟩:=r'.go X G;let⟨dPg,F4,g',h0⟩:=s1.go X G;let⟨dPs,h1,T2,T4⟩:=s2.go X G;let⟨dPm,h2,T9,T'⟩:=s4.go X G;let⟨dMa,h3,U0,U1⟩:=s6.go X G;let⟨dBx,h4,U2,U3⟩:=s8.go X G;let⟨dTk,F,k,m⟩:=wS.go X G;let⟨dNu,T,k1,m0⟩:=u0.go X G;let⟨dNm,F5,k6,b7⟩:=u2.go X G;let⟨dTm,F6,h5,b9⟩:=u4.go X G;let⟨dPo,h6,U4,U5⟩:=u9.go X G;let⟨dSt,h7,kSt,U6⟩:=v1.go X G;let⟨dBo,b',U7,h8⟩:=v2.go X G;let⟨dAn,h',U8,U9⟩:=v4.go X G;let⟨dOp,U,k2,m1⟩:=dW.go X G;let⟨dIn,i0,U',V0⟩:=v7.go X G;let⟨dLo,i1,V1,V2⟩:=v9.go X G;let⟨dTi,i2,V3,V4⟩:=w0.go X G;let⟨dBu,i3,V5,V6⟩:=w2.go X G;let⟨dCa,i4,V7,V8⟩:=w4.go X G;let⟨dJo,i',V9,V'⟩:=w6.go X G;let⟨dWo,V,k7,m2⟩:=w8.go X G;let⟨dNd,c0,j0,j1⟩:=w'.go X G;let⟨dBe,j2,W0,W1⟩:=x2.go X G;let⟨dDp,Y,k3,m3⟩:=x4.go X G;let⟨dPf,F0,k4,m4⟩:=x7.go X G;let⟨dCu,F1,k5,m5⟩:=x9.go X G;let⟨dHe,c1,l0,l1⟩:=y0.go X G;let⟨dWs,l2,W2,W3⟩:=y2.go X G;let⟨dDa,F7,k8,c2⟩:=y5.go X G;let⟨dFo,F9,l3,l4⟩:=A1.go X G;let⟨dEn,c3,l5,l6⟩:=A2.go X G;let⟨dFi,c4,l7,l8⟩:=A5.go X G;let⟨dOn,a0,k9,c5⟩:=A9.go X G;let⟨dRu,l9,W4,W5⟩:=B0.go X G;let⟨dWa,a1,W6,l'⟩:=B2.go X G;let⟨dWi,c6,W7,n3⟩:=B4.go X G;let⟨dPa,n4,W8,W9⟩:=B6.go X G;let⟨dDi,c9,n5,n7⟩:=B8.go X G;let⟨dGa,n',W',Y'⟩:=B'.go X G;let⟨dLk,o1,Z',mLk⟩:=D'.go X G;let⟨dKt,o2,kKt,mKt⟩:=E2.go X G;let⟨dAg,o3,kAg,mAg⟩:=E4.go X G;let⟨dLe,o4,kLe,mLe⟩:=E6.go X G;let⟨dCe,o5,kCe,mCe⟩:=E8.go X G;let⟨dCg,o6,kCg,mCg⟩:=E'.go X G;let⟨dSu,o7,kSu,mSu⟩:=H1.go X G;let⟨dSz,c',kSz,o8⟩:=H3.go X G;let⟨dWd,d0,o9,o'⟩:=H5.go X G;let⟨dUr,p0,kUr,mUr⟩:=H7.go X G;let⟨dLa,p1,kLa,mLa⟩:=H9.go X G;let⟨dmI,p2,kmI⟩:=N2.go;let⟨dmB,d1,kmB⟩:=N3.go;let⟨dmO,p3,kmO⟩:=N'.go;let⟨dmC,p4,kmC⟩:=O'.go;let⟨dmW,p6,kmW⟩:=P1.go;let⟨dTI,a2,kTI⟩:=P4.go;let⟨dTT,L,kTT⟩:=Q'.go;let⟨dTN,F2,kTN⟩:=R1.go;let⟨dRI,a3,kRI⟩:=R3.go;let⟨dRC,M,kRC⟩:=R5.go;let⟨dRW,O,kRW⟩:=R7.go;let⟨dAI,p7,kAI⟩:=R8.go;let⟨dAL,d2,kAL⟩:=R9.go;let⟨dAW,p9,kAW⟩:=R'.go;let⟨ocZ,odZ,kVZ,dcZ,pmZ,anZ,cdZ,ctZ,slZ,lZ,cZ,kZ⟩:=tZ.2;let FZ:=tG (st:=oC) lZ cZ kZ;let d:=M3 X G z4;let B:=M3 X G z5;let a:=M3 X G z0;let n0:=M3 X G z2;let f:=M3 X G I;let N:=M3 X G z1;let i:=M3 X G R;let n1:=M3 X G z6;let n2:=M3 X G z7;let q:=M3 X G z3;let D:=M3 X G A;let o:=M3 X G t;let p':=M3 X G z8;let q0:=M3 X G z';let q1:=M3 X G e';let y:=M3 X G u;let q2:n9 K E:=λH=>.inr #[_,_,_,I2,Z,Z,bL,(.cons #[_,Z] (.cons #[_,Z] .nil))];refine#[qs "law" "law" (bN oC) (ba oC) (aa oC) .none kVZ dcZ pmZ anZ cdZ ctZ,λs v=>.of_eq Z,λbase _ _=>?_];let g:ah l.prog w K mg base aE 1 s' _ _ aZ:=yv F;let GBx:ah l.prog w K mg base aE 1 s9 _ _ (pG K):=CZ h4 d B;let G0:ah l.prog w K mg base aE 2 u1 _ _ hX:=rO T #[g,F.b2,k,m];let G5:ah l.prog w K mg base aE 2 u3 _ _ eN:=ut F5 g F.b2 k m a;let q3:ah l.prog w K mg base aE 6 u8 _ _ (cy 4):=Bu (P:=l.prog) (w:=w) (base:=base) F6 F6.b3 b9 #[g,F.b2,k,m] #[G0,T.b1,k1,m0] d 4;let GPo:ah l.prog w K mg base aE 7 u' _ _ iV:=yt h6 #[g,F.b2,k,m] #[q3,F6.b3,h5,b9];let SS:=Gs (P:=l.prog) (w:=w) (base:=base) h7 b' #[g,F.b2,k,m] #[q3,F6.b3,h5,b9] #[GPo,h6.b2,U4,U5] h7.b5 U6 b'.b5 h8 d N a;let GBo:ah l.prog w K mg base aE 21 v3 _ _ (gM 6):=(SS 6).2;let GAn:ah l.prog w K mg base aE 22 v5 _ _ pF:=CV h' #[g,F.b2,k,m] #[G5,F5.b2,k6,b7] #[GBo,b'.b5,U7,h8] d a N B;let G1:ah l.prog w K mg base aE 2 v6 _ _ nE:=FF U #[g,F.b2,k,m];let GIn:ah l.prog w K mg base aE 3 v8 _ _ (dj 2):=ur i0 #[g,F.b2,k,m] #[G1,U.b3,k2,m1];let GLo:ah l.prog w K mg base aE 3 v' _ _ (dj 1):=rM i1 #[g,F.b2,k,m] #[G1,U.b3,k2,m1] B N;let GTi:ah l.prog w K mg base aE 3 w1 _ _ (dj 1):=YY i2 #[g,F.b2,k,m] #[G1,U.b3,k2,m1] B N;let GBu:ah l.prog w K mg base aE 4 w3 _ _ my:=yg i3 #[g,F.b2,k,m] #[G1,U.b3,k2,m1] #[G5,F5.b2,k6,b7] #[GLo,i1.b4,V1,V2] #[GTi,i2.b4,V3,V4] #[GIn,i0.b4,U',V0];let GCa:ah l.prog w K mg base aE 23 w5 _ _ mz:=yh i4 #[g,F.b2,k,m] #[G0,T.b1,k1,m0] #[GBu,i3.b1,V5,V6] #[GAn,h'.b3,U8,U9] d N;let NS:=Bc (P:=l.prog) (w:=w) (base:=base) J J.b1 S n1 i;let q4:ah l.prog w K mg base aE 7 f3 _ _ (dm 6):=NS 6;let GNc:ah l.prog w K mg base aE 7 f3 _ _ (pJ K):=C6 (fN:=f3) (fdN:=S4) J #[NS 5,J.b1,k0,S] n1 i;let GOw:ah l.prog w K mg base aE 1 r7 _ _ nF:=C7 g0;let US:=GP (P:=l.prog) (w:=w) (base:=base) g4 g1 F3 g4.b2 S8 g1.b2 S7 F3.b2 a' #[GOw,g0.b1,S5,S6] #[q4,J.b1,k0,S] n0 n1 i f;let GUo:ah l.prog w K mg base aE 31 f6 _ _ (gu 7):=(US 7).2;let GUz:ah l.prog w K mg base aE 10 f6 _ _ (gu 0):=(US 0).2;let GBi:ah l.prog w K mg base aE 1 r8 _ _ nq:=CY g5;let q5:ah l.prog w K mg base aE 2 r9 _ _ gO:=yo b0 #[GBi,g5.b1,S9,S'] n0;let GDe:ah l.prog w K mg base aE 1 s0 _ _ iM:=yi g8;let GPg:ah l.prog w K mg base aE 8 f7 _ _ gr:=uu F4 #[q4,J.b1,k0,S];let GPc:ah l.prog w K mg base aE 8 f7 _ _ (pK K):=C9 F4 #[GNc,J.b1,k0,S];let GPs:ah l.prog w K mg base aE 11 s3 _ _ iU:=yr h1 #[GUz,F3.b2,g2,a'];let GmB:ah l.prog w K mg base aE 63 e9 _ _ (nG p 8):=IU (P:=l.prog) (w:=w) (base:=base) ck d1 p3 p4 p6 d1.b3 e8 p3.b3 L6 p4.b3 L8 p6.b4 M' #[q5,b0.b1,g6,g7] #[GUo,F3.b2,g2,a'] #[GDe,g8.b1,T0,T1] #[GPg,F4.b1,g',h0] #[GPs,h1.b2,T2,T4] d N f 8 (Lx _);let GmI:ah l.prog w K mg base aE 3 e7 _ _ (pI p):=C3 p2 ck #[q5,b0.b1,g6,g7];let GPm:ah l.prog w K mg base aE 64 s5 _ _ (mG K E):=yq h2 ck mk GmI p2.b2 (Oe X G I3) (Oe X G I1) q2 GmB d1.b3 e8 #[GPc,F4.b1,g',h0] N f;let GMa:ah l.prog w K mg base aE 65 s7 _ _ (mE K E):=yn h3 #[GPm,h2.b3,T9,T'] N;let GJo:ah l.prog w K mg base aE 1 w7 _ _ iP:=rL i' (Oe X G v0);let G6:ah l.prog w K mg base aE 7 w9 _ _ (cj K 6):=wJ (P:=l.prog) (w:=w) (base:=base) V V.b2 m2 #[GJo,i'.b3,V9,V'] 6;let G2:ah l.prog w K mg base aE 1 x' _ _ (iK E):=um F1;let q6:ah l.prog w K mg base aE 2 y1 _ _ (iO E):=rK c1 #[G2,F1.b2,k5,m5] q n2;let GWs:ah l.prog w K mg base aE 8 y3 _ _ gw:=rR l2 #[G6,V.b2,k7,m2] N;let G9:ah l.prog w K mg base aE 9 y' _ _ (dU E):=rG F7 #[q6,c1.b3,l0,l1] #[G2,F1.b2,k5,m5] #[G6,V.b2,k7,m2] #[GWs,l2.b2,W2,W3];let GFo:ah l.prog w K mg base aE 1 f9 _ _ eM:=uq F9;let q7:ah l.prog w K mg base aE 8 A3 _ _ (ny E):=uo c3 #[G2,F1.b2,k5,m5] #[G6,V.b2,k7,m2] N q2;let q8:ah l.prog w K mg base aE 9 A8 _ _ (gq E):=Y0 c4 #[q7,c3.b3,l5,l6] q n2;let G':ah l.prog w K mg base aE 9 A' _ _ (oK E):=rP a0 #[G2,F1.b2,k5,m5] #[q6,c1.b3,l0,l1] #[GFo,F9.b1,l3,l4] #[q7,c3.b3,l5,l6];let hxL:clsIn K x≠θ:=by
  unfold clsIn;rw[K4];intro z;cases z
 let hxD:clsIn K r≠θ:=by unfold clsIn;rw[K5];intro z;cases z
 let q9:=Oe X G I4;let q':=Oe X G I5;let x0:XM K mg "TooLong" x:=#[e0,k',X',t1,q9];let xmD:XM K mg "TooDeep" r:=#[e1,d5,d6,t2,q'];let r0:ah l.prog w K mg base aE 1 x1 _ _ iT:=rN c0;let G3:ah l.prog w K mg base aE 2 x8 _ _ iT:=rQ F0 #[r0,c0.b2,j0,j1];let GBe:ah l.prog w K mg base aE 2 x3 _ _ iw:=ui j2 #[r0,c0.b2,j0,j1] d;let G4:ah l.prog w K mg base (c7 l.prog w) 1 x5 _ _ (di r):=rH Y (Oe X G vD) xmD;let GTI:ah l.prog w K mg base aE 1 f4 _ _ (iW b):=ZA a2 rk;let GTT:ah l.prog w K mg base (c7 l.prog w) 1 f1 _ _ (eK b x):=XI L rk x0;let GTN:ah l.prog w K mg base aE 1 f2 _ _ (eO b):=ZB F2 rk;let GRI:ah l.prog w K mg base aE 2 f0 _ _ (gQ b):=ZF a3 rk GTI a2.b3 (Oe X G vT) tm;let GRC:=BN (P:=l.prog) (w:=w) (base:=base) rk M M.b4 m7 O O.b3 e3 #[q8,c4.b2,l7,l8] #[G9,F7.b3,k8,c2] #[G',a0.b2,k9,c5] GTT L.b1 d' GTN F2.b2 e2 (G4) Y.b1 k3 m3 #[G3,F0.b2,k4,m4] N 16;let GRu:ah l.prog w K mg base (c7 l.prog w) 45 B1 _ _ (pM x r E):=Db l9 rk L1 GRI a3.b4 (Oe X G vR) #[GBe,j2.b3,W0,W1] GRC M.b4 m7;let GCe:ah l.prog w K mg base aE 3 E9 _ _ iy:=uk o5 #[g,F.b2,k,m] #[G0,T.b1,k1,m0] a;let r1:clsIn K xB≠θ:=by unfold clsIn;rw[L0];intro z;cases z
 let r2:=Oe X G vB;let GWi:ah l.prog w K mg base aE 34 B5 _ _ (iY 16):=GV (P:=l.prog) (w:=w) (base:=base) a1 a1.b2 l' c6 c6.b2 n3 D 16;let GWa:ah l.prog w K mg base aE 35 B3 _ _ (nK 17):=uB (n:=16) a1 #[GWi,c6.b2,W7,n3];let GPa:ah l.prog w K mg base aE 36 B7 _ _ (nH 17):=C8 (n:=16) n4 #[GWa,a1.b2,W6,l'];let r3:ah l.prog w K mg base aE 1 B9 _ _ lJ:=C1 c9;let GFz:ah l.prog w K mg base aE 1 f9 _ _ iN:=rJ F9;let GLk:ah l.prog w K mg base aE 1 E1 _ _ iS:=yk o1 d a;let GLe:ah l.prog w K mg base aE 2 E7 _ _ iR:=yj o4 #[r3,c9.b1,n5,n7] d a;let GGa:ah l.prog w K mg base aE 1 C' _ _ nB:=C2 n' d;let GKt:ah l.prog w K mg base aE 1 E3 _ _ lM:=De o2;let GTJ:ah l.prog w K mg base aE 1 f4 _ _ (iW C):=ZA a2 ra;let d3:ah l.prog w K mg base (c7 l.prog w) 1 f1 _ _ (eK C x):=XI L ra x0;let r4:ah l.prog w K mg base aE 1 f2 _ _ (eO C):=ZB F2 ra;let GRJ:ah l.prog w K mg base aE 2 f0 _ _ (gQ C):=ZF a3 ra GTJ a2.b3 (Oe X G vT) tm;let GAI:ah l.prog w K mg base aE 3 e4 _ _ (mx C):=yf p7 ra n6 GRJ a3.b4 (Oe X G vR) L4;let GAC:=BN (P:=l.prog) (w:=w) (base:=base) ra M M.b4 m9 O O.b3 m' #[q8,c4.b2,l7,l8] #[G9,F7.b3,k8,c2] #[G',a0.b2,k9,c5] d3 L.b1 Q r4 F2.b2 m8 (G4) Y.b1 k3 m3 #[G3,F0.b2,k4,m4] N;let GAW:∀j,ah l.prog w K mg base (c7 l.prog w) (2*j+13) f5 _ _ (gU C x r E j):=λj=>uj O ra d3 L.b1 Q r4 F2.b2 m8 (G4) Y.b1 k3 m3 #[G3,F0.b2,k4,m4] (GAC j) M.b4 m9;let GAL:ah l.prog w K mg base (c7 l.prog w) 70 e5 _ _ (nk C x r E 16):=IQ (P:=l.prog) (w:=w) (base:=base) ra n6 d2 d2.b4 a4 p9 p9.b5 e6 GAW O.b3 m' d3 L.b1 Q (G4) Y.b1 k3 m3 #[GPa,n4.b2,W8,W9] #[G3,F0.b2,k4,m4] #[GGa,n'.b2,W',Y'] #[GLk,o1.b3,Z',mLk] #[GLe,o4.b3,kLe,mLe] #[r3,c9.b1,n5,n7] #[G9,F7.b3,k8,c2] #[G',a0.b2,k9,c5] #[GKt,o2.b2,kKt,mKt] #[GFz,F9.b1,l3,l4] d N 16;let GAg:ah l.prog w K mg base (c7 l.prog w) 71 E5 _ _ (pE x r E):=CU o3 ra n6 L3 GAI p7.b4 (Oe X G vL) GAL d2.b4 a4 i;let r5:By l.prog w K mg base 1 H6 _ _ (iZ K #[xC,xN,xR,xS,xT,xW,x,r,xB]):=yx d0 (c:=#[xC,xN,xR,xS,xT,xW,x,r,xB]) o y B (Oe X G I6) (Oe X G I7) (Oe X G I') (Oe X G J0) (Oe X G K1) (Oe X G K3) q9 q';let GUr:ah l.prog w K mg base aE 46 H8 _ _ (iQ E):=yl (c:=#[xC,xN,xR,xS,xT,xW,x,r,xB]) p0 (GRu) l9.b5 W4 W5 (r5) d0.b1 o9 o' r2 r1 t0 m6 d7 d8 q;let GLa:ah l.prog w K mg base aE 72 H' _ _ (nC E):=C4 (c:=#[xC,xN,xR,xS,xT,xW,x,r,xB]) p1 (GAg) o3.b4 kAg mAg (r5) d0.b1 o9 o' r2 r1 t0 m6 d7 d8 q;let GSz:ah l.prog w K mg base aE 17 H4 _ _ (nJ 16):=IW (P:=l.prog) (w:=w) (base:=base) c' c'.b1 o8 p' 16;let GSu:ah l.prog w K mg base aE 3 H2 _ _ mH:=yu o7 #[G5,F5.b2,k6,b7];let GCg:ah l.prog w K mg base aE 3 H0 _ _ pH:=C0 o6 #[g,F.b2,k,m] #[G0,T.b1,k1,m0] a;exact C5 FZ #[GBx,h4.b2,U2,U3] #[GCa,i4.b1,V7,V8] #[GMa,h3.b1,U0,U1] #[GCe,o5.b1,kCe,mCe] #[GCg,o6.b2,kCg,mCg] #[g,F.b2,k,m] #[GSu,o7.b1,kSu,mSu] #[GUr,p0.b5,kUr,mUr] #[GLa,p1.b4,kLa,mLa] #[GSz,c'.b1,kSz,o8] q o q1 q0 S1 S2
theorem IB{l:pp}{Y:bU->cJ->Prop}{d:DefRec}{K:Params->β}(e:l.most=δ 63)(H:d.params.defaults=[])
  (g:∀(w:bU) (h:cJ),Y w h->(K w.params).In h)
  (F:∀(w:bU) (mg:ρ->Option ζ) (b:η) (h:cJ),(K w.params).In h->h.Ns Δ mg->mg d.name=↑b->
   ∃c:fy,(∀(s:ι) (u:ζ),BindsTo s c #[[u],[]] [("_law_script",u)])/\∀base:cJ,(K w.params).In base->base.Ns Δ mg->ah l.prog w (K w.params) mg base aE 73 b c ["_law_script"] (nD$ K w.params)):
  PySem.W.WalkO q L m Y l.row.toRowW d [] (λf v=>PySem.call f v):=
 _L.Ar (n:=63) (k:=73) (x:="_law_script") (CX:=λ_=>aE) (sp:=λw=>nD (K w.params)) e UJ H #[Z,UJ,UJ] g F (λ_ _ a N i _ j=>#[a,N,Z,j,i,λ_=>Z]) λ_ _ _ _ _ z=>z
end _K
structure PySem.W.Fast:Prop where(tw10065364322906513827 tw10522271663839836331 tw16810435475843374252 tw10085392015164615850 tw6721452132411444943 tw10256272473216801393 tw14287532372301210704 tw2341765391342296214 tw5458991971864786011 tw249907599035332305 tw13708091318746020501 tw3374393071249736962 tw5772483997784383527 tw2691076199114642046 tw11352778843650032887 tw4156856181476024878 tw7761875035489388887 tw4632491825724965125 tw6858912367633335766 tw4657125480276692905 tw98131953011134620 tw16720708806283767198 tw16334957740002885861 tw5492487854987722456 tw8903720284460129560 tw17854865827587208493 tw3560107513408391744 tw10948190365008184815 tw3088500166360487062 tw5464783061599855245 tw6315971620532885217 tw13882381872257942144 tw4389654826477299730 tw17179744639273808594 tw1830455191167806158 tw4935547077962037378 tw1760415829154106317 tw14363547960332946887 tw14090276742378186679 tw5620612892295093572 tw7478627462987756679 tw6901739989273745275 tw3686026835442867711 tw10871126403914084655 tw8002064071535916576 tw18144424623010400500 tw4197205983908791710 tw11834788243949715001 tw5408811533774001140 tw3599052925973309174 tw3934746641144262918 tw8219052446359859766 tw11002560812008767983 tw1000013428050235319 tw4589153382346471116 tw3370128942405414998 tw11904938073362325133 tw5871770373947980427 tw15787232284121700941 tw5478711336202034599 tw13556623672394729243 tw2604647615069301499 tw16651162801011187461 tw10686911592063621602 tw12566661088401682033 tw14249753562566820721 tw14318764098655987022 tw16123567264352686784 tw17543356381503529551 tw11722970158587608512 tw1123420894912796284 tw4923430354044674950 tw7602124284349557327 tw8926480416987669292 tw1567765255747289547 tw2987286834087344571 tw9067392242909506312 tw14940026832240555775 tw1198777836685945001 tw13331202521823207120 tw18007520566919100531 tw7181538718666436163 tw16326282092535407200 tw14747615463193830783 tw1391775142908631854 tw6062283236800266314 tw6189561705435926849 tw2675620556707761485 tw1140611611958089529 tw4212593770799644156 tw10229621482863414231 tw414993013912147395 tw1873328330520294360 tw8371078219407831965 tw7029369509144179249 tw7799170114722393969 tw7348047747949955814 tw17446756191595675574 tw17247529830415214316 tw2681697791884430725 tw8908638988251009411 tw5493299896563606200 tw12071540199008466776 tw3313919866184217905 tw11804512038672260569 tw5313194302300502525 tw992401133771389281 tw9112397350935228513 tw7318279646509367513 tw18091327062047799247 tw7531447726548406246 tw10016677962305210486 tw6254027697307123862 tw1199608024092371263 tw14356405267710303769 tw15758028849708768190 tw10724584618392537105 tw14175046439622057142 tw13823595254136813951 tw1178321954272850992 tw4154428208947816218 tw3366276257076238661 tw11102414599171626900 tw9994232491632690463 tw7504017780508853762 tw18385471363940342568 tw547081185586289796 tw16195759133960378219 tw118814064578337761 tw10339094865621813147 tw18251531473112251297 tw4875756945482499909 tw2745657491629318977 tw2953425093986056914 tw17220120185978483634 tw12719380487702103416 tw11936928055205297246 tw3717572494630945819 tw3265945026431824988 tw11513900341893861799 tw5627235196956221592 tw4120344529134604661 tw13294171339708631514 tw7254929857475975068 tw2846848635687332235 tw8927460927532658760 tw15825057130025277295 tw12312187546043771029 tw974048117984142273 tw11012631862564736288 tw17604766634297201124 tw3731545563713929194 tw14382395565440975660 tw2180115941469955931 tw445598873992048439 tw17105876208377820633 tw18231730978800946217 tw14558376900889416401 tw15346313838665760341 tw17286367374862157067 tw13880981353849166352 tw8426716015948280941 tw6651292913637332416 tw13015315780048120414 tw10761315816938723815 tw16762494607415869658 tw2770244599593841765 tw5293858810747461829 tw484112162532659745 tw12114187757790836877 tw16104137661333301906 tw13933087301739599561 tw594371616106487578 tw10111559461331208741 tw8203917987030052593 tw13617707167360282620 tw8922757888289225434 tw8850842748854882550 tw6266786630321431087 tw14298386376609017378 tw12670273234029844541 tw8326677981255888225 tw13753579633808309258 tw4356063804932188571 tw3406090018427454071 tw7259358632190432367 tw16576736928137776648 tw9563763952911914957 tw11587974813018905751 tw7877369322200714223 tw8001088557868263664 tw15234779412092302526 tw16442655572660368522 tw12150852197325190307 tw4126708144047362428 tw8040387960544544797 tw13214713175826600084 tw11757033376762756495 tw17832002213787959143 tw6112588345951088146 tw14639575400028664380 tw50670431654514126 tw12002274161865981882 tw14099765109012336824 tw14945317544470726012 tw14965596321700017534 tw7610013898595814636 tw6214988431543347827 tw5270322096581004551 tw4821717382253661773 tw1164272820822947176 tw16020393251805496271 tw3797046165182377432 tw7241646594847764325 tw1243645544512283388 tw16472156044938951753 tw6102256207942533243 tw3275450172496181015 tw16983714901862297738 tw11395870123555226283 tw8196254128547533398 tw4419905471025931304 tw12550064121695582305 tw9834784302555700486 tw16914742641013890063 tw12136758569884297439 tw8629777632925858975 tw6359877553502625369 tw4741566859462490510 tw15069308395289162898 tw3738050893472260243 tw3145094600114177153 tw13965195955813188918 tw11697710633945388674 tw5806194741893034491 tw11562280384441729900 tw8566505453088983045 tw7525702974546362311 tw11321792610737511631 tw7649420374348903184 tw8866381643988610581 tw11493319489434550831 tw14116756611069138497 tw8257519282063466108 tw6126013859497025736 tw5004192371879971971 tw8927120749474115695 tw6448181632215705561 tw14707346494407503695 tw14509379810567343315 tw17297706949384299846 tw15570232606968592930 tw14181552606845876083 tw16625480346383587995 tw11696134359810817178 tw16173570224197715334 tw5797412650955165189 tw6800462242893968545 tw4561116073552470620 tw804381240618804868 tw858245029061969204 tw15337949883212667230 tw7711012045284074141 tw7170741940310218163 tw2971259349208356533 tw10560211629758615672 tw13019269570745340505 tw9763001891875941730 tw7699632037923882344 tw1530959104463060491 tw14244738275365348069 tw17595784031327351914 tw17836442114369457067 tw11760178164521255093 tw4770399370845175281 tw13305944538727009204 tw13103444991530800531 tw12369035147572736773 tw233925275742538715 tw2482087212198663917 tw11464809473065182287 tw9532110947083006723 tw5312372468699778067 tw14433953731924668698 tw195636231100255639 tw10322389492282421779 tw1180613421106642030 tw8856203655928955846 tw11984881956360056589 tw5450352292105728515 tw3863046450567809880 tw6377796998140692386 tw1018910188206467339 tw15670721966454768029 tw10035142031929052445 tw18308267255842246944 tw9989809491677469606 tw2257838762308676901 tw5382984492751038653 tw4620211041959587216 tw9629609524960707608 tw3977772934260893097 tw11743225624184929141 tw6737932810993650350 tw14068099936112491844 tw4683586099439823874 tw7688040227846867328 tw7572085993869254773 tw7406409044032506695 tw128505958710550932 tw11288050707560785677 tw13303080984838182599 tw10764486936588542178 tw7861886976368758891 tw2142922137049868010 tw288569406183823048 tw9455866196305306669 tw7489257488626657366 tw5242535315476866894 tw1318505907245409127 tw18321065670613492446 tw952149562068936166 tw18153589765198854280 tw17052666079490195373 tw16022074554206767409 tw13302971905163107220 tw16884261201804254205 tw10402272120541824383 tw978053521702674304 tw5959566739813175976 tw11440697852238141909 tw34112948848788213 tw9293406039631295135 tw7449413921072974184 tw8546425000780069082 tw15086182137591819329 tw14590471401456551738 tw13811412929774049997 tw9691880346383274877 tw9286373721365017408 tw9277486111125294333 tw8726952588435909212 tw6073698034302939751 tw5853562020024059415 tw5350909821509075588 tw5009894505420543729 tw4821859725315193881 tw2269207673164160670 tw2255817053758765993 tw2220792298852707555 tw2053537272578704422 tw1461573275417084959 tw1075951700557941679 tw7058860468052388567 tw17732830904101172289 tw17440366499803700037 tw16031775256231883964 tw13777216244247999146 tw12954178029011469145 tw12496944339227771173 tw12454751972225111920 tw11544736785417158695 tw11228018558631948916 tw10408083352482444940 tw10025850252955409564 tw9592523041748033880 tw9404014542620312929 tw8089662423465953334 tw6917979783347077072 tw6432473033897069153 tw5860049084765780929 tw5516289570343917580 tw4821443213235584636 tw4660200037946193268 tw4540151385411053684 tw4494189940513944800 tw4326921999241023285 tw4006534510391231652 tw3223134320868555903 tw3119850935856750217 tw2801604820808357117 tw2424054304169333085 tw2203405552796584513 tw763193645187812659 tw18277279093882365141 tw18082556492256990738 tw17056670433064244546 tw16172432859993325924 tw15875275942539599327 tw14990199677245090523 tw12870020441389635663 tw11685626426340988340 tw11611595654045527547 tw10881279939904398050 tw8703000719269398917 tw8001604744071385437 tw1191364950910900080 tw16999856530668446698 tw7121260890661282127 tw125765812251448395 tw16971838446282068830 tw4555712345326334547 tw1899169874643174253 tw11157427727313636527 tw9526435479517906417 tw7801595559330374117 tw5941163209465335515 tw4051885951646215746 tw3192268245269158573 tw2444474474947135714 tw17193973915569756187 tw15289212936250769194 tw13765671144030983060 tw9990473160592258428 tw9043888003192867482 tw14012528675732598415 tw13824810969336670923 tw11249160440867532546 tw10354774785839707819 tw10465229176066900697 tw16158656245530085100 tw7086621358183831746 tw1827678216434924485 tw13771203072889764827 tw303340779924840907 tw10876339344530976110 tw9219568712247505701 tw8890865576230714518 tw7082780224118158938 tw5234620364986589712 tw2705824860499604569 tw1689492456663776510 tw1431509452892205825 tw1049004157833437542 tw9173295354049417945 tw8150605699727697313 tw18338513272897544972 tw17114986224849221586 tw16808841075455761155 tw16660918003395832211 tw15640563249581806818 tw13982636614530671040 tw13977710581835774726 tw13870231919015802879 tw11995597848103112941 tw11819486454345026640 tw2733613794812528507 tw16801962255328388437 tw15922067963287347991 tw11752484932347771017 tw5274692168797283417 tw4132214446208449621 tw3931512404369430682 tw3585545433083893042 tw3082699393149276471 tw2429158425762289706 tw1778755614476380208 tw845830664553925351 tw5768257225664381373 tw17877793558706340957 tw16110921274831732084 tw12107802231668799923 tw4878691619104120883 tw4130115211305656747:True)
open PySem PySem.W PyProof.Rows PySem.W.X
theorem _K.GQ {q : ψ} {loose : List PySem.Str} {XP : (PySem.Str → Option ζ) → cJ → Prop} {K : Params → β} {as : List η} {n t : Nat} {r : RowW} {d : DefRec} {kwd : List (PySem.Str × PySem.Expr)} {run : ζ → List ζ → Sem ζ}
    (e : ∀ P, as = (K P).map (·.1)) (h : WalkO q loose XP (InK K) r d kwd run) : WalkX q loose XP (obsZ as) (valZ K n t) r d kwd run :=
  fun w s₀ s₁ mg mb G Y a o pm cd doc dV kV h1 h2 h3 h4 h5 h6 args vals as' L => h w s₀ s₁ mg mb G (InK.keeps w _ _ (z_facts e Y).2.1 L.keeps) a o pm cd doc dV kV h1 h2 h3 h4 h5 h6 args vals as'
set_option maxRecDepth 100000 in
set_option maxHeartbeats 0 in
theorem PySem.Challenge.cw_againbook_k42_again_refused_holds : PySem.Challenge.rw_againbook_k42_again_refused.Holds := by
  w_on; o_law; z_head; (case hw => w_witness2)
  refine _K.GQ (fun _ => by rfl)$ _K.IB (l := PySem.Challenge.rw_againbook_k42_again_refused) rfl rfl (fun w h Y => Y) ?F
  case F =>
    intro w mg fa h KX G hmg
    apply _K.BL KX G hmg
    iterate 59 (apply _K.Iz;iterate 4 k_is)
    iterate 28 k_is
    iterate 2 k_exc
    iterate 2 (constructor<;>k_is)
    iterate 2 (constructor;(constructor<;>k_is);(iterate 9 kit_is);k_is)
    refine ⟨⟨?_,?_,?_,?_⟩,?_,?_,?_,?_,?_⟩;iterate 4 k_is
    iterate 5 (unfold _L.aW;k_is)
    iterate 2 (constructor;iterate 4 k_is)
    iterate 4 (constructor;iterate 3 k_is)
    refine ⟨⟨?_,?_,?_,?_⟩,?_,?_,?_,?_,?_⟩;iterate 4 k_is
    iterate 5 (unfold _L.aW;k_is)
    unfold _L.aW;k_is
    iterate 2 (constructor;iterate 4 k_is)
    iterate 6 (constructor;iterate 3 k_is)
    refine ⟨⟨?_,?_,?_,?_⟩,?_,?_⟩;iterate 4 k_is
    iterate 2 (unfold _L.aW;k_is)
    constructor;iterate 4 k_is
    iterate 4 (constructor;iterate 3 k_is)
    iterate 14 (apply _K.IR;iterate 3 k_is)
    iterate 16 k_is
    iterate 2 kit_is
