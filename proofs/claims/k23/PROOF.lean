import PyProof.Rows.All
import Wide.All
import OpenK.AllK
import Wide.FinOn
import Lean
import PyProof.EqAt
import PyProof.EqKinds
import PyProof.TupleCall
import PySem.Challenge.RW_againbook_k23_whole_run_is_plain
set_option Elab.async false
set_option linter.all false
set_option maxRecDepth 100000
set_option genSizeOf false
open Option renaming some->δ,none->ζ,map_eq_some_iff->fy,isSome_iff_exists->FA
open PySem renaming Addr->ε,Value->η,Shared->θ,wpAny->ξ,Str->π,sizeLine->υ,model->χ,Program->ψ,starEach->Θ,mainGlobals->Ψ,FuncData->bm,World->dg,Around->ef,Stmt->ey,strKind->eT,Expr->fr,Heap->fv,backTo->hY,Builtin->nz,Obj->pz,Scope->sB,codeAny->xa,holding->ym,sizeLine->Cv
open List renaming toArray->ι,mem_singleton->ρ,getElem?_eq_some_iff->τ,mem_cons->Δ,length_map->Φ,mem_append->γ,mem_map->cJ,getElem?_eq_getElem->db,length_append->fz,not_mem_nil->ge,mem_of_getElem?->hJ,append_assoc->ic,getElem?_map->ir,length_cons->kz,mem_append_right->ly,lookup->oS,mem_cons_self->rc,prefix_append->ri,range->ru,mem_cons_of_mem->rz,mem_append_left->sn,nodup_cons->tT,map_append->va,find?_cons->vr,replicate->xb,map_map->Ch,mem_iff_getElem->GE,map_congr_left->GM,map_cons->HG,cons->HM,append_nil->HQ,take_succ->HS
open Bool renaming true->μ,false->ν,eq_false_iff->xm
open Or renaming inl->ω,inr->ov
open PySem.Value renaming ref->Ξ,none->dr,type->mu,str->FC,int->FW,bool->HR
open PySem.W renaming Frag->Ω,keepIn->rs,methodObj->HB,takerIn->HK,OpenLaw->HL,fnOf->HU
open Nat renaming le_refl->β,zero_le->fx,lt_of_lt_of_eq->HJ,succ_le_succ->HP
open PySem.Builtin.SmallTypes renaming nextOf->ab,ownedTupleIsFree->da,ownedTupleHandOut->Da
open Array renaming getElem?_eq_some_iff->bU,toList->FO
open PySem.Builtin.Tuple renaming tupleExact->fJ,tupleItemsOf->HE
open PySem.Builtin.List renaming listSameRef->gb,listTooLong->lq,listExtendWith->nI,listLengthHint->xD,listSubscript?->HF,listAllItems->HI
open Prod renaming fst->ks
open PySem.Heap renaming SameBut->kw,ExtBut->HN
open PySem.Obj renaming mapFields->mT,mapSeq->rm,putSet->Fa
open PySem.F renaming plainAttrs_list->mU,slot_list_append->tf,type_list_append->ti,slot_zip_getattribute->xL,called_tuple->FU
open PySem.Builtin.Slice renaming slicePlaces->ro,sliceAdjust->BT,sliceApplied->HC
local macro_rules|`(tactic|let $d:letDecl)=>`(tactic|have $d:letDecl)
theorem pf:0≤Cv:=by decide
theorem gZ:1≤Cv:=by decide
theorem bK:2≤Cv:=by decide
theorem eA:3≤Cv:=by decide
theorem uf:4≤Cv:=by decide
set_option Elab.async false
set_option linter.all false
set_option maxRecDepth 100000
set_option maxHeartbeats 4000000
open PySem.W (keepIn Frag nsIn kitOne fnOf mg_of codeIn findIn mroIn isFn mg_none_of kia_one typeIn emptyDict clsIn instObj hasDictIn kitAny specialIn callWith_K excIn lookIn plainGet notCls tailIn)
theorem HA{p:Prop}(h:p:=by decide):p:=h
theorem Hz{p:Prop}(h:p:=by omega):p:=h
theorem Hy{p:Prop}(h:p:=by simp):p:=h
theorem Hw{p:Prop}(h:p:=by decide +kernel):p:=h
theorem Hv{p:Prop}(h:p:=by rfl):p:=h
theorem Z{α:Sort u}{a:α}:a=a:=rfl
open PySem renaming wpAny_bind->Ih,wpAny_pure->Ij,wpAny_holding->IM,wpAny_field->IS,wpAny_callSpecial?_slot->IY,wpAny_call_entry->I0,wpAny_newObj_type->I9,builtinLookup_eq_fast->J',wpAny_setField->Le,wpAny_mono->Lj,wpAny_Call_Name_kw->Lk,wpAny_seqItems->Ls,typeLookup_type->LF,codeAny_builtin->LH,boot_len->LI,mem_of_lookup->LK,isSubtype_type->LW,wpAny_setState_of->LX,wpAny_specialOf->LY,wpAny_typeOf->Mb,wpAny_rule->Mg,wpAny_standAt->Mm,plainId_quiet->Mn,wpAny_isInstance->Mr,wpAny_setField_rec->Mv,wpAny_passesOwn->My,wpAny_askSetting->MK,codeAny_mono->ML,wpAny_setEntries_of->MP,wpAny_attempt->MT,wpAny_execs_nil->MU,wpAny_truthy_bool->MY,wpAny_bindName->Ni,tupleKind_room_in1->Nj,wpAny_pyIter_list->Nw,sizeLine_eq->Nx,fits_of_scanBound->Ny,entryFor_of_tree->NK,wpAny_updateSeq->NP,codeAny_handlers_test->NV,wpAny_of_eq->NY,wpAny_loadPart->NZ,wpAny_fieldsOf->N0,isSubtype_stop->N5,entryFor_alias->N6,wpAny_handleBy_cons->Ob,call_meets->Oj,wpAny_sequenceKey->Ot,wpAny_pyIter_slot->Ou,wpAny_execs_cons->OG,noFill_tuple_add->OH,codeAny_of_tree->O0,wpAny_runValue->O8,wpAny_newTuple->O9,wpAny_listPart->Pa,wpAny_call->Pb,wpAny_onRaise->Pm,wpAny_comprehension_free->Pn,seq_tuple_add->Po,wpAny_unpackItems_tuple->Pr,wpAny_pyNext_list_item->PJ,seqIndex_neg->PM,concat_meets->PR,wpAny_pyNext_list_end->P5,wpAny_isTrue_Compare1->P6,wpAny_updateSeq_pair->Rh,wpAny_loadName_local->Ri,wpAny_letGo->Rj,seqIndex_of->Rk,codeAny_extend_loopS->Rl,wpAny_loadName_cell->Rt,wpAny_Tuple_spliced->Ru,wpAny_pyIter_tuple->RG,wpAny_load->RI,wpAny_Name->RJ,wpAny_storeSet_of->RP,wpAny_assign_Name->RQ,wpAny_Assign_Name->RS,slot_list_setitem->RT,merged_length_le->RZ,exec_Assign_arm->Sm,callType_codes->SR
open List renaming getElem?_eq_getElem->Ii,length_map->Ik,length_append->Io,size_toArray->Ip,getElem?_map->Iv,mem_of_getElem?->IA,mem_cons_self->ID,not_mem_nil->IF,mem_append_right->IG,mem_cons_of_mem->IK,length_cons->IL,map_append->IN,length_take->IU,map_cons->La,find?_cons->Lb,mem_of_mem_take->Lg,take_length->Ln,lookup_cons->Lo,getElem?_eq_none->Lr,mem_append_left->Lw,take_of_length_le->Lx,append_assoc->LA,mem_cons->LJ,map_map->LM,getElem?_append_right->LN,take_succ->LS,forIn_cons->LV,length_drop->L9,getElem?_append_left->Mf,take_sublist->Mi,take_add_one->Mj,getElem?_set_ne->Ml,prefix_append->Mq,length_singleton->Mt,getElem?_reverse->Mu,getD_eq_getElem?_getD->Mz,forIn_nil->MD,getElem_mem->ME,mem_append->MM,getElem?_set_self->MW,length_nil->M0,append_nil->M1,length_reverse->M3,reverse_cons->Nb,map_take->Nf,append_cancel_right->Ng,any_cons->Nh,of_mem_zip->NB,nodup_cons->NC,length_set->ND,length_replicate->NH,length_filter_le->NJ,nodup_nil->NN,map_congr_left->NR,filterMap_cons->NT,mem_singleton->NW,length_range->Oa,eraseIdx_eq_take_drop_succ->Oe,map_reverse->Oh,length_zip->Oo,length_eraseIdx_of_lt->OB,mem_of_find?_eq_some->OL,getElem?_zip_eq_some->OM,drop_eq_getElem_cons->ON,all_cons->OY,getElem?_replicate->O1,append_cancel_left->O2,map_nil->O4,getElem_cons_drop->O5,take_append_drop->Pe,mem_of_mem_drop->Pl,map_inj_right->Pw,forIn_toArray->Px,filter_append->Py,getElem?_inj->PU,any_eq_false->PV,zipIdx_cons->P9,drop_length->P',append_inj'->Ra,any_eq_true->Rb,all_eq_true->Rc,zipIdx_nil->Rp,prefix_rfl->Rq,mem_filter->Rr,take_take->RA,drop_zero->RB,zip_map'->RM,map_drop->RN,le_trans->RO,map_set->RW
open PySem.Heap renaming get?_push_of_some->Il,lt_size->Iq,get?_push_size->Ir,get?_update_other->IJ,get?_update_self->IX,size_push->Lc
open Nat renaming le_refl->Im,zero_le->Is,ne_of_lt->Iz,le_trans->IB,lt_of_lt_of_le->IE,ne_of_gt->Lh,succ_le_succ->Lp,lt_irrefl->Lq,lt_succ_self->LO,lt_of_le_of_lt->LP,le_succ->LU,le_add_right->Mo,lt_succ_of_lt->Mx,le_of_lt->MF,not_lt_zero->MN,min_eq_left->MO,zero_add->M5,sub_self->M6,le_of_not_lt->Nt,lt_or_ge->NA,lt_of_lt_of_eq->N7,sub_zero->Oc,le_of_eq->Od,min_le_left->Ov,add_sub_cancel'->Pt,add_le_add_left->Pu,lt_of_succ_lt->P8,le_max_right->Rm,le_max_left->Rx,le_add_left->Ry,max_assoc->RU,lt_trans->Sl,mod_lt->SW
open Bool renaming false_ne_true->Iu,false_eq_true->Ix,and_eq_true->Ly,not_true->MJ,eq_iff_iff->NE,and_false->OF,or_false->OZ,not_eq_true'->PZ,false_and->RF,true_or->RY
open PySem.F renaming plainAttrs_list->IH,type_list_append->IQ,slot_list_append->IR,slot_zip_next->Lz,slot_tuple_iterator_next->Md,plain_list_iadd->MG,args_zip_next_1->MH,plainAttrs_str->MQ,entry_zip_next->MS,type_list_extend->M8,slot_list_extend->M9,args_tuple_add_2->M',entry_tuple_add->Na,slot_tuple_add->Nl,type_str_join->No,slot_str_join->Np,slot_dict_get->Nq,args_tuple_iterator_next_1->NO,entry_tuple_iterator_next->NQ,plain_proto_collect->Of,entry_proto_collect->Og,args_object_init_2->Om,plain_extend_loop->On,plain_tuple_new->Oy,entry_list_iadd->Oz,args_dict_get_3->OA,entry_dict_get->OK,slot_set_iter->OV,plain_set_new->OX,args_list_extend_2->PY,entry_list_extend->Rg,slot_list_extend->Rs
open Array renaming length_toList->IP,getElem?_toList->Ma,getElem?_eq_getElem->Me,getElem?_eq_none->Nv,size_append->N8,toList_push->PH
open PySem.Obj renaming data_mapFields->IV,isFreed_of_fields->Lu,cls_mapFields->MX
open PySem.PassesOwn renaming never->IZ
open Int renaming emod_lt_of_pos->I8,emod_nonneg->Lm,toNat_natCast->Lv,eq_ofNat_of_zero_le->O6,toNat_of_nonneg->Pz,ediv_nonneg->RD
open Option.some renaming inj->K'
open PySem.Around renaming under_plainId->Ld
open PyProof.Rows renaming callWith_type1->Li,boot_tuple->LZ,slot_tuple_getitem->Mc,boot_int->Nk,boot_sorted->OR,boot_reversed->Pp,subscriptTail_builtinR->PL,Subscript_->RL,tupleItemsOf_->SH,iadd_int->SI,entry_tuple_getitem->SJ,callWith_builtin1->SK,boot_zip->SM,boot_dict->SN,args_tuple_getitem->SO,slicePart_none->SQ,boot_set->SU
open PySem.Calls renaming spliced_cons->LB,spliced_nil->Mh,callWith_builtin->Nu,Name_function_global->Ox,evalArgs_plain->Pf
open PySem.Heap.SameBut renaming update->LQ,refl->OP
open PyProof.Rows.F renaming plain_set_update_loop->Ms,entry_set_update_loop->Nc
open PySem.W renaming mg_none_of->Mw,methodCall_KW->Nn,plainGet_of->NM,looks_mroIn->N4,callWith_K->Ol,cellsFrom_some->OJ,mg_of->OQ,callWith_K0->O3,looks_typeIn->PQ
open PySem.Value renaming isStrOf_shape->MZ
open Sum.inr renaming inj->M7
open Option renaming map_some->Nr,getD_none->N9,toList_some->Ph,isNone_some->Pj,isNone_none->Pk,isSome_map->Pq
open PySem.W.KFB renaming if_not->Nz,if_so->SV
open PySem.SeqAt.EqAt renaming same->Oi,str_int->OS,int_str->OT,int_int->OU,str_str->RX
open PySem.Heap.IsSliceOf renaming new->Op
open PySem.AutoSeq1 renaming wpAny_loadPart'->Oq
open Classical renaming choose_spec->OE
open PySem.Heap.DictOf renaming new->O7
open PySem.IsL renaming isList->Pd
open PyProof.Rows.IsTup renaming new->PX
open PySem.W.Looks renaming ld->Ro,of_pure->Rz,here->R0
open PySem.SeqAt.RcAt renaming lists->Rv
open PySem.ItemsOf renaming nil->RC
open PySem.Meets renaming of_wp->RV
open PySem.EqMixed renaming ne_str_int->R9,ne_str_bool->Sa,ne_int_str->Sb,ne_bool_str->Sc,eq_str_int->Se,eq_str_bool->Sf,eq_int_str->Si,eq_bool_str->Sj
open PySem.Within renaming cons->Sn
open PySem.EqNone renaming ne_str_none->So,ne_none_str->Sq,ne_none_none->Sr,ne_none_int->Ss,ne_none_bool->Su,ne_int_none->Sv,ne_bool_none->Sw,eq_str_none->Sy,eq_none_str->Sz,eq_none_none->SA,eq_none_int->SD,eq_none_bool->SE,eq_int_none->SF,eq_bool_none->SG
def Iw:=@if_pos
def Iy:=@if_neg
def IC:=@Ne.symm
def II:=@decide_eq_false
def IW:=@decide_eq_true
def Ll:=@of_decide_eq_true
def LC:=@if_false
def LD:=@congrArg
def Mp:=@bne_self_eq_false
def MV:=@beq_self_eq_true
def M4:=@if_true
def NF:=@or_false
def NG:=@of_decide_eq_false
def OD:=@Iff.rfl
def RE:=@PySem.Heap.IsTupleIter.at
def SX:=@PySem.Heap.IsList.at
local macro_rules|`(#[$x,*])=>`(⟨$x,*⟩)
local macro_rules|`(tactic|omega)=>`(tactic|lia)
namespace _L
open PySem PySem.Spec PyProof.Rows
abbrev bq:=Sum Int π
def iP:bq->η->Bool
 | .inl k,v=>Value.isInt k v
 | .inr x,v=>Value.isStrOf x v
def FP(w:dg):bq->Int
 | .inl k=>hashInt k
 | .inr x=>hashStr w x
theorem jY:∀{k:bq} {v:η},iP k v=μ->(∃i t,k=Sum.inl i/\v=FW i t)∨(∃x t,k=Sum.inr x/\v=FC x t)
 | .inl i,v,h=>by obtain⟨t,e⟩:=Value.isInt_shape (k:=i) (v:=v) h;exact .inl #[i,t,Z,e]
 | .inr x,v,h=>by obtain⟨t,e⟩:=MZ (x:=x) (v:=v) h;exact .inr #[x,t,Z,e]
theorem Zt(i:Int)(t:Tok):iP (.inl i) (.int i t)=μ:=by simp [iP,Value.isInt]
theorem Zu(x:π)(t:Tok):iP (.inr x) (.str x t)=μ:=by simp [iP,Value.isStrOf]
theorem AV(a b:Int):decide ((Sum.inl a:bq)=Sum.inl b)=(a==b):=by
 by_cases e:a=b
 .subst e;simp
 .let h:¬(Sum.inl a:bq)=Sum.inl b:=λq=>e (Sum.inl.inj q);rw[II h];exact(beq_eq_false_iff_ne.mpr e).symm
theorem AY(a b:π):decide ((Sum.inr a:bq)=Sum.inr b)=decide (a=b):=by
 by_cases e:a=b
 .subst e;simp
 .let h:¬(Sum.inr a:bq)=Sum.inr b:=λq=>e (M7 q);rw[II h,II e]
theorem AW(a:Int)(b:π):decide ((Sum.inl a:bq)=Sum.inr b)=ν:=II (λq=>nomatch q)
theorem AX(a:π)(b:Int):decide ((Sum.inr a:bq)=Sum.inl b)=ν:=II (λq=>nomatch q)
def aO(p:ψ)(w:dg):PySem.KeyKind p w bq where
 is:=iP
 hash:=FP w
 inj:=λv a b d c=>by
  rcases jY d with ⟨i,t,rfl,rfl⟩ | ⟨x,t,rfl,rfl⟩
  .rcases jY c with ⟨j,u,rfl,e⟩ | ⟨y,u,rfl,e⟩
   .injection e with E _;rw[E]
   .exact nomatch e
  .rcases jY c with ⟨j,u,rfl,e⟩ | ⟨y,u,rfl,e⟩
   .exact nomatch e
   .injection e with E _;rw[E]
 byValue:=λk v h=>by rcases jY h with ⟨i,t,rfl,rfl⟩ | ⟨x,t,rfl,rfl⟩<;>rfl
 pyHash:=λH h=>by
  rcases jY H with ⟨i,t,rfl,rfl⟩ | ⟨x,t,rfl,rfl⟩
  .exact wpAny_pyHash_int h
  .exact wpAny_pyHash_str h
 eqBool:=λf H h=>by
  rcases jY f with ⟨i,t,rfl,rfl⟩ | ⟨x,t,rfl,rfl⟩
  .rcases jY H with ⟨j,u,rfl,rfl⟩ | ⟨y,u,rfl,rfl⟩
   .rw[AV]at h;exact wpAny_eqBool_int h
   .rw[AW]at h;exact OT i t y u _ _ _ _ h
  .rcases jY H with ⟨j,u,rfl,rfl⟩ | ⟨y,u,rfl,rfl⟩
   .rw[AX]at h;exact OS x t j u _ _ _ _ h
   .rw[AY]at h;exact wpAny_eqBool_str h
 «strs»:=λk x t v h=>by
  rcases jY h with ⟨i,u,rfl,e⟩ | ⟨y,u,rfl,e⟩
  .exact nomatch e
  .injection e with E _;subst E;cases v<;>rfl
theorem XT(p:ψ)(w:dg)(i:Int)(t:Tok):(aO p w).is (.inl i) (.int i t)=μ:=Zt i t
theorem XU(p:ψ)(w:dg)(x:π)(t:Tok):(aO p w).is (.inr x) (.str x t)=μ:=Zu x t
end _L
namespace _L
open PySem PySem.Spec PyProof.Rows
inductive V where
 |non |bl (b:Bool) |int (i:Int) |str (x:π) |byt (b:Array UInt8) |flt (b:UInt64) |ref (a:ε) |ty (n:String)
 deriving DecidableEq
set_option genInjectivity false
def aB:V->η->Prop
 | .non,u=>u=dr
 | .bl b,u=>u=HR b
 | .int i,u=>∃t,u=FW i t
 | .str x,u=>∃t,u=FC x t
 | .byt b,u=>∃t,u=Value.bytes b t
 | .flt b,u=>∃t,u=Value.float b t
 | .ref a,u=>u=Ξ a
 | .ty n,u=>u=mu n
abbrev aw:List V->List η->Prop:=Paired aB
theorem aw.length(r:aw x u):x.length=u.length:=Paired.length r
theorem aw.get:∀{X:List V} {U:List η} {i:Nat} {x:V},aw X U->X[i]?=δ x->∃u,U[i]?=δ u/\aB x u
 |_,_,_,_,.nil,e=>by simp at e
 |_,_,0,_,.cons r _,e=>by simp at e;subst e;exact#[_,Z,r]
 |_,_,i+1,x,.cons _ t,e=>by obtain⟨u,h,H⟩:=aw.get (i:=i) (x:=x) t (by simpa using e);exact#[u,by simpa using h,H]
theorem aw.set(r:aB x u):∀{X:List V} {U:List η} (i:Nat),aw X U->aw (X.set i x) (U.set i u)
 |_,_,_,.nil=>.nil
 |_,_,0,.cons _ t=>.cons r t
 |_,_,i+1,.cons q t=>.cons q (aw.set r i t)
theorem aw.append:∀{x y:List V} {u w:List η},aw x u->aw y w->aw (x++y) (u++w)
 |_,_,_,_,.nil,s=>s
 |_,_,_,_,.cons r t,s=>.cons r (aw.append t s)
theorem aw.take:∀{x:List V} {u:List η} (n:Nat),aw x u->aw (x.take n) (u.take n)
 |_,_,0,_=>.nil
 |_,_,_+1,.nil=>.nil
 |_,_,n+1,.cons r t=>.cons r (aw.take n t)
theorem aw.drop:∀{x:List V} {u:List η} (n:Nat),aw x u->aw (x.drop n) (u.drop n)
 |_,_,0,r=>r
 |_,_,_+1,.nil=>.nil
 |_,_,n+1,.cons _ t=>aw.drop n t
def dR:Option V->Option η->Prop
 |some v,δ u=>aB v u
 |none,ζ=>True
 |_,_=>False
def KV{a:Type}:List (a×V)->List (a×η)->Prop:=Paired λ(p:a×V) (q:a×η)=>p.1=q.1/\aB p.2 q.2
def kV:bq->V
 | .inl i=>.int i
 | .inr x=>.str x
inductive HO where
 |lst (xs:List V)
 |tup (xs:List V)
 |dK (kvs:List (bq×V)) |dT (kvs:List (List bq×V))
 |set (S:Int->Bool) (n:Nat)
 |ins (C dx:ε) (fs:List (π×V))
 |own (x:ε)
 |xd (fs:List (π×V))
 |met (f x:ε)
 |rng (lo hi:Int)
 |frz (o:pz) (u:HO)
 |tbl (ps:Array η)
 |ext (φ:fv->Prop)
abbrev Hp:=ε->Option HO
def aj(H:Hp)(a:ε)(o:HO):Hp:=λb=>if b=a then δ o else H b
theorem jc{H:Hp}{a:ε}{o:HO}:aj H a o a=δ o:=by unfold aj;rw[Iw Z]
theorem ji(h:b≠a):aj H a o b=H b:=by unfold aj;rw[Iy h]
theorem jE{H:Hp}(h:H a=δ o)(c:H b=δ u)(d:o≠u):a≠b:=by intro e;subst e;rw[h]at c;exact d (K' c)
theorem jk{H:Hp}(h:H a=δ o)(c:H b=ζ):a≠b:=by intro e;subst e;rw[h]at c;cases c
section
variable (P:ψ)(w:dg)
def aS(H:Hp)(h:fv)(a:ε):HO->Prop
 | .lst X=>X.length<=υ/\∃(i:List η) (n:Nat),aw X i/\h.get? a=δ { cls:=.type "list",data:=.seq i.toArray n }
 | .tup X=>X.length<=υ/\∃i:List η,aw X i/\IsTup h a i.toArray
 | .dK k=>k.length<=υ/\(a==sysModules)=ν/\∃c,KV k c/\h.DictOf (aO P w) a c
 | .dT k=>k.length<=υ/\(a==sysModules)=ν/\∃X:List (List bq×ε×η),
   Paired (λ(p:List bq×V) (q:List bq×ε×η)=>p.1=q.1/\H q.2.1=δ (.tup$ p.1.map kV)/\aB p.2 q.2.2) k X/\
   ∃o e E,h.get? a=δ o/\o.ExactDict/\o.data= .dict e E/\e.toList=X.map (entryOfKey$ tupleKind$ aO P w)/\(X.map (·.1)).Nodup
 | .set S n=>h.SetOf (intKind P w) a S n
 | .ins C d F=>H d=δ (.own a)/\F.length<=1000/\d≠a/\h.get? a=δ (instObj C d)/\
   ∃m,h.Ns1 d m/\(∀f,dR (F.lookup f)$ m f)/\PySem.Within m (F.map (·.1))
 | .own _=>∃o,h.get? a=δ o
 | .xd F=>∃m,h.Ns1 a m/\∀f,dR (F.lookup f) (m f)
 | .rng lo l=>∃t u v,h.get? a=δ { cls:=.type "range",data:=.fields (ι [.int lo t,.int l u,.int 1 v]) }
 | .frz o u=>h.get? a=δ o/\aS H h a u
 | .tbl r=>h.get? a=δ { cls:=.none,data:=.fields r }
 | .met f x=>h.get? a=δ (HB (.ref f) (.ref x))
 | .ext b=>b h/\(∃o,h.get? a=δ o)/\∀g j:fv,b g->(∀o,g.get? a=δ o->j.get? a=δ o)->b j
def eK(H:Hp)(h:fv):Prop:=∀a o,H a=δ o->aS P w H h a o
end
section
variable {P:ψ}{w:dg}{H H':Hp}{h h':fv}{a:ε}{o:HO}
theorem aS.lt(x:aS P w H h a o):a < h.objs.size:=by
 cases o with
 |lst X=>obtain⟨_,_,_,_,e⟩:=x;exact Iq e
 |tup X=>obtain⟨_,_,_,p⟩:=x;exact p.lt
 |dK k=>obtain⟨_,_,_,_,o,_,_,e,_⟩:=x;exact Iq e
 |dT k=>obtain⟨_,_,_,_,o,_,_,e,_⟩:=x;exact Iq e
 |set S n=>obtain⟨o,_,_,_,e,_⟩:=x;exact Iq e
 |ins C d F=>obtain⟨_,_,_,e,_⟩:=x;exact Iq e
 |own y=>obtain⟨_,e⟩:=x;exact Iq e
 |xd F=>obtain⟨_,⟨_,_,_,e,_⟩,_⟩:=x;exact Iq e
 |rng lo b=>obtain⟨_,_,_,e⟩:=x;exact Iq e
 |frz O u=>obtain⟨e,_⟩:=x;exact Iq e
 |tbl c=>exact Iq (show h.get? a=δ _ from x)
 |met f y=>exact Iq (show h.get? a=δ _ from x)
 |ext g=>obtain⟨_,⟨_,e⟩,_⟩:=x;exact Iq e
theorem Paired.mapP{c d:Type}{F G:c->d->Prop}:∀{l:List c} {L:List d},Paired F l L->(∀a b,F a b->G a b)->Paired G l L
 |_,_,.nil,_=>.nil
 |_,_,.cons r t,f=>.cons (f _ _ r) (Paired.mapP t f)
theorem aS.stay(x:aS P w H h a o)(k:∀b u,(b=a∨H b=δ (.own a))->h.get? b=δ u->h'.get? b=δ u)
  (s:∀b,H b=δ (.own a)->H' b=δ (.own a)) (A:∀b X,H b=δ (.tup X)->H' b=δ (.tup X)):aS P w H' h' a o:=by
 induction o with
 |lst X=>obtain⟨z,i,n,r,e⟩:=x;exact#[z,i,n,r,k _ _ (.inl Z) e]
 |tup X=>obtain⟨z,i,r,O,e,c⟩:=x;exact#[z,i,r,O,k _ _ (.inl Z) e,c]
 |dK K=>obtain⟨z,y,V,r,O,E,g,e,c⟩:=x;exact#[z,y,V,r,O,E,g,k _ _ (.inl Z) e,c]
 |dT K=>obtain⟨z,y,X,r,O,E,g,e,c⟩:=x;exact#[z,y,X,Paired.mapP r λp q z=>#[z.1,A _ _ z.2.1,z.2.2],O,E,g,k _ _ (.inl Z) e,c]
 |set S n=>obtain⟨O,E,g,t,e,c⟩:=x;exact#[O,E,g,t,k _ _ (.inl Z) e,c]
 |ins C D F=>obtain⟨d,z,N,e,m,⟨j,E,g,B,c⟩,r⟩:=x;exact#[s _ d,z,N,k _ _ (.inl Z) e,m,#[j,E,g,k _ _ (.inr d) B,c],r]
 |own y=>obtain⟨O,e⟩:=x;exact#[O,k _ _ (.inl Z) e]
 |xd F=>obtain⟨m,⟨j,E,g,e,c⟩,r⟩:=x;exact#[m,#[j,E,g,k _ _ (.inl Z) e,c],r]
 |rng lo G=>obtain⟨t,u,v,e⟩:=x;exact#[t,u,v,k _ _ (.inl Z) e]
 |frz O u I=>obtain⟨e,q⟩:=x;exact#[k _ _ (.inl Z) e,I q]
 |tbl l=>have e:h.get? a=δ { cls:=.none,data:=.fields l }:=x;show h'.get? a=δ { cls:=.none,data:=.fields l };exact k a _ (.inl Z) e
 |met f y=>have e:h.get? a=δ (HB (.ref f)$ .ref y):=x;show h'.get? a=δ (HB (.ref f)$ .ref y);exact k a _ (.inl Z) e
 |ext J=>obtain⟨p,⟨o,e⟩,st⟩:=x;exact#[st _ _ p λo q=>k _ _ (.inl Z) q,#[o,k _ _ (.inl Z) e],st]
theorem eK.lt(x:eK P w H h)(e:H a=δ o):a < h.objs.size:=(x a o e).lt
theorem eK.fresh(x:eK P w H h)(e:h.objs.size<=a):H a=ζ:=by
 cases q:H a with
 |none=>rfl
 |some u=>exact absurd (IE (x.lt q) e) (Lq _)
theorem eK.kept(x:eK P w H h)(k:∀b u,h.get? b=δ u->h'.get? b=δ u):eK P w H h':=λa o e=>
 (x a o e).stay (λb u _ q=>k b u q) (λ_ q=>q) λ_ _ q=>q
theorem eK.laid(x:eK P w H h)(k:∀b u,h.get? b=δ u->h'.get? b=δ u)(g:h.objs.size<=a)(n:aS P w (aj H a o) h' a o):eK P w (aj H a o) h':=λb u e=>by
 let d:=x.fresh g;by_cases f:b=a
 .subst f;rw[jc]at e;cases e;exact n
 .rw[ji f]at e;exact(x b u e).stay (λc v _ q=>k c v q) (λc q=>by rw[ji$ jk q d];exact q) λc X q=>by rw[ji$ jk q d];exact q
end
def Rd(H:Hp)(a:ε)(u:HO):Prop:=H a=δ u∨∃o,H a=δ (.frz o u)
theorem Rd.ok{P:ψ}(r:Rd H a u)(x:eK P w H h):aS P w H h a u:=by
 rcases r with r | ⟨o,r⟩
 .exact x a u r
 .obtain⟨_,q⟩:=x a _ r;exact q
def C2:Option HO->Prop
 |some (.lst _)=>True
 |some (.dK _)=>True
 |some (.dT _)=>True
 |some (.set _ _)=>True
 |some (.ins _ _ _)=>True
 |some (.ext _)=>True
 |_=>False
section
variable {P:ψ}{w:dg}{H:Hp}{h h':fv}{x e:ε}{o':HO}
theorem eK.write(o:eK P w H h)(m:C2 (H x))(i:e=x∨H e=δ (.own x))(k:∀b u,b≠e->h.get? b=δ u->h'.get? b=δ u)(f:∃u,h'.get? e=δ u)
  (g:aS P w (aj H x o') h' x o'):eK P w (aj H x o') h':=λb u q=>by
 let n:∀c y,H c=δ (.own y)->c≠x:=λc y r z=>by subst z;rw[r]at m;exact m
 let N:∀c X,H c=δ (.tup X)->c≠x:=λc X r z=>by subst z;rw[r]at m;exact m
 by_cases d:b=x
 .subst d;rw[jc]at q;cases q;exact g
 .rw[ji d]at q;by_cases a:b=e
  .let Q:H b=δ (.own x):=by
    rcases i with z |z
    .exact absurd (a.trans z) d
    .rw[a];exact z
   rw[q]at Q;cases Q;obtain⟨v,j⟩:=f;exact#[v,by rw[a];exact j]
  .refine(o b u q).stay (λc v hc r=>k c v ?_ r) (λc r=>by rw[ji$ n c b r];exact r) λc X r=>by rw[ji$ N c X r];exact r
   rcases hc with rfl |hc
   .exact a
   .rintro rfl;rcases i with z |z
    .exact n c b hc z
    .rw[hc]at z;cases z;exact d Z
end
structure Un(fs ex:List ε)(H H':Hp)(h h':fv):Prop where
 keep:∀b o,h.get? b=δ o->H b=ζ->b∉fs->b∉ex->h'.get? b=δ o
 slot:∀b o,h.get? b=δ o->H b=ζ->b∈fs->b∉ex->∃sl,h'.get? b=δ { o with slots:=sl }
 free:∀b o,h.get? b=δ o->H b=ζ->b∉ex->H' b=ζ
 there:∀b o,h.get? b=δ o->b∉ex->∃o',h'.get? b=δ o'
 tups:∀b xs,H b=δ (.tup xs)->H' b=δ (.tup xs)
 frzs:∀b o u,H b=δ (.frz o u)->H' b=δ (.frz o u)
 tbls:∀b ps,H b=δ (.tbl ps)->∃more,H' b=δ (.tbl$ ps++more)
section
variable {fs fs' ex ex':List ε}{H H1 H2:Hp}{h h1 h2 h':fv}{a x e:ε}{o:HO}
theorem Un.any(u:Un fs ex H H1 h h1)(q:h.get? b=δ O)(n:H b=ζ)(c:b∉ex):∃s,h1.get? b=δ { O with slots:=s }:=by
 by_cases d:b∈fs
 .exact u.slot b O q n d c
 .exact#[O.slots,u.keep b O q n d c]
theorem Un.kept(k:∀b u,h.get? b=δ u->h'.get? b=δ u):Un fs ex H H h h':=
 #[λb O q _ _ _=>k b O q,λb O q _ _ _=>#[O.slots,k b O q],λ_ _ _ n _=>n,λb O q _=>#[O,k b O q],λ_ _ q=>q,λ_ _ _ q=>q,λ_ p q=>#[(ι []),by rw[q];simp]]
theorem Un.refl:Un fs ex H H h h:=Un.kept λ_ _ q=>q
theorem Un.laid(k:∀b u,h.get? b=δ u->h'.get? b=δ u)(d:h.objs.size<=a)(c:H a=ζ):Un fs ex H (aj H a o) h h' where
 keep:=λb u q _ _ _=>k b u q
 slot:=λb u q _ _ _=>#[u.slots,k b u q]
 free:=λb u q n _=>by rw[ji$ Iz$ IE (Iq q) d];exact n
 there:=λb u q _=>#[u,k b u q]
 tups:=λb X q=>by rw[ji$ jk q c];exact q
 frzs:=λb u X q=>by rw[ji$ jk q c];exact q
 tbls:=λb p q=>#[(ι []),by rw[ji$ jk q c,q];simp]
theorem Un.write(m:C2 (H x))(j:e=x∨H e=δ (.own x))(k:∀b u,b≠e->h.get? b=δ u->h'.get? b=δ u)(d:∃u,h'.get? e=δ u):Un fs ex H (aj H x o) h h':=by
 let g:∀b,H b=ζ->b≠x:=λb n z=>by subst z;rw[n]at m;exact m
 let i:∀b,H b=ζ->b≠e:=λb n z=>by
  subst z;rcases j with r |r
  .exact g b n r
  .rw[n]at r;cases r
 let f:∀b u,H b=δ u->¬C2 (δ u)->b≠x:=λb u q N z=>by subst z;rw[q]at m;exact N m
 refine#[λb u q n _ _=>k b u (i b n) q,λb u q n _ _=>#[u.slots,k b u (i b n) q],λb u q n _=>by rw[ji$ g b n];exact n,λb u q _=>?_,
  λb X q=>by rw[ji$ f b _ q λz=>z];exact q,λb u X q=>by rw[ji$ f b _ q λz=>z];exact q,λb p q=>#[(ι []),by rw[ji$ f b _ q λz=>z,q];simp]]
 by_cases c:b=e
 .subst c;exact d
 .exact#[u,k b u c q]
end
def Ff(h:fv)(H:Hp):List ε:=(ru h.objs.size).filter λa=>(H a).isSome
def iW(h:fv)(H:Hp):fv:=PySem.W.hideAll h (Ff h H)
theorem Zv(h:fv)(H:Hp):(iW h H).objs.size=h.objs.size:=PySem.W.hideAll_size _ _
theorem rn{h:fv}{H:Hp}(e:h.get? b=δ o)(n:H b=ζ):(iW h H).get? b=δ o:=
 PySem.W.hideAll_get _ e λa=>by let q:(H b).isSome=μ:=(List.mem_filter.mp a).2;rw[n]at q;simp at q
theorem vU(e:(iW h H).get? b=δ o):h.get? b=δ o/\H b=ζ:=by
 let E:h.get? b=δ o:=PySem.W.of_hideAll (Ff h H) e;refine#[E,?_];cases q:H b with
 |none=>rfl
 |some x=>have a:b∈Ff h H:=List.mem_filter.mpr #[List.mem_range.mpr$ Iq E,by simp [q]];let z:(iW h H).get? b=ζ:=PySem.W.hideAll_none (Ff h H) a;rw[z]at e;cases e
end _L
open _L.V renaming str->HV,int->HW,ref->HX
namespace _L
open PySem PySem.Spec PyProof.Rows
structure Mod(K:Ω)(mg:π->Option η)(base:fv):Prop where
 kin:K.In base
 glob:base.Ns Ψ mg
 blt:∃mb,base.Ns builtinsNs mb/\∀x:π,x≠"__name__"->mb x=bootBuiltins x
 nolimit:base.NoLimit
structure Cx where
 prog:ψ
 w:dg
 K:Ω
 mg:π->Option η
 base:fv
 A:ef
 N:List π
 s₀:θ
 H₀:Hp
 env:Env
 outer:List Env
 stack:List Env
 ex:List ε
 fn:π->Bool
 calm:Bool
 pn:List (ε×pz)
 xe:η->θ->Prop
def hV(l:List Env):List ε:=l.filterMap (·.frame)
abbrev Cx.fs(X:Cx):List ε:=hV X.outer
def EX(s:sB)(x:π):Prop:=s.names.lookup x=δ .local∨s.names.lookup x=δ .cell∨s.names.lookup x=δ .free
def oC(s:sB)(x:π):Prop:=s.names.lookup x=δ .local∨s.names.lookup x=δ .cell
def Fn(e:Env)(h:fv)(m:π->Option η)(x:π)(u:η):Prop:=
 (e.kindOf x=δ .local/\m x=δ u)∨((e.kindOf x=δ .cell∨e.kindOf x=δ .free)/\∃c,e.cells.lookup x=δ c/\h.IsCell c (δ u))
structure Cx.Ok(X:Cx):Prop where
 mod:Mod X.K X.mg X.base
 kind:X.env.scope.kind= .function
 glob:X.env.globals=Ψ
 blt:X.env.builtins=builtinsNs
 above:X.s₀.heap.objs.size<=X.env.locals
 inj:∀x y c,X.env.cells.lookup x=δ c->X.env.cells.lookup y=δ c->x=y
 has:∀x,(X.env.kindOf x=δ .cell∨X.env.kindOf x=δ .free)->∃c,X.env.cells.lookup x=δ c
 cab:∀x c,X.fn x=μ->X.env.cells.lookup x=δ c->X.s₀.heap.objs.size<=c
 hd:X.calm=μ->X.A.handled=ζ
 frames:X.A.frames=δ X.stack
 stk:X.stack=X.outer∨(X.stack=X.env::X.outer/\X.env.frame=δ X.env.locals)
 exf:∀b∈X.ex,b≠X.env.locals/\∀x c,X.env.cells.lookup x=δ c->c≠b
 bs:∀b o,X.base.get? b=δ o->X.s₀.heap.get? b=δ o/\X.H₀ b=ζ
 bsz:X.base.objs.size<=X.s₀.heap.objs.size
 noex:∀b o,X.base.get? b=δ o->b∉X.ex
 exfs:∀b∈X.ex,b∉X.fs
 funs:X.s₀.heap.FunFrames X.base X.outer
 frf:∀b∈X.fs,X.H₀ b=ζ
structure aq(X:Cx)(pins:List (ε×pz))(σ:List (Option V))(H:Hp)(s:θ):Prop where
 ok:X.Ok
 os:s.os=X.s₀.os
 bare:AllBare s.gens
 base:Un X.fs X.ex X.H₀ H X.s₀.heap s.heap
 loc:∃m,s.heap.Ns X.env.locals m/\∀(i:Nat) (x:π) (v:V),X.N[i]?=δ x->σ[i]?=δ (δ v)->EX X.env.scope x->∃u,aB v u/\Fn X.env s.heap m x u
 cell:∀x c,X.env.cells.lookup x=δ c->∃v,s.heap.IsCell c v
 free:H X.env.locals=ζ
 freeC:∀x c,X.env.cells.lookup x=δ c->H c=ζ
 pin:∀p∈X.pn++pins,s.heap.get? p.1=δ p.2/\H p.1=ζ/\p.1≠X.env.locals/\p.1∉X.fs/\∀v,p.2.data≠ .cell v
 hok:eK X.prog X.w H s.heap
 len:σ.length=X.N.length
section
variable {X:Cx}{pins:List (ε×pz)}{σ:List (Option V)}{H H':Hp}{s:θ}{h':fv}
theorem Cx.Ok.nofr(O:X.Ok)(e:X.base.get? b=δ o):b∉X.fs:=λh=>by let:=(O.funs.mem h).1;rw[e]at this;cases this
theorem aq.bs(I:aq X pins σ H s):∀b o,X.base.get? b=δ o->s.heap.get? b=δ o/\H b=ζ:=λb o e=>
 #[I.base.keep b o (I.ok.bs b o e).1 (I.ok.bs b o e).2 (I.ok.nofr e)$ I.ok.noex b o e,I.base.free b o (I.ok.bs b o e).1 (I.ok.bs b o e).2$ I.ok.noex b o e]
theorem aq.bk(I:aq X pins σ H s):∀b o,X.base.get? b=δ o->s.heap.get? b=δ o:=λb o e=>(I.bs b o e).1
theorem aq.mod(I:aq X pins σ H s):Mod X.K X.mg X.base:=I.ok.mod
theorem aq.kIn(I:aq X pins σ H s):X.K.In s.heap:=I.ok.mod.kin.keeps I.bk
theorem aq.lt(I:aq X pins σ H s):X.env.locals < s.heap.objs.size:=let #[_,h,_]:=I.loc;h.lt
theorem aq.sz(I:aq X pins σ H s):X.s₀.heap.objs.size<=s.heap.objs.size:=IB I.ok.above (MF I.lt)
theorem aq.nofs(I:aq X pins σ H s)(h:s.heap.objs.size<=a):a∉X.fs:=λb=>by obtain⟨_,o,c,_⟩:=I.ok.funs.mem b;exact absurd (IE (Iq c)$ IB I.sz h)$ Lq _
theorem aq.cne(I:aq X pins σ H s):∀x c,X.env.cells.lookup x=δ c->c≠X.env.locals:=λx c e z=>by obtain⟨v,o,b,d⟩:=I.cell x c e;obtain⟨m,⟨O,E,f,h,a,_⟩,_⟩:=I.loc;rw[z,h]at b;cases b;rw[a]at d;cases d
theorem aq.funs(I:aq X pins σ H s):s.heap.FunFrames X.base X.outer:=by
 let all:∀(l:List Env),(∀b∈hV l,b∈X.fs)->X.s₀.heap.FunFrames X.base l->s.heap.FunFrames X.base l:=by
  intro l;induction l with
  |nil=>intro _ _;trivial
  |cons E r i=>intro d f;obtain⟨g,⟨L,o,h,j,k,m⟩,n⟩:=f;let a:L∈X.fs:=d L (by unfold hV;rw[List.filterMap_cons,h];exact rc);obtain⟨S,e⟩:=I.base.slot L o k (I.ok.frf L a) a λz=>I.ok.exfs L z a;exact#[g,#[L,_,h,j,e,m],i (λb c=>d b (by unfold hV;rw[List.filterMap_cons,h];exact rz _ c)) n]
 exact all X.outer (λ_ c=>c) I.ok.funs
theorem aq.stack(I:aq X pins σ H s):s.heap.FunFrames X.base X.stack:=by
 rcases I.ok.stk with e | ⟨e,h⟩
 .rw[e];exact I.funs
 .rw[e];obtain⟨m,a,_⟩:=I.loc;refine .cons (by rw[I.ok.kind];decide) h a ?_ I.funs;exact Heap.get?_none_of_le$ IB I.ok.bsz I.ok.above
theorem aq.stkSub(I:aq X pins σ H s):∀b∈hV X.stack,b∈X.env.locals::X.fs:=λb h=>by
 rcases I.ok.stk with e | ⟨e,a⟩
 .rw[e]at h;exact IK _ h
 .rw[e]at h;unfold hV at h;rw[NT,a]at h;exact h
theorem aq.stkFree(I:aq X pins σ H s):∀b∈hV X.stack,H b=ζ:=λb hb=>by
 rcases Δ.mp (I.stkSub b hb) with e |hb
 .rw[e];exact I.free
 .obtain⟨_,o,h,_⟩:=I.ok.funs.mem hb;exact I.base.free b o h (I.ok.frf b hb) λz=>I.ok.exfs b z hb
theorem aq.step{g':Array GenState}{d':Drawn}{ch:List ε}(I:aq X pins σ H s)
  (a:∀b∈ch,(b∈X.ex∨X.s₀.heap.objs.size<=b)/\b≠X.env.locals/\(∀x c,X.env.cells.lookup x=δ c->c≠b)/\∀p∈X.pn++pins,p.1≠b)
  (K:∀b o,b≠X.env.locals->b∉X.fs->b∉ch->s.heap.get? b=δ o->H b=ζ->h'.get? b=δ o)
  (S:∀b o,b≠X.env.locals->b∈X.fs->b∉ch->s.heap.get? b=δ o->H b=ζ->∃J,h'.get? b=δ { o with slots:=J }) (f:∀b o,b∉ch->s.heap.get? b=δ o->H b=ζ->H' b=ζ)
  (t:∀b o,b∉ch->s.heap.get? b=δ o->∃O,h'.get? b=δ O)
  (T:∀b j,H b=δ (.tup j)->H' b=δ (.tup j)) (F:∀b o u,H b=δ (.frz o u)->H' b=δ (.frz o u)) (B:∀b P,H b=δ (.tbl P)->∃M,H' b=δ (.tbl$ P++M))
  (ns:∀m,s.heap.Ns X.env.locals m->h'.Ns X.env.locals m) (L:eK X.prog X.w H' h') (hg:AllBare g'):
  aq X pins σ H' { s with heap:=h',gens:=g',drawn:=d',toks:=t' }:=by
 let D:∀b o,X.s₀.heap.get? b=δ o->b≠X.env.locals:=λb o e=>Iz (IE (Iq e) I.ok.above);let g:∀b o,X.s₀.heap.get? b=δ o->b∉X.ex->b∉ch:=λb o e h y=>by
  rcases(a b y).1 with z |z
  .exact h z
  .exact absurd (IE (Iq e) z)$ Lq _
 let C:∀x c,X.env.cells.lookup x=δ c->∀v,s.heap.IsCell c v->h'.IsCell c v:=λx c e v #[o,A,Q]=>by
  let N:c∉ch:=λz=>(a c z).2.2.1 x c e Z;by_cases U:c∈X.fs
  .obtain⟨J,q⟩:=S c o (I.cne x c e) U N A (I.freeC x c e);exact#[_,q,Q]
  .exact#[o,K c o (I.cne x c e) U N A$ I.freeC x c e,Q]
 refine#[I.ok,I.os,hg,#[λb o e n y h=>?_,λb o e n y h=>?_,λb o e n h=>?_,λb o e h=>?_,λb j e=>T b j (I.base.tups b j e),λb o j e=>F b o j (I.base.frzs b o j e),λb P e=>?_],?_,λx c e=>?_,?_,λx c e=>?_,λp W=>?_,L,I.len]
 .exact K b o (D b o e) y (g b o e h) (I.base.keep b o e n y h)$ I.base.free b o e n h
 .obtain⟨J,E⟩:=I.base.slot b o e n y h;obtain⟨R,G⟩:=S b _ (D b o e) y (g b o e h) E (I.base.free b o e n h);exact#[R,G]
 .obtain⟨O,E⟩:=I.base.there b o e h;exact f b O (g b o e h) E$ I.base.free b o e n h
 .obtain⟨O,E⟩:=I.base.there b o e h;exact t b O (g b o e h) E
 .obtain⟨m1,E⟩:=I.base.tbls b P e;obtain⟨m2,G⟩:=B b _ E;exact#[m1++m2,by rw[G,Array.append_assoc]]
 .obtain⟨m,hn,hl⟩:=I.loc;refine#[m,ns m hn,λi x v E G e3=>?_];obtain⟨u,r,l⟩:=hl i x v E G e3;refine#[u,r,?_];rcases l with l | ⟨k,c,e,z⟩
  .exact .inl l
  .exact .inr #[k,c,e,C x c e _ z]
 .obtain⟨v,z⟩:=I.cell x c e;exact#[v,C x c e v z]
 .obtain⟨m,⟨o,_,_,A,_⟩,_⟩:=I.loc;exact f _ o (λz=>(a _ z).2.1 Z) A I.free
 .obtain⟨v,o,A,Q⟩:=I.cell x c e;exact f c o (λz=>(a c z).2.2.1 x c e Z) A$ I.freeC x c e
 .obtain⟨e,n,Y,nf,d⟩:=I.pin p W;let N:p.1∉ch:=λz=>(a p.1 z).2.2.2 p W Z;exact#[K p.1 p.2 Y nf N e n,f p.1 p.2 N e n,Y,nf,d]
theorem aq.un{t':Nat}(I:aq X pins σ H s)(u:Un X.fs [] H H' s.heap h')(a:eK X.prog X.w H' h'):aq X pins σ H' { s with heap:=h',toks:=t' }:=by
 obtain⟨m,⟨o,j,k,f,r⟩,_⟩:=id I.loc;obtain⟨S,g⟩:=u.any f I.free Hy;exact I.step (g':=s.gens) (d':=s.drawn) (ch:=[]) (λ_ z=>nomatch z) (λb o _ c _ e n=>u.keep b o e n c Hy) (λb o _ c _ e n=>u.slot b o e n c Hy) (λb o _ e n=>u.free b o e n Hy) (λb o _ e=>u.there b o e Hy) u.tups u.frzs u.tbls (λM i=>by
  obtain⟨O,E,d,h,R⟩:=i;rw[f]at h;cases h;exact#[_,E,d,g,R]) a I.bare
theorem aq.call{g':Array GenState}{t':Nat}{d':Drawn}{ch:List ε}(I:aq X pins σ H s)(u:Un (hV X.stack) ch H H' s.heap h')(f:eK X.prog X.w H' h')(k:AllBare g')
  (a:∀b∈ch,(b∈X.ex∨X.s₀.heap.objs.size<=b)/\b≠X.env.locals/\(∀x c,X.env.cells.lookup x=δ c->c≠b)/\∀p∈X.pn++pins,p.1≠b):
  aq X pins σ H' { s with heap:=h',gens:=g',drawn:=d',toks:=t' }:=by
 obtain⟨m,⟨o,t,v,j,r⟩,_⟩:=id I.loc;obtain⟨S,g⟩:=u.any j I.free λz=>(a _ z).2.1 Z;exact I.step (ch:=ch) a (λb o g l h e n=>u.keep b o e n (λz=>(Δ.mp$ I.stkSub b z).elim g l) h) (λb o _ _ h e n=>u.any e n h) (λb o h e n=>u.free b o e n h) (λb o h e=>u.there b o e h) u.tups u.frzs u.tbls (λM q=>by
  obtain⟨O,E,i,d,R⟩:=q;rw[j]at d;cases d;exact#[_,E,i,g,R]) f k
theorem aq.turned{t':Nat}{it:ε}(I:aq X pins σ H s)(k:∀b o,b≠it->s.heap.get? b=δ o->h'.get? b=δ o)(d:H it=ζ)(a:it≠X.env.locals)
  (f:it∈X.ex∨X.s₀.heap.objs.size<=it) (g:∀x c,X.env.cells.lookup x=δ c->c≠it) (i:∀p∈X.pn++pins,p.1≠it):aq X pins σ H { s with heap:=h',toks:=t' }:=by
 let N:∀b u,H b=δ u->b≠it:=λb u e z=>by rw[z,d]at e;cases e
 refine I.step (g':=s.gens) (d':=s.drawn) (ch:=[it]) (λb j=>?_) (λb o _ _ h e _=>k b o (λz=>h (by simp [z])) e) (λb o _ _ h e _=>#[o.slots,k b o (λz=>h (by simp [z])) e]) (λ_ _ _ _ n=>n)
  (λb o h e=>#[o,k b o (λz=>h (by simp [z])) e]) (λ_ _ e=>e) (λ_ _ _ e=>e) (λb P e=>#[(ι []),by rw[e];simp]) (λm l=>?_) (λb u e=>?_) I.bare
 .let e:b=it:=by simpa using j
  subst e;exact#[f,a,g,i]
 .obtain⟨o,E,t,w,r⟩:=l;exact#[o,E,t,k _ o (IC a) w,r]
 .refine(I.hok b u e).stay (λc v h q=>k c v ?_ q) (λ_ q=>q) λ_ _ q=>q;rcases h with z |z
  .rw[z];exact N b u e
  .exact N c _ z
theorem aq.tok(I:aq X pins σ H s)(t:Nat):aq X pins σ H { s with toks:=t }:=I.un (h':=s.heap) (t':=t) Un.refl I.hok
theorem aq.kept{t':Nat}(I:aq X pins σ H s)(k:∀b u,s.heap.get? b=δ u->h'.get? b=δ u):aq X pins σ H { s with heap:=h',toks:=t' }:=I.un (Un.kept k) (I.hok.kept k)
theorem aq.laid{a:ε}{o:HO}{t':Nat}(I:aq X pins σ H s)(k:∀b u,s.heap.get? b=δ u->h'.get? b=δ u)(h:s.heap.objs.size<=a)(n:aS X.prog X.w (aj H a o) h' a o):
  aq X pins σ (aj H a o) { s with heap:=h',toks:=t' }:=I.un (Un.laid k h$ I.hok.fresh h) (I.hok.laid k h n)
theorem aq.write{x e:ε}{o:HO}{t':Nat}(I:aq X pins σ H s)(m:C2 (H x))(a:e=x∨H e=δ (.own x))(k:∀b u,b≠e->s.heap.get? b=δ u->h'.get? b=δ u)(h:∃u,h'.get? e=δ u)
  (n:aS X.prog X.w (aj H x o) h' x o):aq X pins σ (aj H x o) { s with heap:=h',toks:=t' }:=I.un (Un.write m a k h) (I.hok.write m a k h n)
theorem aq.pins_of{pins':List (ε×pz)}(I:aq X pins σ H s)(h:∀p∈pins',s.heap.get? p.1=δ p.2/\H p.1=ζ/\p.1≠X.env.locals/\p.1∉X.fs/\∀v,p.2.data≠ .cell v):aq X pins' σ H s:=
 #[I.ok,I.os,I.bare,I.base,I.loc,I.cell,I.free,I.freeC,λp a=>(γ.mp a).elim (λz=>I.pin p (Lw _ z)) (h p),I.hok,I.len]
theorem Xu{N:List π}(h:N.Nodup){i j:Nat}{x:π}(a:N[i]?=δ x)(b:N[j]?=δ x):i=j:=by obtain⟨c,e⟩:=τ.mp a;obtain⟨d,E⟩:=τ.mp b;exact(List.getElem_inj h).mp (e.trans E.symm)
theorem QB{v:V}{Q:Unit->θ->Prop}(I:aq X pins σ H s)(hN:X.N.Nodup)(L:X.N[i]?=δ x)(l:oC X.env.scope x)(r:aB v u)
  (h:∀s',aq X pins (σ.set i$ δ v) H s'->(∃a,kw a s.heap s'.heap/\(a=X.env.locals∨X.env.cells.lookup x=δ a))->Q () s') (hf:X.fn x=μ∨X.env.scope.names.lookup x=δ .local:=by first |exact .inl Z |exact .inr Z |assumption):ξ M A (storeName X.env x u) Q E s:=by
 obtain⟨m,hn,hl⟩:=id I.loc;let O:(X.env.scope.kind== .class||(X.env.scope.kind== .module&&X.env.locals != X.env.globals))=ν:=by rw[I.ok.kind];rfl
 let D:i < σ.length:=by rw[I.len];exact(τ.mp L).1
 let F:=I.cne;let t:∀{a:ε} {h':fv},(∃o,s.heap.get? a=δ o/\H a=ζ)->kw a s.heap h'->eK X.prog X.w H h':=λ{a h'} ha f b ob e=>by
  obtain⟨_,_,B⟩:=ha;refine(I.hok b ob e).stay (λc W hc q=>(f.2 c ?_).trans q) (λ_ q=>q) λ_ _ q=>q;rintro rfl;rcases hc with rfl |hc
  .rw[B]at e;cases e
  .rw[B]at hc;cases hc
 rcases l with hk |hk
 .refine wpAny_storeName_local hk hn (λh' h0 f=>?_) O;obtain⟨oL,_,_,h1,_⟩:=id hn;refine h _ #[I.ok,I.os,I.bare,#[λb o e n G l=>?_,λb o e n G l=>?_,I.base.free,λb o e l=>?_,I.base.tups,I.base.frzs,I.base.tbls],#[_,h0,λj y v' g C e3=>?_],λy c e=>?_,I.free,I.freeC,λp hp=>?_,t #[oL,h1,I.free] f,by simpa using I.len] #[_,f,.inl Z]
  .exact(f.2 b$ Iz$ IE (Iq e) I.ok.above).trans (I.base.keep b o e n G l)
  .obtain⟨sl,g⟩:=I.base.slot b o e n G l;exact#[sl,(f.2 b$ Iz$ IE (Iq e) I.ok.above).trans g]
  .obtain⟨o',g⟩:=I.base.there b o e l;exact#[o',(f.2 b$ Iz$ IE (Iq e) I.ok.above).trans g]
  .by_cases J:j=i
   .subst J;rw[L]at g;cases g;rw[MW D]at C;cases C;exact#[u,r,.inl #[hk,Hy]]
   .rw[Ml$ IC J]at C;obtain⟨u',r',q⟩:=hl j y v' g C e3;refine#[u',r',?_];rcases q with ⟨k,e⟩ | ⟨k,c,e,z⟩
    .refine .inl #[k,?_];let:y≠x:=λe=>J (Xu hN g$ e▸L);simp [this,e]
    .exact .inr #[k,c,e,z.sameBut f$ F y c e]
  .obtain⟨W,z⟩:=I.cell y c e;exact#[W,z.sameBut f$ F y c e]
  .obtain⟨e,n,U,nf,d⟩:=I.pin p hp;exact#[(f.2 p.1 U).trans e,n,U,nf,d]
 .let K:X.fn x=μ:=by
   rcases hf with z |z
   .exact z
   .rw[z]at hk;cases hk
  obtain⟨c,hc⟩:=I.ok.has x (.inl hk);obtain⟨W,z⟩:=I.cell x c hc;refine wpAny_storeName_cell I.ok.kind hk hc z (λh' P f=>?_);obtain⟨oc,R,S⟩:=id z;refine h { s with heap:=h' } #[I.ok,I.os,I.bare,#[λb o e n G l=>?_,λb o e n G l=>?_,I.base.free,λb o e l=>?_,I.base.tups,I.base.frzs,I.base.tbls],#[m,hn.sameBut f$ IC$ F x c hc,λj y v' g C e3=>?_],λy Y e=>?_,I.free,I.freeC,λp hp=>?_,t #[oc,R,I.freeC x c hc] f,by simpa using I.len] #[c,f,.inr hc]
  .exact(f.2 b$ Iz$ IE (Iq e)$ I.ok.cab x c K hc).trans (I.base.keep b o e n G l)
  .obtain⟨sl,g⟩:=I.base.slot b o e n G l;exact#[sl,(f.2 b$ Iz$ IE (Iq e)$ I.ok.cab x c K hc).trans g]
  .obtain⟨o',g⟩:=I.base.there b o e l;exact#[o',(f.2 b$ Iz$ IE (Iq e)$ I.ok.cab x c K hc).trans g]
  .by_cases J:j=i
   .subst J;rw[L]at g;cases g;rw[MW D]at C;cases C;exact#[u,r,.inr #[.inl hk,c,hc,P]]
   .rw[Ml$ IC J]at C;obtain⟨u',r',q⟩:=hl j y v' g C e3;refine#[u',r',?_];rcases q with q | ⟨k,Y,e,z'⟩
    .exact .inl q
    .refine .inr #[k,Y,e,z'.sameBut f ?_];rintro rfl;exact J$ Xu hN g$ I.ok.inj _ _ _ e hc▸L
  .by_cases T:Y=c
   .subst T;exact#[_,P]
   .obtain⟨w2,z2⟩:=I.cell y Y e;exact#[w2,z2.sameBut f T]
  .obtain⟨e,n,U,nf,d⟩:=I.pin p hp;refine#[(f.2 p.1 ?_).trans e,n,U,nf,d];intro q;rw[q,R]at e;let q':oc=p.2:=K' e;exact d W (by rw[<- q'];exact S)
theorem zb{Q:Unit->θ->Prop}(I:aq X pins σ H s)(a:X.N.Nodup)(b:X.N[i]?=δ x)(c:oC X.env.scope x)(r:aB v u)
  (h:∀S,aq X pins (σ.set i$ δ v) H S->Q () S) (d:X.fn x=μ∨X.env.scope.names.lookup x=δ .local:=by first |exact .inl Z |exact .inr Z |assumption):ξ M A (storeName X.env x u) Q E s:=
 QB I a b c r (λS e _=>h S e) d
theorem aq.call'{S:θ}{ch:List ε}(I:aq X pins σ H s)(d:S.os=s.os)(u:Un (hV X.stack) ch H H' s.heap S.heap)(h:eK X.prog X.w H' S.heap)(f:AllBare S.gens)
  (a:∀b∈ch,(b∈X.ex∨X.s₀.heap.objs.size<=b)/\b≠X.env.locals/\(∀x c,X.env.cells.lookup x=δ c->c≠b)/\∀p∈X.pn++pins,p.1≠b):aq X pins σ H' S:=by
 obtain⟨h',g',d',t',o⟩:=S;let e:o=s.os:=d;subst e;exact I.call (g':=g') (t':=t') (d':=d') u h f a
end
abbrev XK:=η->Option ε->Hp->Prop
abbrev St:=List (Option V)
abbrev VK:=V->Hp->Prop
abbrev TE:=St->Hp->VK->Prop
abbrev TT:=St->Hp->(Bool->Hp->Prop)->Prop
abbrev TA:=St->Hp->(List V->Hp->Prop)->Prop
structure a7 where
 nx:St->Hp->Prop
 rt:VK
 bk:St->Hp->Prop:=λ_ _=>False
 ct:St->Hp->Prop:=λ_ _=>False
abbrev TS:=a7->St->Hp->Prop
inductive EP(X:Cx)(a:List (ε×pz))(d:St)(Q:VK)(u:η)(c:θ):Prop
 |mk(v b:_)(_:aq X a d b c)(_:aB v u)(_:Q v b)
inductive TP(X:Cx)(a:List (ε×pz))(e:St)(Q:Bool->Hp->Prop)(b:Bool)(d:θ):Prop
 |mk(c:_)(_:aq X a e c d)(_:Q b c)
inductive AP(X:Cx)(a:List (ε×pz))(f:St)(Q:List V->Hp->Prop)(d:List η)(c:θ):Prop
 |mk(e b:_)(_:aq X a f b c)(_:aw e d)(_:Q e b)
def SP(X:Cx)(p:List (ε×pz))(D:a7)(f:Flow)(s:θ):Prop:=
 match f with
 | .next=>∃a H,aq X p a H s/\D.nx a H
 | .brk=>∃a H,aq X p a H s/\D.bk a H
 | .cont=>∃a H,aq X p a H s/\D.ct a H
 | .ret u=>∃v a H,aq X p a H s/\aB v u/\D.rt v H
def PE(X:Cx)(e:fr)(t:TE):Prop:=
 ∀(p:List (ε×pz)) (s:θ) (a:St) (H:Hp) (Q:VK),aq X p a H s->t a H Q->ξ (χ X.prog X.w) X.A (eval e X.env) (EP X p a Q) X.xe s
def PT(X:Cx)(e:fr)(t:TT):Prop:=
 ∀(p:List (ε×pz)) (s:θ) (a:St) (H:Hp) (Q:Bool->Hp->Prop),aq X p a H s->t a H Q->ξ (χ X.prog X.w) X.A (isTrue e X.env$ eval e X.env) (TP X p a Q) X.xe s
def PW(X:Cx)(e:fr)(t:TT):Prop:=
 ∀(W:Sem η) (p:List (ε×pz)) (s:θ) (a:St) (H:Hp) (Q:Bool->Hp->Prop),aq X p a H s->t a H Q->ξ (χ X.prog X.w) X.A (isTrue e X.env W) (TP X p a Q) X.xe s
theorem PW.pt{X:Cx}{e:fr}{t:TT}(h:PW X e t):PT X e t:=h _
def PA(X:Cx)(e:List fr)(t:TA):Prop:=
 ∀(P:Pos) (p:List (ε×pz)) (s:θ) (a:St) (H:Hp) (Q:List V->Hp->Prop),aq X p a H s->t a H Q->ξ (χ X.prog X.w) X.A (spliced$ hY P$ Θ e X.env) (AP X p a Q) X.xe s
def PS(X:Cx)(st:ey)(t:TS):Prop:=
 ∀(p:List (ε×pz)) (s:θ) (a:St) (H:Hp) (D:a7),aq X p a H s->t D a H->ξ (χ X.prog X.w) X.A (exec st X.env) (SP X p D) X.xe s
def lS(X:Cx)(st:List ey)(t:TS):Prop:=
 ∀(p:List (ε×pz)) (s:θ) (a:St) (H:Hp) (D:a7),aq X p a H s->t D a H->ξ (χ X.prog X.w) X.A (execs st X.env) (SP X p D) X.xe s
theorem aL{b:Type}{t:Sem b}{Q q:b->θ->Prop}{M:Model}{A:ef}{E:η->θ->Prop}{s:θ}(h:ξ M A t Q E s)(H:∀a s,Q a s->q a s):ξ M A t q E s:=Lj h H λ_ _ x=>x
section
variable {X:Cx}
inductive aZ(i:Nat)(a:St)(H:Hp)(Q:VK):Prop
 |mk(v:_)(_:a[i]?=δ (δ v))(_:Q v H)
def tC(v:V):TE:=λ_ H Q=>Q v H
theorem BJ(j:X.N[i]?=δ x)(k:EX X.env.scope x)(b:(x==("__debug__":π))=ν:=by decide)(d:(x==("__classdict__":π))=ν:=by decide):PE X (.Name x n) (aZ i):=by
 intro p s o H Q I h;obtain⟨v,e,h⟩:=h;obtain⟨m,q,t⟩:=I.loc;obtain⟨u,r,l⟩:=t i x v j e k;let f:EP X p o Q u s:=#[v,H,I,r,h];rcases l with ⟨hk,w⟩ | ⟨hk,c,g,a⟩
 .exact RJ (Ri I.ok.kind hk q w f) b
 .rcases hk with hk |hk
  .exact RJ (Rt I.ok.kind hk g a f) b
  .exact RJ (wpAny_loadName_free I.ok.kind hk g a f d) b
theorem jf{i j p}:PE X (.Constant (.int i) j p) (tC$ .int i):=λ_ _ _ H _ I h=>wpAny_Constant_int #[.int i,H,I.tok _,#[_,Z],h]
theorem Jg{b j p}:PE X (.Constant (.bool b) j p) (tC$ .bl b):=λ_ _ _ H _ I h=>Constant_bool #[.bl b,H,I,Z,h]
theorem Ya{j p}:PE X (.Constant .none j p) (tC .non):=λ_ _ _ H _ I h=>Constant_none #[.non,H,I,Z,h]
theorem jj{x j p}:PE X (.Constant (.str x) j p) (tC$ .str x):=λ_ _ _ H _ I h=>Calls.Constant_str #[.str x,H,I.tok _,#[_,Z],h]
def Gl(X:Cx)(x:π):Prop:=X.env.kindOf x=δ .globalImplicit
theorem zu{Q:η->θ->Prop}(I:aq X p e H s)(a:Gl X x)(b:X.mg x=δ u)(h:Q u s)
  (c:(x==("__debug__":π))=ν:=by decide):ξ (χ X.prog X.w) X.A (eval (.Name x d) X.env) Q E s:=
 Ox I.ok.kind a (Calls.loadGlobal_global (by rw[I.ok.glob];exact I.mod.glob.keeps I.bk) b h) c
theorem qr{Q:η->θ->Prop}(I:aq X p j H s)(a:Gl X x)(b:X.mg x=ζ)(c:bootBuiltins x=δ u)(h:Q u s)
  (d:x≠"__name__":=by decide) (e:(x==("__debug__":π))=ν:=by decide):ξ (χ X.prog X.w) X.A (eval (.Name x f) X.env) Q E s:=by
 obtain⟨m,g,i⟩:=I.mod.blt;exact Ox I.ok.kind a (Calls.loadGlobal_builtin (by rw[I.ok.glob];exact I.mod.glob.keeps I.bk) b (by rw[I.ok.blt];exact g.keeps I.bk) ((i x d).trans c) h) e
theorem Jk{v:V}(a:Gl X x)(b:X.mg x=δ u)(r:aB v u)(c:(x==("__debug__":π))=ν:=by decide):PE X (.Name x p) (tC v):=
 λ_ _ _ H _ I h=>zu I a b #[v,H,I,r,h] c
variable {a b:fr}{ta tb:TE}{pos:Pos}
def PC(X:Cx)(o:CmpOp)(a b:fr)(t:TE):Prop:=
 ∀(p:List (ε×pz)) (s:θ) (d:St) (H:Hp) (Q:VK),aq X p d H s->t d H Q->
  ξ (χ X.prog X.w) X.A (eval a X.env) (λv S=>ξ (χ X.prog X.w) X.A (eval b X.env) (λu c=>ξ (χ X.prog X.w) X.A (compareOp o v u) (EP X p d Q) X.xe c) X.xe S) X.xe s
inductive GU(Q:Bool->Hp->Prop)(x:V)(a:Hp):Prop
 |mk(c:_)(_:x= .bl c)(_:Q c a)
def tB(t:TE):TT:=λc H Q=>t c H (GU Q)
theorem BM(h:PC X o a b t)(e:behindInMarks o b=ν:=by first |exact n _ HA HA |rfl):PT X (.Compare a [o] [b] pos) (tB t):=by intro p s f H Q I g;refine P6 (aL (h p s f H _ I g) λv S e=>aL e λu m i=>aL i λc w z=>?_) e;obtain⟨x,j,k,r,l⟩:=z;obtain⟨d,rfl,q⟩:=l;cases r;exact MY #[j,k,q]
theorem JK(h:PE X e t)(c:∀w,isTrue e X.env w=(do let v <- w;standAt e.pos;ym [v] (truthy v)):=by intro _;rfl):PT X e (tB t):=by intro p s f H Q I g;refine isTrue_plain (aL (h p s f H _ I g) λv S z=>?_)$ c _;obtain⟨x,i,j,r,k⟩:=z;obtain⟨d,rfl,q⟩:=k;cases r;exact MY #[i,j,q]
variable {tA tB':TT}{rest:List fr}
def Gg(t u:TT):TT:=λd H Q=>t d H λc h=>if c=μ then u d h Q else Q ν h
def Hl(t u:TT):TT:=λd H Q=>t d H λc h=>if c=μ then Q μ h else u d h Q
def Gm(t:TT):TT:=λd H Q=>t d H λc h=>Q (!c) h
theorem Kf(d:PT X a tA):PW X (.BoolOp .And [a] pos) tA:=by
 intro w p s f H Q I h;refine isTrue_and$ aL (d p s f H Q I h) λc S e=>?_;cases c with
 |true=>exact isTrue_and_nil e
 |false=>exact e
theorem Q0(d:PT X a tA):PW X (.BoolOp .Or [a] pos) tA:=by
 intro w p s f H Q I h;refine isTrue_or$ aL (d p s f H Q I h) λc S e=>?_;cases c with
 |false=>exact isTrue_or_nil e
 |true=>exact e
theorem Q1(f:PT X a tA)(g:PW X (.BoolOp .And (b::rest) pos) tB'):PW X (.BoolOp .And (a::b::rest) pos) (Gg tA tB'):=by
 intro w p s d H Q I h;refine isTrue_and$ aL (f p s d H _ I h) λc S z=>?_;obtain⟨e,i,q⟩:=z;cases c with
 |true=>exact g w p S d e Q i q
 |false=>exact#[e,i,q]
theorem YR(f:PT X a tA)(g:PW X (.BoolOp .Or (b::rest) pos) tB'):PW X (.BoolOp .Or (a::b::rest) pos) (Hl tA tB'):=by
 intro w p s d H Q I h;refine isTrue_or$ aL (f p s d H _ I h) λc S z=>?_;obtain⟨e,i,q⟩:=z;cases c with
 |true=>exact#[e,i,q]
 |false=>exact g w p S d e Q i q
theorem Kz(e:PT X a tA):PT X (.UnaryOp .Not a pos) (Gm tA):=by intro p s f H Q I h;exact isTrue_not$ aL (e p s f H (λc d=>Q (!c) d) I h) λc S #[d,i,q]=>#[d,i,q]
inductive ug(b:TE)(d:St)(Q:VK)(x:V)(a:Hp):Prop
 |mk(c:_)(_:x= .bl c)(_:if c=μ then b d a Q else Q (.bl ν) a)
def Ey(ta tb:TE):TE:=λc H Q=>ta c H (ug tb c Q)
theorem BG(h:PE X a t):PE X (.BoolOp o [a] pos) t:=λp s c H Q I d=>BoolOp_one (h p s c H Q I d)
theorem Yb(f:PE X a ta)(g:PE X (.BoolOp .And (b::rest) pos) tb):PE X (.BoolOp .And (a::b::rest) pos) (Ey ta tb):=by
 intro p s d H Q I h;refine BoolOp_and$ aL (f p s d H _ I h) λv S z=>?_;obtain⟨x,e,i,r,q⟩:=z;obtain⟨c,rfl,q⟩:=q;cases r;refine MY ?_;cases c with
 |true=>exact g p S d e Q i q
 |false=>exact#[.bl ν,e,i,Z,q]
def Hk(t:TT)(ta tb:TE):TE:=λd H Q=>t d H λc h=>if c=μ then ta d h Q else tb d h Q
theorem zG(g:PT X c tA)(j:PE X a ta)(k:PE X b tb):PE X (.IfExp c a b pos) (Hk tA ta tb):=by
 intro p s e H Q I h;refine wpAny_IfExp$ aL (g p s e H _ I h) λd S z=>?_;obtain⟨f,i,q⟩:=z;cases d with
 |true=>exact j p S e f Q i q
 |false=>exact k p S e f Q i q
end
def aG(K:Ω)(H:Hp)(a:ε)(x:List V):Prop:=
 Rd H a (.lst x)∨
  ∃(o:pz) (i:Array η) (n:Nat),K.lookup a=δ o/\o.cls= .type "list"/\o.dict=ζ/\o.data= .seq i n/\i.size<=υ/\aw x i.toList
def aC(K:Ω)(H:Hp)(a:ε)(x:List V):Prop:=
 Rd H a (.tup x)∨
  ∃(o:pz) (i:Array η) (n:Nat),K.lookup a=δ o/\o.cls= .type "tuple"/\o.data= .seq i n/\i.size<=υ/\aw x i.toList
def Fv:η->Option V
 | .none=>δ .non
 | .bool b=>δ (.bl b)
 | .int i _=>δ (.int i)
 | .str x _=>δ (.str x)
 | .bytes b _=>δ (.byt b)
 | .float b _=>δ (.flt b)
 | .ref a=>δ (.ref a)
 | .type n=>δ (.ty n)
 |_=>ζ
theorem aB.abs(r:aB x u):Fv u=δ x:=by
 cases x with
 |non=>cases r;rfl
 |bl _=>cases r;rfl
 |int _=>obtain⟨t,rfl⟩:=r;rfl
 |str _=>obtain⟨t,rfl⟩:=r;rfl
 |byt _=>obtain⟨t,rfl⟩:=r;rfl
 |flt _=>obtain⟨t,rfl⟩:=r;rfl
 |ref _=>cases r;rfl
 |ty _=>cases r;rfl
theorem aB.inj{x:V}(r:aB x u)(q:aB y u):x=y:=K' (r.abs.symm.trans q.abs)
theorem aw.inj:∀{x y:List V} {u:List η},aw x u->aw y u->x=y
 |_,_,_,.nil,.nil=>rfl
 |_,_,_,.cons r t,.cons R T=>by rw[r.inj R,aw.inj t T]
section
variable {X:Cx}{pins:List (ε×pz)}{σ:St}{H:Hp}{s:θ}{a:ε}{xs ys:List V}
theorem aG.of{K:Ω}(h:H a=δ (.lst xs)):aG K H a xs:=.inl (.inl h)
theorem aC.of{K:Ω}(h:H a=δ (.tup xs)):aC K H a xs:=.inl (.inl h)
theorem aq.list(I:aq X pins σ H s)(h:aG X.K H a xs):∃i:List η,aw xs i/\PlainL s.heap a i.toArray/\xs.length<=υ:=by
 rcases h with h | ⟨o,i,n,b,c,d,f,g,r⟩
 .obtain⟨z,i,n,r,e⟩:=h.ok I.hok;exact#[i,r,#[_,n,e,Z,Z,Z],z]
 .refine#[i.toList,r,#[o,n,I.kIn a o b,c,d,by simpa using f],?_];let e:=r.length;simp only[IP]at e;omega
theorem aq.tuple(I:aq X pins σ H s)(h:aC X.K H a xs):∃i:List η,aw xs i/\IsTup s.heap a i.toArray/\xs.length<=υ:=by
 rcases h with h | ⟨o,i,n,b,c,d,f,r⟩
 .obtain⟨z,i,r,p⟩:=h.ok I.hok;exact#[i,r,p,z]
 .refine#[i.toList,r,#[o,I.kIn a o b,c,n,by simpa using d],?_];let e:=r.length;simp only[IP]at e;omega
theorem aq.list_inj(I:aq X pins σ H s)(h:aG X.K H a xs)(c:aG X.K H a ys):xs=ys:=by
 obtain⟨b,r,⟨o,n,e,_,_,d⟩,_⟩:=I.list h;obtain⟨i,R,⟨O,N,E,_,_,D⟩,_⟩:=I.list c;rw[e]at E;cases E;rw[d]at D;injection D with f _;let:b=i:=by simpa using LD FO f
 subst this;exact r.inj R
theorem aq.tuple_inj(I:aq X pins σ H s)(h:aC X.K H a xs)(c:aC X.K H a ys):xs=ys:=by
 obtain⟨b,r,⟨o,e,_,n,d⟩,_⟩:=I.tuple h;obtain⟨i,R,⟨O,E,_,N,D⟩,_⟩:=I.tuple c;rw[e]at E;cases E;rw[d]at D;injection D with f _;let:b=i:=by simpa using LD FO f
 subst this;exact r.inj R
end
abbrev Cx.wish(X:Cx)(E:η->θ->Prop):Cx:={ X with xe:=E }
abbrev Cx.nox(X:Cx):Cx:=X.wish λ_ _=>False
theorem Cx.Ok.wish{X:Cx}(o:X.Ok)(E:η->θ->Prop):(X.wish E).Ok:=
 #[o.mod,o.kind,o.glob,o.blt,o.above,o.inj,o.has,o.cab,o.hd,o.frames,o.stk,o.exf,o.bs,o.bsz,o.noex,o.exfs,o.funs,o.frf]
theorem Cx.Ok.unwish{X:Cx}(o:(X.wish E).Ok):X.Ok:=
 #[o.mod,o.kind,o.glob,o.blt,o.above,o.inj,o.has,o.cab,o.hd,o.frames,o.stk,o.exf,o.bs,o.bsz,o.noex,o.exfs,o.funs,o.frf]
section
variable {X:Cx}{pins:List (ε×pz)}{σ:St}{H:Hp}{s:θ}{E:η->θ->Prop}
theorem aq.wish(I:aq X pins σ H s)(E:η->θ->Prop):aq (X.wish E) pins σ H s:=#[I.ok.wish E,I.os,I.bare,I.base,I.loc,I.cell,I.free,I.freeC,I.pin,I.hok,I.len]
theorem aq.unwish(I:aq (X.wish E) pins σ H s):aq X pins σ H s:=#[I.ok.unwish,I.os,I.bare,I.base,I.loc,I.cell,I.free,I.freeC,I.pin,I.hok,I.len]
theorem SP.unwish(h:SP (X.wish E) pins D f c):SP X pins D f c:=by
 cases f with
 |next=>obtain⟨a,b,I,q⟩:=h;exact#[a,b,I.unwish,q]
 |brk=>obtain⟨a,b,I,q⟩:=h;exact#[a,b,I.unwish,q]
 |cont=>obtain⟨a,b,I,q⟩:=h;exact#[a,b,I.unwish,q]
 |ret u=>obtain⟨v,a,b,I,r,q⟩:=h;exact#[v,a,b,I.unwish,r,q]
theorem lS.nox{st:List ey}(h:lS X.nox st t):lS X st t:=λpins s σ H D I a=>
 Lj (h pins s σ H D (I.wish _) a) (λ_ _ q=>q.unwish) λ_ _ z=>False.elim z
end
section
variable {X:Cx}{st:ey}{rest:List ey}{t u:TS}{e:fr}{te:TE}{pos:Pos}
def uq:TS:=λD a H=>D.nx a H
def cR(t u:TS):TS:=λD a H=>t { D with nx:=u D } a H
theorem jp:lS X [] uq:=λ_ _ a H _ I h=>MU #[a,H,I,h]
theorem jd(b:PS X st t)(c:lS X rest u):lS X (st::rest) (cR t u):=by
 intro p s d H D I h;refine OG$ aL (b p s d H { D with nx:=u D } I h) λf S q=>?_;cases f with
 |next=>obtain⟨a,g,i,q⟩:=q;exact c p S a g D i q
 |ret v=>exact q
 |brk=>exact q
 |cont=>exact q
theorem jg(a:PS X st t):lS X [st] t:=by
 intro p s b H D I h;refine OG$ aL (a p s b H D I h) λf S q=>?_;cases f with
 |next=>exact MU q
 |ret v=>exact q
 |brk=>exact q
 |cont=>exact q
theorem aq.quiet(I:aq X p a H s):interactive X.env=ν:=by simp [interactive,I.ok.kind]
def oy(te:TE):TS:=λD a H=>te a H λ_ h=>D.nx a h
theorem jR(b:PE X e te)(c:swapsWith e ζ pos.line X.env=pure ν:=by rfl):PS X (.Expr e pos) (oy te):=by intro p s a H D I h;exact wpAny_Expr_any (aL (b p s a H _ I h) λv S #[x,d,i,r,q]=>#[a,d,i,q]) I.quiet c
def iw(te:TE):TS:=λD a H=>te a H D.rt
theorem jo(b:PE X e te):PS X (.Return (δ e) pos) (iw te):=by intro p s a H D I h;exact wpAny_Return_some$ aL (b p s a H _ I h) λv S #[x,c,i,r,q]=>#[x,a,c,i,r,q]
def iN(c:TT)(t u:TS):TS:=λD a H=>c a H λb h=>if b=μ then t D a h else u D a h
theorem jw{c:fr}{a b:List ey}{T:TT}(j:PT X c T)(k:lS X a t)(l:lS X b u):PS X (.If c a b pos) (iN T t u):=by
 intro p s f H D I h;refine wpAny_If$ aL (j p s f H _ I h) λd S z=>?_;obtain⟨g,i,q⟩:=z;cases d with
 |true=>exact k p S f g D i q
 |false=>exact l p S f g D i q
end
abbrev TG:=V->St->Hp->(St->Hp->Prop)->Prop
abbrev u6:=List V->St->Hp->(St->Hp->Prop)->Prop
def PG(X:Cx)(T:fr)(t:TG):Prop:=
 ∀(p:List (ε×pz)) (s:θ) (b:St) (H:Hp) (v:V) (u:η) (Q:St->Hp->Prop),aq X p b H s->aB v u->t v b H Q->
  ξ (χ X.prog X.w) X.A (assign T X.env u) (λ_ S=>∃a h,aq X p a h S/\Q a h) X.xe s
def CS(X:Cx)(T:List fr)(t:u6):Prop:=
 ∀(p:List (ε×pz)) (s:θ) (b:St) (H:Hp) (v:List V) (u:List η) (Q:St->Hp->Prop),aq X p b H s->aw v u->t v b H Q->
  ξ (χ X.prog X.w) X.A (assignInOrder ((assignEach T X.env).map (·.2)) u) (λ_ S=>∃a h,aq X p a h S/\Q a h) X.xe s
abbrev Ae:=V->V->V->Hp->(Hp->Prop)->Prop
def C5(X:Cx)(t:Ae):Prop:=
 ∀(p:List (ε×pz)) (s:θ) (a:St) (H:Hp) (o i v:V) (O I u:η) (Q:Hp->Prop),aq X p a H s->aB o O->aB i I->aB v u->t o i v H Q->
  ξ (χ X.prog X.w) X.A (setItem O I u) (λ_ S=>∃h,aq X p a h S/\Q h) X.xe s
abbrev Fp:=V->V->Hp->VK->Prop
def Gw(X:Cx)(o:Operator)(t:Fp):Prop:=
 ∀(p:List (ε×pz)) (s:θ) (a:St) (H:Hp) (x y:V) (v u:η) (Q:VK),aq X p a H s->aB x v->aB y u->t x y H Q->
  ξ (χ X.prog X.w) X.A (inplaceOp o v u) (EP X p a Q) X.xe s
section
variable {X:Cx}{pos:Pos}
def bG(i:Nat):TG:=λv a H Q=>Q (a.set i$ δ v) H
theorem ju{i:Nat}{x:π}(a:X.N.Nodup)(b:X.N[i]?=δ x)(c:oC X.env.scope x)(d:X.fn x=μ∨X.env.scope.names.lookup x=δ .local:=by first |exact .inl Z |exact .inr Z |assumption):PG X (.Name x pos) (bG i):=by intro p s f H v u Q I r h;exact RQ$ zb I a b c r (λS e=>#[_,H,e,h]) d
def vB:u6:=λv a H Q=>v=[]/\Q a H
inductive dN(t:TG)(u:u6)(a:List V)(b:St)(H:Hp)(Q:St->Hp->Prop):Prop
 |mk(v r:_)(_:a=v::r)(_:t v b H λσ' H'=>u r σ' H' Q)
theorem kx:CS X [] vB:=by intro p s a H v u Q I r h;obtain⟨e,h⟩:=h;subst e;cases r;exact assignInOrder_nil #[a,H,I,h]
theorem jz(b:PG X e t)(c:CS X E u)
  (d:(assignEach (e::E) X.env).map (·.2)=assign e X.env::(assignEach E X.env).map (·.2):=by rfl):CS X (e::E) (dN t u):=by
 intro p s f H V U Q I r h;obtain⟨v,k,g,h⟩:=h;subst g;cases r with
 |cons r R=>rw[d];refine assignInOrder_cons$ aL (b p s f H _ _ _ I r h) λ_ S z=>?_;obtain⟨a,i,j,q⟩:=z;exact c p S a i _ _ Q j R q
inductive rg(K:Ω)(n:Nat)(t:u6)(v:V)(c:St)(H:Hp)(Q:St->Hp->Prop):Prop
 |mk(a b:_)(_:v= .ref a)(_:aC K H a b)(_:b.length=n)(_:t b c H Q)
theorem zD{n:Nat}(g:X.calm=μ)(h:CS X E t)
  (i:(assignEach E X.env).length=n:=by rfl) (c:(assignEach E X.env).findIdx? (·.1)=ζ:=by rfl):PG X (.Tuple E k pos) (rg X.K n t):=by
 intro p s f H v u Q I r d;obtain⟨a,x,j,l,m,d⟩:=d;subst j;cases r;obtain⟨q,R,w,B⟩:=I.tuple l;refine assign_Tuple_tuple (I.ok.hd g) w (by simp [i,<- m,R.length]) c λy z=>?_;let A:aq X p f H { s with heap:=y }:=I.kept (t':=s.toks) λb o e=>z b o (Iz$ Iq e) e;exact h p _ f H x _ Q A (by simpa using R) d
def AN(T b:TE)(t:Ae):TG:=λv a H Q=>T a H λo h=>b a h λi c=>t o i v c λd=>Q a d
theorem qW{o i:fr}{T c:TE}{t:Ae}(d:PE X o T)(e:PE X i c)(f:C5 X t)
  (g:∀v,assign (.Subscript o i pos) X.env v=(do
   let O <- ym [v] (eval o X.env)
   let a <- ym [v,O] (eval i X.env)
   standAt pos
   ym [v,O,a] (setItem O a v)
   release [v,O,a] []):=by intro _;rfl):PG X (.Subscript o i pos) (AN T c t):=by
 intro p s b H v u Q I r h;rw[g];refine Ih$ IM$ aL (d p s b H _ I h) λO S z=>?_;obtain⟨x,j,k,R,q⟩:=z;refine Ih$ IM$ aL (e p S b j _ k q) λa l z=>?_;obtain⟨y,m,n,w,A⟩:=z;refine Ih$ Mm$ Ih$ IM$ aL (f p l b m x y v O a u _ n R w r A) λ_ E z=>?_;obtain⟨B,C,D⟩:=z;exact wpAny_release #[b,B,C,D]
def dn(t:TE)(g:TG):TS:=λD a H=>t a H λx h=>g x a h D.nx
theorem kQ{t e:fr}{T:TE}{g:TG}(b:PE X e T)(c:PG X t g)(d:swapsWithSole [t] e pos.line X.env=pure ν:=by rfl)(f:swappedStores [t] e X.env=pure ζ:=by rfl)
  (i:(assignEach [t] X.env).map (·.2)=[assign t X.env]:=by rfl):PS X (.Assign [t] e pos) (dn T g):=by
 intro p s a H D I h;refine wpAny_Assign_stores (aL (b p s a H _ I h) λv S z=>?_) d f;obtain⟨x,j,k,r,Q⟩:=z;rw[i];exact aL (c p S a j x v _ k r Q) λ_ l q=>q
theorem kW{i:Nat}{x:π}{e:fr}{t:TE}{p:Pos}(a:X.N.Nodup)(b:X.N[i]?=δ x)(c:oC X.env.scope x)(d:PE X e t)(f:swapsWith e (δ$ .Name x p) pos.line X.env=pure ν:=by rfl)(g:X.fn x=μ∨X.env.scope.names.lookup x=δ .local:=by first |exact .inl Z |exact .inr Z |assumption):
  PS X (.Assign [.Name x p] e pos) (dn t$ bG i):=by
 intro P s j H D I h;refine RS (aL (d P s j H _ I h) λv S z=>?_) f;obtain⟨y,k,l,r,q⟩:=z;exact zb l a b c r (λn m=>#[_,k,m,q]) g
inductive Ez(i:Nat)(a:TE)(b:Fp)(D:a7)(c:St)(H:Hp):Prop
 |mk(x:_)(_:c[i]?=δ (δ x))(_:a c H λy H1=>b x y H1 λz H2=>D.nx (c.set i (δ z)) H2)
theorem BK{i:Nat}(q:X.N.Nodup)(g:X.N[i]?=δ x)(f:oC X.env.scope x)(t:PE X e T)(B:Gw X o C)(E:X.fn x=μ∨X.env.scope.names.lookup x=δ .local:=by first |exact .inl Z |exact .inr Z |assumption):
  PS X (.AugAssign (.Name x j) o e pos) (Ez i T C):=by
 intro p s n H D I h;obtain⟨v,F,h⟩:=h;obtain⟨m,J,K⟩:=I.loc;let V:EX X.env.scope x:=by rcases f with k |k;exact .inl k;exact .inr$ .inl k
 obtain⟨u,r,l⟩:=K i x v g F V;refine wpAny_AugAssign_Name ?_;let G:ξ (χ X.prog X.w) X.A (eval e X.env) (λw S=>ξ (χ X.prog X.w) X.A (inplaceOp o u w) (λr d=>ξ (χ X.prog X.w) X.A (storeName X.env x r) (λ_=>SP X p D .next) X.xe d) X.xe S) X.xe s:=by refine aL (t p s n H _ I h) λw L a=>?_;obtain⟨y,M,O,R,Q⟩:=a;refine aL (B p L n M v y u w _ O r R Q) λz s2 a=>?_;obtain⟨zv,P,U,W,Y⟩:=a;exact zb U q g f W (λs3 I3=>#[_,P,I3,Y]) E
 rcases l with ⟨hk,hm⟩ | ⟨hk,c,hc,b⟩
 .exact Ri I.ok.kind hk J hm G
 .rcases hk with hk |hk
  .exact Rt I.ok.kind hk hc b G
  .rcases f with k |k
   .let:X.env.scope.names.lookup x=δ .free:=hk;rw[k]at this;cases this
   .let:X.env.scope.names.lookup x=δ .free:=hk;rw[k]at this;cases this
inductive GN(f:Int->Int->Int)(x y:V)(H:Hp)(Q:VK):Prop
 |mk(i j:_)(_:x= .int i)(_:y= .int j)(_:Q (.int (f i j)) H)
theorem AS:Gw X .Add (GN λi j=>i+j):=by intro p s a H x y v u Q I r R h;obtain⟨i,j,e,E,q⟩:=h;subst e;subst E;obtain⟨t,rfl⟩:=r;obtain⟨T,rfl⟩:=R;exact iadd_int #[.int _,H,I.tok _,#[_,Z],q]
end
section
variable {X:Cx}{pos:Pos}
def uy(c:TT)(t:TS):TS:=λD a H=>∃W:Nat->St->Hp->Prop,(∃m,W m a H)/\∀m a H,W m a H->
 c a H λb h=>if b=μ then ∃N:St->Hp->Prop,(∀d e,N d e->∃M,M < m/\W M d e)/\t { D with nx:=N,ct:=N,bk:=D.nx } a h else D.nx a h
theorem KM(o:PassesOwn (χ X.prog X.w) X.A X.env X.xe)(E:PT X c T)(F:lS X B G):PS X (.While c B [] pos) (uy T G):=by
 intro p s J H D I h;obtain⟨W,⟨M,K⟩,t⟩:=h;refine wpAny_While$ codeAny_whileLoop (λn S=>∃e r,aq X p e r S/\W n e r) ?_ M #[J,H,I,K];rintro n L ⟨d,u,O,P⟩;refine My o$ aL (E p L d u _ O$ t n d u P) λb R z=>?_;obtain⟨x,y,q⟩:=z;cases b with
 |true=>
  obtain⟨N,C,q⟩:=q;rw[Iw Z];refine My o$ aL (F p R d x _ y q) λf U Q=>?_;cases f with
  |next=>obtain⟨a,g,i,j⟩:=Q;obtain⟨m,k,l⟩:=C a g j;exact#[m,k,a,g,i,l]
  |cont=>obtain⟨a,g,i,j⟩:=Q;obtain⟨m,k,l⟩:=C a g j;exact#[m,k,a,g,i,l]
  |brk=>exact Q
  |ret v=>exact Q
 |false=>rw[Iy Iu];exact MU #[d,x,y,q]
end
structure It where
 go:Nat->Hp->Prop
 yld:Nat->Hp->V->Hp->Prop
 stop:Nat->Hp->Prop
def gN(X:Cx)(P:List (ε×pz))(H:Hp)(b:ε):Prop:=
 H b=ζ/\b≠X.env.locals/\b∉X.fs/\(b∈X.ex∨X.s₀.heap.objs.size<=b)/\(∀x c,X.env.cells.lookup x=δ c->c≠b)/\∀p∈X.pn++P,p.1≠b
theorem aq.fpOk{X:Cx}{d:Hp}(I:aq X a i H s)(h:s.heap.objs.size<=b)(f:d b=ζ):gN X a d b:=by
 refine#[f,Lh$ IE I.lt h,I.nofs h,.inr$ IB I.sz h,λx c e z=>?_,λp g z=>?_]
 .obtain⟨v,q⟩:=I.cell x c e;exact absurd (IE q.lt (by rw[z];exact h))$ Lq _
 .exact absurd (IE (Iq (I.pin p g).1) (by rw[z];exact h))$ Lq _
structure oG(P:ψ)(w:dg)(K:Ω)(tg:fr)(J:It)(fp:List ε)(it:ε)(tn:Nat->fv->Prop):Prop where
 mem:it∈fp
 obj:∀i h,tn i h->∀b∈fp,∃o,h.get? b=δ o/\∀v,o.data≠ .cell v
 keep:∀i h h',tn i h->(∀b∈fp,∀o,h.get? b=δ o->h'.get? b=δ o)->tn i h'
 item:∀(X:Cx),X.prog=P->X.w=w->X.K=K->X.calm=μ->∀(i:Nat) (pins:List (ε×pz)) (s:θ) (σ:St) (H:Hp) (E:η->θ->Prop),aq X pins σ H s->(∀b∈fp,gN X pins H b)->tn i s.heap->J.go i H->
  ξ (χ P w) X.A (pyNext$ .ref it) (λr s1=>∃u,r=δ u/\
   ξ (χ P w) X.A (letOwnedTupleGo tg (.ref it) u) (λ_ s2=>∃x H',aq X pins σ H' s2/\aB x u/\J.yld i H x H'/\tn (i+1) s2.heap/\∀b∈fp,H' b=ζ) E s1) E s
 done:∀(X:Cx),X.prog=P->X.w=w->X.K=K->X.calm=μ->∀(i:Nat) (pins:List (ε×pz)) (s:θ) (σ:St) (H:Hp) (E:η->θ->Prop),aq X pins σ H s->(∀b∈fp,gN X pins H b)->tn i s.heap->J.stop i H->
  ξ (χ P w) X.A (pyNext$ .ref it) (λr s1=>r=ζ/\aq X pins σ H s1) E s
 self:∀(A:ef) (i:Nat) (s:θ) (Q:η->θ->Prop) (E:η->θ->Prop),tn i s.heap->Q (.ref it) s->ξ (χ P w) A (pyIter$ .ref it) Q E s
abbrev TI:=St->Hp->(It->Hp->Prop)->Prop
def Gv(X:Cx)(p:List (ε×pz))(a:St)(T:fr)(R:It->Hp->Prop)(i:η)(s:θ):Prop:=
 ∃(I:ε) (f:List ε) (t:Nat->fv->Prop) (J:It) (H:Hp),i= .ref I/\aq X p a H s/\oG X.prog X.w X.K T J f I t/\t 0 s.heap/\(∀b∈f,gN X p H b)/\R J H
def PI(X:Cx)(t iter:fr)(W:TI):Prop:=
 ∀(p:List (ε×pz)) (s:θ) (a:St) (H:Hp) (R:It->Hp->Prop),aq X p a H s->W a H R->
  ξ (χ X.prog X.w) X.A (eval iter X.env) (λv S=>ξ (χ X.prog X.w) X.A (pyIter v) (Gv X p a t R) X.xe S) X.xe s
theorem YS{s : θ}{n : String}{Q : Unit -> θ -> Prop}(a : s.heap.get? i = δ o)(b : o.cls = .type n)(c : o.data = .fields v)
    (d : ["enumerate", "zip", "dict_itemiterator", "dict_reverseitemiterator", "odict_iterator", "itertools.zip_longest", "itertools.pairwise"].contains n = ν) (H : Q () s) : ξ M A (letOwnedTupleGo t (.ref i) u) Q E s := by
  unfold letOwnedTupleGo;cases t <;> first
    | exact Ij H
    | (cases u <;> first
        | exact Ij H
        | (refine Ih (RI a ?_)
           rw [b, c];show ξ M A (if (["enumerate", "zip", "dict_itemiterator", "dict_reverseitemiterator", "odict_iterator", "itertools.zip_longest", "itertools.pairwise"].contains n && v[0]? == δ (rawInt _)) = μ then _ else _) Q E s;rw [Iy (by intro h; rw [d, RF] at h; cases h)];exact Ij H))
def yd(K:Ω)(a:ε):It:=
 #[λi H=>∃X x,aG K H a X/\X[i]?=δ x,λi H x h=>h=H/\∀X,aG K H a X->X[i]?=δ x,λi H=>∃X,aG K H a X/\X.length<=i]
def uO(K:Ω)(a:ε):It:=
 #[λi H=>∃X x,aC K H a X/\X[i]?=δ x,λi H x h=>h=H/\∀X,aC K H a X->X[i]?=δ x,λi H=>∃X,aC K H a X/\X.length<=i]
def uY(lo:Int)(n:Nat):It:=#[λi _=>i < n,λi H x h=>h=H/\x= .int (lo+i),λi _=>n<=i]
theorem Zw{P:ψ}{K:Ω}(a g:ε):oG P w K tg (yd K a) [g] g (λi h=>h.IsListIter g a i) where
 mem:=by simp
 obj:=λi h st b j=>by
  let e:b=g:=by simpa using j
  subst e;obtain⟨o,e,c,d⟩:=st;exact#[o,e,λv z=>by rw[d]at z;cases z]
 keep:=λi h l st k=>st.at λo e=>k g Hy o e
 item:=by intro X q r t L i f s M H E I m st y;subst q r t;obtain⟨N,x,n,A⟩:=y;obtain⟨B,R,p,O⟩:=I.list n;obtain⟨u,Q,T⟩:=R.get A;obtain⟨F,C,U,D,G,J⟩:=m g Hy;refine PJ st p.isList (x:=u) (by simpa using Q) λl S V=>?_;let W:aq X f M H { s with heap:=l }:=I.turned (t':=s.toks) (λb o j e=>(V.2 b j).trans e) F C D G J;obtain⟨o,e,c,d⟩:=id S;exact#[u,Z,YS (s:={ s with heap:=l }) e c d HA #[x,H,W,T,#[Z,λys Y=>by rw[I.list_inj Y n];exact A],S,λb j=>(m b j).1]]
 done:=by intro X q r t L i f s M H E I m st y;subst q r t;obtain⟨N,n,A⟩:=y;obtain⟨B,R,p,O⟩:=I.list n;obtain⟨F,C,U,D,G,J⟩:=m g Hy;let hl:=R.length;exact P5 (I.ok.hd L) st p.isList (by simp;omega) λl eb=>#[Z,I.turned (t':=s.toks) (λb o j e=>eb b o j e) F C D G J]
 self:=λ_ _ _ _ _ st h=>wpAny_pyIter_listiter st h
theorem Yi{P:ψ}{K:Ω}(a g:ε):oG P w K tg (uO K a) [g] g (λi h=>h.IsTupleIter g a i) where
 mem:=by simp
 obj:=λi h st b j=>by
  let e:b=g:=by simpa using j
  subst e;obtain⟨o,e,c,d⟩:=st;exact#[o,e,λv z=>by rw[d]at z;cases z]
 keep:=λi h m st k=>st.at λo e=>k g Hy o e
 item:=by intro X r t y L i f s M H E I n st A;subst r t y;obtain⟨N,x,q,B⟩:=A;obtain⟨l,R,p,O⟩:=I.tuple q;obtain⟨u,Q,T⟩:=R.get B;obtain⟨F,C,U,D,G,J⟩:=n g Hy;refine wpAny_pyNext_tuple_item st (show s.heap.IsTuple a l.toArray from p) (x:=u) (by simpa using Q) λm S V=>?_;let W:aq X f M H { s with heap:=m }:=I.turned (t':=s.toks) (λb o j e=>(V.2 b j).trans e) F C D G J;obtain⟨o,e,c,d⟩:=id S;exact#[u,Z,YS (s:={ s with heap:=m }) e c d HA #[x,H,W,T,#[Z,λys Y=>by rw[I.tuple_inj Y q];exact B],S,λb j=>(n b j).1]]
 done:=by intro X r t y L i f s M H E I n st A;subst r t y;obtain⟨N,q,B⟩:=A;obtain⟨l,R,p,O⟩:=I.tuple q;obtain⟨F,C,U,D,G,J⟩:=n g Hy;let hl:=R.length;exact wpAny_pyNext_tuple_end (I.ok.hd L) st (show s.heap.IsTuple a l.toArray from p) (by simp;omega) λm eb=>#[Z,I.turned (t':=s.toks) (λb o j e=>eb b o j e) F C D G J]
 self:=λ_ _ _ _ _ st h=>wpAny_pyIter_tupleiter st h
theorem Yj{P:ψ}{K:Ω}(a:ε)(lo:Int)(n:Nat):oG P w K M (uY lo n) [a] a (λi h=>IsRangeIter h a (lo+(i:Nat)*1) ((n:Int) - (i:Nat)) 1) where
 mem:=by simp
 obj:=λi h st b c=>by
  let e:b=a:=by simpa using c
  subst e;exact#[_,st,λv z=>by
   let B:Data.fields _=Data.cell v:=z;cases B]
 keep:=λi h d st k=>k a Hy _ st
 item:=by intro X g j l m i p s A H E I f st q;subst g j l;obtain⟨F,r,C,u,x,y⟩:=f a Hy;let W:=Walks.range (prog:=X.prog) (w:=X.w) (I.ok.hd m) a lo 1 n;refine W.item i s _ _ q st λv d T D S G=>?_;obtain⟨t,rfl⟩:=D;let J:aq X p A H { s with heap:=d,toks:=T }:=I.turned (λb o c e=>G b o (by simpa using c) e) F r u x y;refine#[_,Z,YS (s:={ s with heap:=d,toks:=T }) (n:="range_iterator") S Z Z HA #[.int$ lo+i,H,J,#[t,?_],#[Z,Z],S,λb c=>(f b c).1]];rw[Int.mul_one]
 done:=by intro X g j l m i p s A H E I f st q;subst g j l;obtain⟨F,r,C,u,x,y⟩:=f a Hy;exact wpAny_pyNext_range_end (I.ok.hd m) st (by let:n<=i:=q;omega) λd L=>#[Z,I.turned (t':=s.toks) (λb o c e=>L b o c e) F r u x y]
 self:=λ_ _ _ _ _ st h=>wpAny_pyIter_rangeiter st h
section
variable {X:Cx}{tg:fr}
inductive rq(K:Ω)(R:It->Hp->Prop)(x:V)(b:Hp):Prop
 |mk(a:_)(_:x= .ref a)(_:∃xs,aG K b a xs)(_:R (yd K a) b)
def yw(K:Ω)(t:TE):TI:=λa H R=>t a H (rq K R)
inductive yy(K:Ω)(R:It->Hp->Prop)(x:V)(b:Hp):Prop
 |mk(a:_)(_:x= .ref a)(_:∃xs,aC K b a xs)(_:R (uO K a) b)
def FN(K:Ω)(t:TE):TI:=λa H R=>t a H (yy K R)
theorem Jl(c:PE X l t):PI X tg l (yw X.K t):=by
 intro P s d H R I h;refine aL (c P s d H _ I h) λv S z=>?_;obtain⟨x,f,i,r,Q⟩:=z;obtain⟨a,e,⟨m,g⟩,q⟩:=Q;subst e;cases r;obtain⟨j,n,p,u⟩:=i.list g;refine Nw p.isList ?_;refine#[S.heap.objs.size,[S.heap.objs.size],_,_,f,Z,i.kept (t':=S.toks) λb o e=>Il _ e,Zw a _,#[_,Ir _ Z,Z,Z],λb k=>?_,q];let e:b=S.heap.objs.size:=by simpa using k
 subst e;exact i.fpOk (Im _)$ i.hok.fresh$ Im _
theorem zn(d:PE X l t):PI X tg l (FN X.K t):=by
 intro P s f H R I h;refine aL (d P s f H _ I h) λv S z=>?_;obtain⟨x,g,i,r,Q⟩:=z;obtain⟨a,e,⟨m,j⟩,q⟩:=Q;subst e;cases r;obtain⟨c,n,p,u⟩:=i.tuple j;refine RG (show S.heap.IsTuple a c.toArray from p) ?_;refine#[S.heap.objs.size,[S.heap.objs.size],_,_,g,Z,i.kept (t':=S.toks) λb o e=>Il _ e,Yi a _,#[_,Ir _ Z,Z,Z],λb k=>?_,q];let e:b=S.heap.objs.size:=by simpa using k
 subst e;exact i.fpOk (Im _)$ i.hok.fresh$ Im _
theorem sK{R:It->Hp->Prop}{lo:Int}(I:aq X p a H s)(c: -(2 ^ 62)<=lo)(d:lo < 2 ^ 62)(f: -(2 ^ 62)<=h)(g:h < 2 ^ 62)
  (q:R (uY lo (h - lo).toNat) H):ξ (χ X.prog X.w) X.A (pyIter$ .ref s.heap.objs.size) (Gv X p a tg R) E { s with heap:=s.heap.push { cls:=.type "range",data:=.fields (ι [.int lo t,.int h u,.int 1 v]) },toks:=T }:=by
 refine wpAny_pyIter_range (IsRange.new ..) (small_one c d f g) ?_;let i:aq X p a H { s with heap:=s.heap.push { cls:=.type "range",data:=.fields (ι [.int lo t,.int h u,.int 1 v]) },toks:=T }:=I.kept λb o e=>Il _ e;refine#[(s.heap.push { cls:=.type "range",data:=.fields (ι [.int lo t,.int h u,.int 1 v]) }).objs.size,[(s.heap.push { cls:=.type "range",data:=.fields (ι [.int lo t,.int h u,.int 1 v]) }).objs.size],_,_,H,Z,
  i.kept (t':=T) λb o e=>Il _ e,Yj _ lo (h - lo).toNat,?_,λb j=>?_,q]
 .let k:lo+((0:Nat):Int)*1=lo:=by simp
  let l:(((h - lo).toNat:Nat):Int) - ((0:Nat):Int)=Builtin.Range.rangeSize lo h 1:=by rw[rangeSize_one];split<;>omega
  show IsRangeIter _ _ (lo+((0:Nat):Int)*1) ((((h - lo).toNat:Nat):Int) - ((0:Nat):Int)) 1;rw[k,l];exact Ir _ Z
 .let e:b=(s.heap.push { cls:=.type "range",data:=.fields (ι [.int lo t,.int h u,.int 1 v]) }).objs.size:=by simpa using j
  subst e;exact i.fpOk (Im _)$ i.hok.fresh$ Im _
inductive rA(R:It->Hp->Prop)(b:List V)(a:Hp):Prop
 |mk(j:Int)(_:b=[.int j])(_:-(2 ^ 62)<=j)(_:j < 2 ^ 62)(_:R (uY 0 j.toNat) a)
def DA(t:TA):TI:=λa H R=>t a H (rA R)
theorem ze{a:fr}{T:TA}{p P:Pos}(c:Gl X "range")(d:X.mg "range"=ζ)(f:PA X [a] T)(g:Θ [a] X.env=[(ν,eval a X.env)]:=by rfl):PI X tg (.Call (.Name "range" p) [a] [] P) (DA T):=by
 intro b s i H R I h;refine Call_$ qr I c d boot_range$ Li (aL (f P b s i H _ I h) λu S z=>?_) g Z;obtain⟨v,o,k,l,Q⟩:=z;obtain⟨j,e,Q,m,q⟩:=Q;subst e;cases l with
 |cons r n=>cases n;obtain⟨t,rfl⟩:=r;exact call_range_1$ sK k Hz Hz Q m (by simpa using q)
def Cy(w:TI)(g:TG)(t:TS):TS:=λD a H=>w a H λJ d=>∃W:Nat->Nat->St->Hp->Prop,(∃m,W 0 m a d)/\∀i m a H,W i m a H->
 (J.stop i H/\D.nx a H)∨(J.go i H/\∃N:St->Hp->Prop,(∀b h,N b h->∃M,M < m/\W (i+1) M b h)/\∀x h,J.yld i H x h->g x a h λc e=>t { D with nx:=N,ct:=N,bk:=D.nx } c e)
def iX(f:List ε)(h:fv):List (ε×pz):=f.filterMap λb=>(h.get? b).map λo=>(b,o)
theorem zf{h:fv}(H:b∈f)(e:h.get? b=δ o):(b,o)∈iX f h:=List.mem_filterMap.mpr #[b,H,by rw[e];rfl]
theorem Zx(H:p∈iX f h):p.1∈f/\h.get? p.1=δ p.2:=by
 obtain⟨b,a,e⟩:=List.mem_filterMap.mp H;cases q:h.get? b with
 |none=>rw[q]at e;cases e
 |some o=>rw[q]at e;let E:(b,o)=p:=K' e;subst E;exact#[a,q]
theorem aq.pinned(I:aq X a c H s)(g:∀b∈f,gN X a H b)(i:∀b∈f,∃o,s.heap.get? b=δ o/\∀v,o.data≠ .cell v):aq X (a++iX f s.heap) c H s:=
 I.pins_of λp j=>(γ.mp j).elim (λz=>I.pin p (IG _ z)) λz=>by obtain⟨h,e⟩:=Zx z;obtain⟨F,k,l,_⟩:=g p.1 h;obtain⟨o,E,d⟩:=i p.1 h;rw[e]at E;cases E;exact#[e,F,k,l,d]
theorem aq.unpinned(I:aq X (a++c) b H s):aq X a b H s:=I.pins_of λp h=>I.pin p (IG _$ Lw _ h)
theorem kX{iter:fr}{B:List ey}{wi:TI}{g:TG}{tb:TS}{P:Pos}(C:PassesOwn (χ X.prog X.w) X.A X.env X.xe)(hc:X.calm=μ)(hi:PI X tg iter wi)(hg:PG X tg g)(c:lS X B tb)
  (hs:∀x,foldedSetIterable iter X.env x=pure x:=by intro _;rfl):PS X (.For tg iter B [] P) (Cy wi g tb):=by
 intro p s σ H D I h;refine wpAny_For (aL (hi p s σ H _ I h) λv s1 h1=>aL h1 λi0 s2 h2=>?_) hs;obtain⟨it,F,tn,J,H2,e,I2,T,O,f2,W,⟨m0,w0⟩,E⟩:=h2;subst e;let S:∀{t:Hp},(∀b∈F,t b=ζ)->∀b∈F,gN X p t b:=λhn b c=>#[hn b c,(f2 b c).2];refine codeAny_forLoop_any (λn s'=>∃i j t,aq X p j t s'/\tn i s'.heap/\(∀b∈F,t b=ζ)/\W i n j t) ?_ m0 #[0,σ,H2,I2,O,λb c=>(f2 b c).1,w0];rintro n s3 ⟨i,k,M,I3,G,K,w3⟩;rcases E i n k M w3 with ⟨stop,qn⟩ | ⟨go,N,hN,step⟩
 .refine My C$ aL (T.done X Z Z Z hc i p s3 k M X.xe I3 (S K) G stop) λr s4 z=>?_;obtain⟨R,I4⟩:=z;subst R;exact MU #[k,M,I4,qn]
 .refine My C$ aL (T.item X Z Z Z hc i p s3 k M X.xe I3 (S K) G go) λr s4 z=>?_;obtain⟨u,R,h4⟩:=z;subst R;refine My C$ aL h4 λ_ s5 z=>?_;obtain⟨x,H5,I5,r5,y5,y,U⟩:=z;let V:=I5.pinned (S U) (T.obj _ _ y);refine My C$ aL (hg _ s5 k H5 x u _ V r5$ step x H5 y5) λ_ s6 z=>?_;obtain⟨Y,H6,I6,q6⟩:=z;refine My C$ aL (c _ s6 Y H6 _ I6 q6) λf s7 Q=>?_;let again:∀{a:St} {l:Hp},aq X (p++iX F s5.heap) a l s7->N a l->∃m,m < n/\∃i j t,aq X p j t s7/\tn i s7.heap/\(∀b∈F,t b=ζ)/\W i m j t:=λ{a l} q L=>by obtain⟨m',hm,w7⟩:=hN a l L;refine#[m',hm,i+1,a,l,q.unpinned,T.keep _ _ _ y λb c o e=>(q.pin (b,o)$ IG _$ IG _$ zf c e).1,λb c=>?_,w7];obtain⟨o,e,d⟩:=T.obj _ _ y b c;exact(q.pin (b,o)$ IG _$ IG _$ zf c e).2.1
  cases f with
  |next=>obtain⟨a,l,q,L⟩:=Q;exact again q L
  |cont=>obtain⟨a,l,q,L⟩:=Q;exact again q L
  |brk=>obtain⟨a,l,q,Q⟩:=Q;exact#[a,l,q.unpinned,Q]
  |ret v=>obtain⟨x7,a,l,q,r7,Q⟩:=Q;exact#[x7,a,l,q.unpinned,r7,Q]
end
theorem p5{K:Ω}{a:ε}{X:List V}{g:TG}{t:TS}{D:a7}{b:St}{H:Hp}(Pv:Nat->St->Hp->Prop)(k:Pv 0 b H)(l:∀i b H,i<=X.length->Pv i b H->aG K H a X)
  (n:∀i x b H,X[i]?=δ x->Pv i b H->g x b H λc j=>t { D with nx:=Pv (i+1),ct:=Pv (i+1),bk:=D.nx } c j) (o:∀b H,Pv X.length b H->D.nx b H):
  ∃W:Nat->Nat->St->Hp->Prop,(∃m,W 0 m b H)/\∀i m b H,W i m b H->
   ((yd K a).stop i H/\D.nx b H)∨((yd K a).go i H/\∃N:St->Hp->Prop,(∀d h,N d h->∃M,M < m/\W (i+1) M d h)/\∀x h,(yd K a).yld i H x h->g x b h λc j=>t { D with nx:=N,ct:=N,bk:=D.nx } c j):=by
 refine#[λi m b H=>m=X.length - i/\i<=X.length/\Pv i b H,#[X.length,Hy,Is _,k],?_];rintro i m b H ⟨rfl,r,p⟩;let q:=l i b H r p;by_cases f:i < X.length
 .refine .inr #[#[X,X[i],q,by simp [f]],Pv$ i+1,λd h P=>#[X.length - (i+1),Hz,Z,f,P],λx h y=>?_];obtain⟨e,y⟩:=y;subst e;exact n i x b _ (y X q) p
 .let e:i=X.length:=by omega
  subst e;exact .inl #[#[X,q,Im _],o b H p]
theorem vA{K:Ω}{a:ε}{X:List V}{g:TG}{t:TS}{D:a7}{b:St}{H:Hp}(Pv:Nat->St->Hp->Prop)(k:Pv 0 b H)(l:∀i b H,i<=X.length->Pv i b H->aC K H a X)
  (n:∀i x b H,X[i]?=δ x->Pv i b H->g x b H λc j=>t { D with nx:=Pv (i+1),ct:=Pv (i+1),bk:=D.nx } c j) (o:∀b H,Pv X.length b H->D.nx b H):
  ∃W:Nat->Nat->St->Hp->Prop,(∃m,W 0 m b H)/\∀i m b H,W i m b H->
   ((uO K a).stop i H/\D.nx b H)∨((uO K a).go i H/\∃N:St->Hp->Prop,(∀d h,N d h->∃M,M < m/\W (i+1) M d h)/\∀x h,(uO K a).yld i H x h->g x b h λc j=>t { D with nx:=N,ct:=N,bk:=D.nx } c j):=by
 refine#[λi m b H=>m=X.length - i/\i<=X.length/\Pv i b H,#[X.length,Hy,Is _,k],?_];rintro i m b H ⟨rfl,r,p⟩;let q:=l i b H r p;by_cases f:i < X.length
 .refine .inr #[#[X,X[i],q,by simp [f]],Pv$ i+1,λd h P=>#[X.length - (i+1),Hz,Z,f,P],λx h y=>?_];obtain⟨e,y⟩:=y;subst e;exact n i x b _ (y X q) p
 .let e:i=X.length:=by omega
  subst e;exact .inl #[#[X,q,Im _],o b H p]
theorem QC{lo:Int}{n:Nat}{g:TG}{t:TS}{D:a7}{a:St}{H:Hp}(Pv:Nat->St->Hp->Prop)(j:Pv 0 a H)
  (k:∀i a H,i < n->Pv i a H->g (.int$ lo+i) a H λb f=>t { D with nx:=Pv (i+1),ct:=Pv (i+1),bk:=D.nx } b f) (l:∀a H,Pv n a H->D.nx a H):
  ∃W:Nat->Nat->St->Hp->Prop,(∃m,W 0 m a H)/\∀i m a H,W i m a H->
   ((uY lo n).stop i H/\D.nx a H)∨((uY lo n).go i H/\∃N:St->Hp->Prop,(∀c h,N c h->∃M,M < m/\W (i+1) M c h)/\∀x h,(uY lo n).yld i H x h->g x a h λb f=>t { D with nx:=N,ct:=N,bk:=D.nx } b f):=by
 refine#[λi m a H=>m=n - i/\i<=n/\Pv i a H,#[n,Hy,Is _,j],?_];rintro i m a H ⟨rfl,o,p⟩;by_cases d:i < n
 .refine .inr #[d,Pv$ i+1,λc h P=>#[n - (i+1),Hz,Z,d,P],λx h y=>?_];obtain⟨e,y⟩:=y;subst e y;exact k i a _ d p
 .let e:i=n:=by omega
  subst e;exact .inl #[Im _,l a H p]
abbrev R2:=V->V->Hp->VK->Prop
def gp(X:Cx)(f:η->η->Sem η)(r:R2):Prop:=
 ∀(p:List (ε×pz)) (s:θ) (a:St) (H:Hp) (x y:V) (v u:η) (Q:VK),aq X p a H s->aB x v->aB y u->r x y H Q->
  ξ (χ X.prog X.w) X.A (f v u) (EP X p a Q) X.xe s
def Ft(X:Cx)(f:η->Sem η)(r:V->Hp->VK->Prop):Prop:=
 ∀(p:List (ε×pz)) (s:θ) (a:St) (H:Hp) (x:V) (v:η) (Q:VK),aq X p a H s->aB x v->r x H Q->
  ξ (χ X.prog X.w) X.A (f v) (EP X p a Q) X.xe s
def dS(X:Cx)(f:η)(r:List V->Hp->VK->Prop):Prop:=
 ∀(p:List (ε×pz)) (s:θ) (a:St) (H:Hp) (x:List V) (u:List η) (Q:VK),aq X p a H s->aw x u->r x H Q->
  ξ (χ X.prog X.w) X.A (call f u) (EP X p a Q) X.xe s
def Fs(X:Cx)(r:V->Hp->(Bool->Hp->Prop)->Prop):Prop:=
 ∀(p:List (ε×pz)) (s:θ) (a:St) (H:Hp) (x:V) (v:η) (Q:Bool->Hp->Prop),aq X p a H s->aB x v->r x H Q->
  ξ (χ X.prog X.w) X.A (truthy v) (TP X p a Q) X.xe s
def dQ(r:R2)(t T:TE):TE:=λa H Q=>t a H λx h=>T a h λy b=>r x y b Q
def Hm(r:V->Hp->VK->Prop)(t:TE):TE:=λa H Q=>t a H λx h=>r x h Q
inductive rI(C:Int->Int->Prop)(g:Int->Int->V)(x y:V)(H:Hp)(Q:VK):Prop
 |mk(i j:_)(_:x= .int i)(_:y= .int j)(_:C i j)(_:Q (g i j) H)
inductive uT(g:Int->Int->V)(x y:V)(H:Hp)(Q:VK):Prop
 |mk(i j:_)(_:x= .int i)(_:y= .int j)(_:Q (g i j) H)
inductive rU(g:Int->V)(x:V)(H:Hp)(Q:VK):Prop
 |mk(i:_)(_:x= .int i)(_:Q (g i) H)
section
variable {X:Cx}{a b c:fr}{ta tb tc:TE}{pos:Pos}
theorem Al(k:PE X a ta)(l:PE X b tb){R:V->V->Hp->Prop}(I:aq X p e H s)
  (h:ta e H λx j=>tb e j λy d=>R x y d)  {f:η->η->Sem η}
  (m:∀v u i x y d,aq X p e d i->aB x v->aB y u->R x y d->ξ (χ X.prog X.w) X.A (f v u) Q X.xe i):
  ξ (χ X.prog X.w) X.A (eval a X.env) (λv S=>ξ (χ X.prog X.w) X.A (eval b X.env) (λu g=>ξ (χ X.prog X.w) X.A (f v u) Q X.xe g) X.xe S) X.xe s:=by
 refine aL (k p s e H _ I h) λv n z=>?_;obtain⟨x,j,o,r,q⟩:=z;refine aL (l p n e j _ o q) λu i z=>?_;obtain⟨y,d,t,B,C⟩:=z;exact m v u i x y d t r B C
theorem jv{o:Operator}{r:R2}(d:gp X (binaryOp o) r)(e:PE X a ta)(f:PE X b tb):PE X (.BinOp a o b pos) (dQ r ta tb):=by intro p s g H Q I h;exact wpAny_BinOp$ Al e f I h λv u S x y i j R k q=>d p S g i x y v u Q j R k q
theorem yI(e:Ft X (unaryOp o) r)(f:PE X a ta):PE X (.UnaryOp o a pos) (Hm r ta):=by intro p s d H Q I h;exact UnaryOp_$ aL (f p s d H _ I h) λv S #[x,g,i,R,q]=>e p S d g x v Q i R q
theorem Fb{f:η->η->Sem η}{C:Int->Int->Prop}{g:Int->Int->Int}
  (rule:∀(i j:Int) (t u:Tok) (s:θ) (Q:η->θ->Prop) (E:η->θ->Prop),C i j->Q (.int (g i j) s.toks) { s with toks:=s.toks+1 }->ξ (χ X.prog X.w) X.A (f (.int i t)$ .int j u) Q E s):
  gp X f (rI C λi j=>.int (g i j)):=by
 intro p s e H x y v u Q I r R h;obtain⟨i,j,rfl,rfl,d,q⟩:=h;obtain⟨t,rfl⟩:=r;obtain⟨T,rfl⟩:=R;exact rule i j t T s _ _ d #[.int$ g i j,H,I.tok _,#[_,Z],q]
theorem DW{f:η->η->Sem η}{g:Int->Int->Int}
  (rule:∀(i j:Int) (t u:Tok) (s:θ) (Q:η->θ->Prop) (E:η->θ->Prop),Q (.int (g i j) s.toks) { s with toks:=s.toks+1 }->ξ (χ X.prog X.w) X.A (f (.int i t)$ .int j u) Q E s):
  gp X f (uT λi j=>.int (g i j)):=by
 intro p s d H x y v u Q I r R h;obtain⟨i,j,rfl,rfl,q⟩:=h;obtain⟨t,rfl⟩:=r;obtain⟨T,rfl⟩:=R;exact rule i j t T s _ _ #[.int$ g i j,H,I.tok _,#[_,Z],q]
theorem Bv{f:η->η->Sem η}{g:Int->Int->Bool}
  (rule:∀(i j:Int) (t u:Tok) (s:θ) (Q:η->θ->Prop) (E:η->θ->Prop),Q (.bool$ g i j) s->ξ (χ X.prog X.w) X.A (f (.int i t)$ .int j u) Q E s):
  gp X f (uT λi j=>.bl (g i j)):=by
 intro p s d H x y v u Q I r R h;obtain⟨i,j,rfl,rfl,q⟩:=h;obtain⟨t,rfl⟩:=r;obtain⟨T,rfl⟩:=R;exact rule i j t T s _ _ #[.bl$ g i j,H,I,Z,q]
def Fg(i j:Int):Prop:=0<=j/\j<=1000000/\i.natAbs < 2 ^ 64
def uV(i j:Int):Prop:=(-(2 ^ 64) < i/\i < 2 ^ 64)∨(-(2 ^ 64) < j/\j < 2 ^ 64)
theorem uV.ok(h:uV i j):IntMulOk i j:=by
 rcases h with ⟨H,d⟩ | ⟨H,d⟩
 .exact .of_left$ intBits_le_64 H d
 .exact .of_right$ intBits_le_64 H d
theorem jT:gp X (binaryOp .Add) (uT λi j=>.int (i+j)):=DW λ_ _ _ _ _ _ _ q=>add_int q
theorem kI:gp X (binaryOp .Sub) (uT λi j=>.int (i - j)):=DW λ_ _ _ _ _ _ _ q=>sub_int q
theorem zo:gp X (binaryOp .Mult) (rI uV λi j=>.int (i*j)):=Fb λ_ _ _ _ _ _ _ h q=>mul_int q h.ok
theorem kY:gp X (binaryOp .Mod) (rI (λ_ j=>0 < j) λi j=>.int (i % j)):=Fb λi j _ _ _ _ _ h q=>by let H:(0:Int) < j:=h;exact mod_int' Hz (by rw[Int.fmod_eq_emod_of_nonneg i Hz];exact q)
theorem qX:gp X (binaryOp .Pow) (rI Fg λi j=>.int (i ^ j.toNat)):=Fb λ_ _ _ _ _ _ _ h q=>pow_int_small h.1 h.2.1 h.2.2 q
theorem Ho{f:η->Sem η}{g:Int->Int}
  (rule:∀(i:Int) (t:Tok) (s:θ) (Q:η->θ->Prop) (E:η->θ->Prop),Q (.int (g i) s.toks) { s with toks:=s.toks+1 }->ξ (χ X.prog X.w) X.A (f$ .int i t) Q E s):
  Ft X f (rU λi=>.int (g i)):=by
 intro p s d H x v Q I r h;obtain⟨i,rfl,q⟩:=h;obtain⟨t,rfl⟩:=r;exact rule i t s _ _ #[.int$ g i,H,I.tok _,#[_,Z],q]
theorem uE:Ft X (unaryOp .USub) (rU λi=>.int (-i)):=Ho λ_ _ _ _ _ q=>neg_int q
end
def Ei:V->V->Bool
 | .non,.non=>μ | .non,.int _=>μ | .int _,.non=>μ | .non,.bl _=>μ | .bl _,.non=>μ | .non,.str _=>μ | .str _,.non=>μ
 | .int _,.int _=>μ | .bl _,.bl _=>μ | .str _,.str _=>μ | .byt _,.byt _=>μ
 | .int _,.str _=>μ | .str _,.int _=>μ | .bl _,.str _=>μ | .str _,.bl _=>μ
 |_,_=>ν
def D4:R2:=λx y H Q=>Ei x y=μ/\Q (.bl$ decide$ x=y) H
def Hg:R2:=λx y H Q=>Ei x y=μ/\Q (.bl (!decide (x=y))) H
theorem YY:decide (HW i=HW j)=(i==j):=by rw[NE];simp
theorem pQ:decide (V.bl i=V.bl j)=(i==j):=by rw[NE];simp
theorem YZ:decide (HV i=HV j)=(i==j):=by rw[NE];simp
theorem Y0:decide (V.byt i=V.byt j)=(i.toList==j.toList):=by rw[NE];cases i;cases j;simp
section
variable {X:Cx}{a b c:fr}{ta tb tc:TE}{pos:Pos}
theorem jJ{Q:VK}(I:aq X p d H s)(q:Q (.bl k) H)(e:k=f):EP X p d Q (.bool f) s:=by subst e;exact#[.bl k,H,I,Z,q]
theorem zq:gp X (compareOp .Eq) D4:=by
 intro p s e H x y v u Q I R r h;obtain⟨d,q⟩:=h;cases x with
 |non=>
  cases R;cases y with
  |non=>cases r;exact SA (jJ I q Hy)
  |bl j=>cases r;exact SE (jJ I q Hy)
  |int j=>obtain⟨T,rfl⟩:=r;exact SD (jJ I q Hy)
  |str j=>obtain⟨T,rfl⟩:=r;exact Sz (jJ I q Hy)
  |_=>exact absurd (show ν=μ from d) Iu
 |bl i=>
  cases R;cases y with
  |non=>cases r;exact SG (jJ I q Hy)
  |bl j=>cases r;exact eq_bool (jJ I q pQ)
  |str j=>obtain⟨T,rfl⟩:=r;exact Sj (jJ I q Hy)
  |_=>exact absurd (show ν=μ from d) Iu
 |int i=>
  obtain⟨t,rfl⟩:=R;cases y with
  |non=>cases r;exact SF (jJ I q Hy)
  |int j=>obtain⟨T,rfl⟩:=r;exact eq_int (jJ I q YY)
  |str j=>obtain⟨T,rfl⟩:=r;exact Si (jJ I q Hy)
  |_=>exact absurd (show ν=μ from d) Iu
 |str i=>
  obtain⟨t,rfl⟩:=R;cases y with
  |non=>cases r;exact Sy (jJ I q Hy)
  |bl j=>cases r;exact Sf (jJ I q Hy)
  |int j=>obtain⟨T,rfl⟩:=r;exact Se (jJ I q Hy)
  |str j=>obtain⟨T,rfl⟩:=r;exact eq_str (jJ I q YZ)
  |_=>exact absurd (show ν=μ from d) Iu
 |byt i=>
  obtain⟨t,rfl⟩:=R;cases y with
  |byt j=>obtain⟨T,rfl⟩:=r;exact PySem.W.eq_bytes (jJ I q Y0)
  |_=>exact absurd (show ν=μ from d) Iu
 |_=>cases y<;>exact absurd (show ν=μ from d) Iu
theorem JV:gp X (compareOp .NotEq) Hg:=by
 intro p s e H x y v u Q I R r h;obtain⟨d,q⟩:=h;cases x with
 |non=>
  cases R;cases y with
  |non=>cases r;exact Sr (jJ I q Hy)
  |bl j=>cases r;exact Su (jJ I q Hy)
  |int j=>obtain⟨T,rfl⟩:=r;exact Ss (jJ I q Hy)
  |str j=>obtain⟨T,rfl⟩:=r;exact Sq (jJ I q Hy)
  |_=>exact absurd (show ν=μ from d) Iu
 |bl i=>
  cases R;cases y with
  |non=>cases r;exact Sw (jJ I q Hy)
  |bl j=>cases r;exact ne_bool (jJ I q (LD not pQ))
  |str j=>obtain⟨T,rfl⟩:=r;exact Sc (jJ I q Hy)
  |_=>exact absurd (show ν=μ from d) Iu
 |int i=>
  obtain⟨t,rfl⟩:=R;cases y with
  |non=>cases r;exact Sv (jJ I q Hy)
  |int j=>obtain⟨T,rfl⟩:=r;exact ne_int (jJ I q (LD not YY))
  |str j=>obtain⟨T,rfl⟩:=r;exact Sb (jJ I q Hy)
  |_=>exact absurd (show ν=μ from d) Iu
 |str i=>
  obtain⟨t,rfl⟩:=R;cases y with
  |non=>cases r;exact So (jJ I q Hy)
  |bl j=>cases r;exact Sa (jJ I q Hy)
  |int j=>obtain⟨T,rfl⟩:=r;exact R9 (jJ I q Hy)
  |str j=>obtain⟨T,rfl⟩:=r;exact ne_str (jJ I q (LD not YZ))
  |_=>exact absurd (show ν=μ from d) Iu
 |byt i=>
  obtain⟨t,rfl⟩:=R;cases y with
  |byt j=>obtain⟨T,rfl⟩:=r;exact PySem.W.ne_bytes (jJ I q (LD not Y0))
  |_=>exact absurd (show ν=μ from d) Iu
 |_=>cases y<;>exact absurd (show ν=μ from d) Iu
theorem Kq:gp X (compareOp .Lt) (uT λi j=>.bl (decide$ i < j)):=Bv λ_ _ _ _ _ _ _ q=>lt_int q
theorem JW:gp X (compareOp .Gt) (uT λi j=>.bl (decide$ j < i)):=Bv λ_ _ _ _ _ _ _ q=>gt_int q
theorem sq:gp X (compareOp .GtE) (uT λi j=>.bl (decide$ j<=i)):=Bv λ_ _ _ _ _ _ _ q=>ge_int q
theorem au(b:fr)(h:o≠ .In:=by decide)(H:o≠ .NotIn:=by decide):behindInMarks o b=ν:=by
 let e:(o==CmpOp.In)=ν:=by cases o<;>first |rfl |exact absurd Z h
 let E:(o==CmpOp.NotIn)=ν:=by cases o<;>first |rfl |exact absurd Z H
 cases b<;>simp [behindInMarks,e,E]
theorem j9(d:gp X (compareOp o) r)(e:PE X a ta)(f:PE X b tb)(g:behindInMarks o b=ν):PE X (.Compare a [o] [b] pos) (dQ r ta tb):=by intro p s i H Q I h;exact wpAny_Compare1 (Al e f I h λv u S x y j k R l q=>d p S i j x y v u Q k R l q) g
inductive ut(Q:Bool->Hp->Prop)(x:V)(a:Hp):Prop
 |mk(k:_)(_:x= .bl k)(_:Q k a)
def iS(t:TE):TT:=λd H Q=>t d H (ut Q)
theorem jB{o:CmpOp}{r:R2}(f:gp X (compareOp o) r)(g:PE X a ta)(i:PE X b tb)(j:behindInMarks o b=ν):PT X (.Compare a [o] [b] pos) (iS$ dQ r ta tb):=by
 intro p s d H Q I h;refine P6 (aL (g p s d H _ I h) λv S #[x,l,m,R,q]=>aL (i p S d l _ m q) λu n #[y,t,w,A,B]=>
  aL (f p n d t x y v u _ w R A B) λc G #[z,C,D,E,k,e,F]=>?_) j
 subst e;cases E;exact MY #[C,D,F]
def C6(K:Ω)(x:V)(H:Hp)(k:Bool):Prop:=
 match x with
 | .non=>k=ν
 | .bl b=>k=b
 | .int i=>k=(i != 0)
 | .str y=>y.length<=υ/\k=((y.length:Int) != 0)
 | .byt y=>y.size<=υ/\k=((y.size:Int) != 0)
 | .ref p=>(∃d,aG K H p d/\k=!d.isEmpty)∨(∃d,aC K H p d/\k=!d.isEmpty)∨∃e,H p=δ (.dK e)/\k=!e.isEmpty
 |_=>False
theorem Yk{d:Type}{k:List (d×V)}{v:List (d×η)}(r:KV k v):(!v.isEmpty)=!k.isEmpty:=by cases r<;>rfl
theorem KR(r:aw x i):(!i.toArray.isEmpty)=!x.isEmpty:=by cases r<;>simp
theorem dY:(υ:Nat) < 2 ^ 63:=by rw[Nx];decide
theorem CB:Fs X (λx H Q=>∃k,C6 X.K x H k/\Q k H):=by
 intro o s B H x v Q I R h;obtain⟨k,e,q⟩:=h;let C:=dY;let D:υ=16777216:=Nx;cases x with
 |non=>cases R;let E:k=ν:=e;subst E;exact truthy_none #[H,I,q]
 |bl b=>cases R;let E:k=b:=e;subst E;exact MY #[H,I,q]
 |int i=>obtain⟨t,rfl⟩:=R;let E:k=(i != 0):=e;subst E;exact PySem.P.truthy_int #[H,I,q]
 |str y=>obtain⟨t,rfl⟩:=R;obtain⟨z,E⟩:y.length<=υ/\k=((y.length:Int) != 0):=e;subst E;exact PySem.P.truthy_str Hz #[H,I.tok _,q]
 |byt y=>obtain⟨t,rfl⟩:=R;obtain⟨z,E⟩:y.size<=υ/\k=((y.size:Int) != 0):=e;subst E;exact PySem.W.truthy_bytes Hz #[H,I.tok _,q]
 |ref p=>
  cases R;let E:(∃g,aG X.K H p g/\k=!g.isEmpty)∨(∃g,aC X.K H p g/\k=!g.isEmpty)∨∃d,H p=δ (.dK d)/\k=!d.isEmpty:=e;rcases E with ⟨g,j,E⟩ | ⟨g,j,E⟩ | ⟨d,j,E⟩
  .subst E;obtain⟨l,r,n,u⟩:=I.list j;let f:=r.length;exact wpAny_truthy_list n.isList (by simp only[Ip];omega) #[H,I.tok _,by rw[KR r];exact q]
  .subst E;obtain⟨l,r,n,u⟩:=I.tuple j;let f:=r.length;exact truthy_tuple n (by simp only[Ip];omega) #[H,I.tok _,by rw[KR r];exact q]
  .subst E;obtain⟨u,A,V,r,m⟩:d.length<=υ/\(p==sysModules)=ν/\∃V,KV d V/\s.heap.DictOf (aO X.prog X.w) p V:=I.hok p _ j;let f:d.length=V.length:=Paired.length r;exact wpAny_truthy_dict A m Hz #[H,I.tok _,by rw[Yk r];exact q]
 |_=>exact(show False from e).elim
theorem sH(f:PE X a ta)(g:∀w,isTrue a X.env w=(do let v <- w;standAt a.pos;ym [v] (truthy v))):
  PT X a (λd H Q=>ta d H λx e=>∃k,C6 X.K x e k/\Q k e):=by
 intro p s d H Q I h;exact isTrue_plain (aL (f p s d H _ I h) λv S #[x,i,j,r,q]=>CB p S d i x v Q j r q)$ g _
theorem zL:gp X (binaryOp .Add) (λx y H Q=>∃i j,x= .str i/\y= .str j/\i.length+j.length<=υ/\Q (.str$ i++j) H):=by intro p s e H x y v u Q I r R h;obtain⟨i,j,rfl,rfl,d,q⟩:=h;obtain⟨t,rfl⟩:=r;obtain⟨T,rfl⟩:=R;exact add_str (λT f=>#[.str$ i++j,H,I.tok _,#[_,Z],q]) d
theorem eB(r:aw [x] U):∃u,U=[u]/\aB x u:=by
 cases r with
 |cons R d=>cases d;exact#[_,Z,R]
theorem EG(r:aw [x,y] U):∃u w,U=[u,w]/\aB x u/\aB y w:=by
 cases r with
 |cons R d=>
  cases d with
  |cons e f=>cases f;exact#[_,_,Z,R,e]
theorem Zy(e:X.calm=μ):dS X (.builtin "max") (λx H Q=>∃i j,x=[.int i,.int j]/\Q (.int (if j > i then j else i)) H):=by
 intro p s f H x U Q I r h;obtain⟨i,j,rfl,q⟩:=h;obtain⟨u,w,rfl,⟨t,rfl⟩,⟨T,rfl⟩⟩:=EG r;refine max_two_ints (I.ok.hd e) λg l k=>#[_,H,I.kept k,?_,q];by_cases d:j > i
 .rw[Iw d,Iw d];exact#[_,Z]
 .rw[Iy d,Iy d];exact#[_,Z]
theorem kG:dS X (.type "int") (λx H Q=>(∃i,x=[.int i]/\Q (.int i) H)∨∃k,x=[.bl k]/\Q (.int (if k then 1 else 0)) H):=by
 intro p s d H x U Q I r h;rcases h with ⟨i,rfl,q⟩ | ⟨k,rfl,q⟩
 .obtain⟨u,rfl,t,rfl⟩:=eB r;exact call_int_int #[.int i,H,I,#[_,Z],q]
 .obtain⟨u,rfl,R⟩:=eB r;cases R;exact call_int_bool #[.int (if k then 1 else 0),H,I.tok _,#[_,Z],q]
end
structure mM(h:fv)(x dx C:ε)(mA:π->Option η):Prop where
 obj:h.get? x=δ (instObj C dx)
 ns:h.Ns1 dx mA
 ne:dx≠x
theorem Zz{h:fv}(n:h.Ns1 d m):∃O,h.get? d=δ O/\∀name,lookIn name O=δ (m name):=by
 obtain⟨o,E,j,b,c,f,_,g⟩:=n;refine#[o,b,λname=>?_];let e:=g name;unfold nsFind findBy at e;rw[<- Array.find?_toList]at e;unfold lookIn;rw[c];dsimp only;split
 .rename_i y q
  rw[q]at e;exact LD δ e
 .rename_i q
  rw[q]at e;let a:E.toList.any (·.refKey)=ν:=by rw[PV];intro y i;obtain⟨z,t,H⟩:=f y (Array.mem_toList_iff.mp i);simp [DictEntry.refKey,H]
  let A:¬E.toList.any (·.refKey)=μ:=by rw[a];exact Iu
  rw[Iy A];exact LD δ e
theorem mM.look(I:mM h x d C m):∃o,PySem.W.InstAt h x (instObj C d) C (δ o)/\∀name,lookIn name o=δ (m name):=
 let #[o,H,a]:=Zz I.ns
 #[o,#[I.obj,Z,Z,H],a]
section
variable {prog:ψ}{w:dg}{A:ef}{E:η->θ->Prop}{s:θ}{K:Ω}{x dx C f:ε}{mA:π->Option η}{name:π}{v:η}
theorem vC{Q:η->θ->Prop}(X:K.In s.heap)(I:mM s.heap x dx C mA)(a:plainGet K C name=μ)(b:hasDictIn K C=μ)
  (c:findIn K (.ref C) name=δ ζ) (d:mA name=δ v) (H:PySem.W.handedIn v=μ) (h:Q v { s with toks:=s.toks+1 }):
  ξ (χ prog w) A (getAttr (.ref x) name e) Q E s:=by
 obtain⟨o,J,g⟩:=I.look;exact PySem.W.get_value X J (NM a).1 (PySem.W.findObj_own b c Z (by rw[g,d])) H h
theorem rh{Q:η×List η->θ->Prop}(X:K.In s.heap)(I:mM s.heap x dx C mA)(H:plainGet K C name=μ)
  (a:findIn K (.ref C) name=δ (δ$ .ref f)) (b:isFn K (.ref f)=μ) (c:mA name=ζ) (h:Q (.ref f,[.ref x]) s):
  ξ (χ prog w) A (getMethod (.ref x) name p) Q E s:=by
 obtain⟨o,J,d⟩:=I.look;exact PySem.W.method_fn X J (NM H).1 (NM H).2 a (beq_iff_eq.mp b) (by show(lookIn name o).map (·.isSome)=δ ν;rw[d,c];rfl) h
theorem xB{Q:Unit->θ->Prop}(X:K.In s.heap)(I:mM s.heap x dx C mA)
  (k:findIn K (.ref C) "__setattr__"=δ (δ$ .builtin "object.__setattr__")) (l:PySem.W.plainOver K C=μ) (m:HK K C name=δ ζ) (n:hasDictIn K C=μ)
  (o:PySem.Within mA N) (p:N.length<=υ)
  (h:∀d,mM d x dx C (λy=>if y=name then δ v else mA y)->kw dx s.heap d->Q () { s with heap:=d,toks:=s.toks+2 }):
  ξ (χ prog w) A (setAttr (.ref x) name v) Q E s:=by
 obtain⟨O,J,B⟩:=I.look;refine PySem.W.set_plain X J k$ PySem.W.osa_open (s:={ s with toks:=s.toks+1 }) (r:=ζ) X J l m λb=>?_;obtain⟨D,q,e⟩:=PySem.W.any_some n;let t:s.heap.get? x=δ #[.ref C,δ dx,.plain,(ι [])]:=I.obj;refine Ih$ Ij$ Ih$ Ih$ NZ t$ Ih$ R0 (s:={ s with toks:=s.toks+1 }) (PySem.W.looks_clsIn X q) ?_;rw[e];refine Ij (a:=δ dx)$ Ih$ Ij$ Ih ?_;refine wpAny_nsSet1 (s:={ s with toks:=s.toks+1 }) I.ns λd H c=>?_;obtain⟨F,u,z,g,i,j⟩:=H.count (Sn name v o);refine Ih$ wpAny_lookBehind g (by rw[i];exact pastItsLine_dict$ IB j (by rw[IL];omega)) ?_;exact Ij$ h _ #[(c.2 _$ IC I.ne).trans I.obj,H,I.ne] c
theorem rL{R:Result->θ->Prop}(X:K.In s.heap)(H:PySem.W.makesIn K C=μ)
  (b:findIn K (.ref C) "__init__"=δ (δ$ .ref f)) (c:typeIn K (.ref f)=δ (.type "function"))
  (h:xa (χ prog w) (A.under$ .builtin "type.__call__" #[.ref C::a,k]) (.call (.ref f) #[.ref (s.heap.objs.size+1)::a,k]) (PySem.W.InitBack (s.heap.objs.size+1) R)
   { s with heap:=(s.heap.push emptyDict).push (instObj C s.heap.objs.size) }):
  xa (χ prog w) A (.call (.ref C) #[a,k]) R s:=by
 obtain⟨e,g,d,t,os⟩:=s;exact PySem.W.make_core (PySem.W.makes_of X H) (PySem.W.looks_findIn X b) (λS=>PySem.W.bind_fn X S c) (.inl Z) h
end
def dZ(f:π)(v:V):List (π×V)->List (π×V)
 | []=>[(f,v)]
 | (g,x)::r=>if g=f then (g,v)::r else (g,x)::dZ f v r
theorem J2(f g:π)(v:V):∀F:List (π×V),(dZ f v F).lookup g=if g=f then δ v else F.lookup g
 | []=>by
  show oS g [(f,v)]=_;by_cases h:g=f
  .let H:(g==f)=μ:=beq_iff_eq.mpr h;simp only[oS,H,Iw h]
  .let H:(g==f)=ν:=beq_eq_false_iff_ne.mpr h;simp only[oS,H,Iy h]
 | (k,x)::r=>by
  let i:=J2 f g v r;rw[show dZ f v ((k,x)::r)=(if k=f then (k,v)::r else (k,x)::dZ f v r) from Z];by_cases a:k=f
  .rw[Iw a];by_cases h:g=k
   .let H:(g==k)=μ:=beq_iff_eq.mpr h;simp only[oS,H,Iw$ h.trans a]
   .let H:(g==k)=ν:=beq_eq_false_iff_ne.mpr h;simp only[oS,H,Iy (λe:g=f=>h (e.trans a.symm))]
  .rw[Iy a];by_cases h:g=k
   .let H:(g==k)=μ:=beq_iff_eq.mpr h;simp only[oS,H,Iy (λe:g=f=>a (h.symm.trans e))]
   .let H:(g==k)=ν:=beq_eq_false_iff_ne.mpr h;simp only[oS,H];exact i
theorem JR(f:π)(v:V):∀F:List (π×V),f∈(dZ f v F).map (·.1)/\∀g,g∈F.map (·.1)->g∈(dZ f v F).map (·.1)
 | []=>#[by simp [dZ],λg h=>by simp at h]
 | (k,x)::r=>by
  obtain⟨i,I⟩:=JR f v r;rw[show dZ f v ((k,x)::r)=(if k=f then (k,v)::r else (k,x)::dZ f v r) from Z];by_cases H:k=f
  .rw[Iw H];subst H;exact#[Hy,λg h=>by simpa using h]
  .rw[Iy H];refine#[?_,λg h=>?_]
   .rw[La];exact IK _ i
   .rw[La]at h ⊢;rcases Δ.mp h with e |e
    .exact Δ.mpr$ .inl e
    .exact IK _$ I g e
theorem J3(f:π)(v:V):∀F:List (π×V),(dZ f v F).length<=F.length+1
 | []=>by simp [dZ]
 | (k,x)::r=>by
  let i:=J3 f v r;rw[show dZ f v ((k,x)::r)=(if k=f then (k,v)::r else (k,x)::dZ f v r) from Z];by_cases h:k=f
  .rw[Iw h,IL,IL];omega
  .rw[Iy h,IL,IL];omega
theorem dR.some_of{v:V}{o:Option η}(r:dR (δ v) o):∃u,o=δ u/\aB v u:=by
 cases o with
 |none=>exact(show False from r).elim
 |some u=>exact#[u,Z,r]
theorem dR.none_of(r:dR ζ o):o=ζ:=by
 cases o with
 |none=>rfl
 |some u=>exact(show False from r).elim
theorem ZA(r:aB v u):PySem.W.handedIn u=μ:=by
 cases v with
 |non=>cases (show u=dr from r);rfl
 |bl b=>cases (show u=HR b from r);rfl
 |int i=>obtain⟨t,e⟩:=(show ∃t,u=FW i t from r);cases e;rfl
 |str x=>obtain⟨t,e⟩:=(show ∃t,u=FC x t from r);cases e;rfl
 |byt b=>obtain⟨t,e⟩:=(show ∃t,u=Value.bytes b t from r);cases e;rfl
 |flt b=>obtain⟨t,e⟩:=(show ∃t,u=Value.float b t from r);cases e;rfl
 |ref a=>cases (show u=Ξ a from r);rfl
 |ty n=>cases (show u=mu n from r);rfl
section
variable {P:ψ}{w:dg}{H H':Hp}{h h':fv}{a C dx:ε}{fs fs':List (π×V)}
theorem Q9(b:eK P w H h)(e:H a=δ (.ins C dx fs)):∃m,mM h a dx C m/\(∀f,dR (fs.lookup f)$ m f)/\PySem.Within m (fs.map (·.1))/\fs.length<=1000/\H dx=δ (.own a):=by obtain⟨d,z,N,o,m,n,r,q⟩:=(show aS P w H h a (.ins C dx fs) from b a _ e);exact#[m,#[o,n,N],r,q,z,d]
end
structure ph(K:Ω)(C:ε):Prop where
 pg:plainGet K C Str.empty=μ
 hd:hasDictIn K C=μ
 po:PySem.W.plainOver K C=μ
 sa:findIn K (.ref C) "__setattr__"=δ (δ$ .builtin "object.__setattr__")
theorem ph.get{K:Ω}(c:ph K C)(f:π):plainGet K C f=μ:=c.pg
def bP(K:Ω)(C:ε)(f:π):Prop:=findIn K (.ref C) f=δ ζ
theorem bP.taker{K:Ω}(n:bP K C f):HK K C f=δ ζ:=by unfold HK;rw[show findIn K (.ref C) f=δ ζ from n];rfl
structure cj(K:Ω)(C:ε)(m:π)(f:ε):Prop where
 at_:findIn K (.ref C) m=δ (δ$ .ref f)
 fn:isFn K (.ref f)=μ
 kp:rs K (.ref f)=μ
section
variable {X:Cx}{pins:List (ε×pz)}{σ:St}{H:Hp}{s:θ}{a C dx:ε}{fs:List (π×V)}{f:π}{v:V}{A:ef}{E:η->θ->Prop}
theorem KS{Q:η->θ->Prop}(I:aq X pins σ H s)(e:H a=δ (.ins C dx fs))(c:ph X.K C)(n:bP X.K C f)(l:fs.lookup f=δ v)
  (h:∀u S,aq X pins σ H S->aB v u->Q u S):ξ (χ X.prog X.w) A (getAttr (.ref a) f b) Q E s:=by
 obtain⟨m,O,r,_,_,_⟩:=Q9 I.hok e;obtain⟨u,d,R⟩:=dR.some_of (v:=v) (o:=m f) (by rw[<- l];exact r f);exact vC I.kIn O (c.get f) c.hd n d (ZA R)$ h u _ (I.tok _) R
theorem KU{Q:η×List η->θ->Prop}(I:aq X pins σ H s)(e:H a=δ (.ins C dx fs))(c:ph X.K C)(k:cj X.K C m g)(l:fs.lookup m=ζ)
  (h:Q (.ref g,[.ref a]) s):ξ (χ X.prog X.w) A (getMethod (.ref a) m p) Q E s:=by
 obtain⟨M,O,r,_,_,_⟩:=Q9 I.hok e;let b:M m=ζ:=dR.none_of (by rw[<- l];exact r m);exact rh I.kIn O (c.get m) k.at_ k.fn b h
theorem KW{Q:Unit->θ->Prop}(I:aq X pins σ H s)(e:H a=δ (.ins C dx fs))(c:ph X.K C)(n:bP X.K C f)(F:fs.length < 1000)(R:aB y u)
  (h:∀S,aq X pins σ (aj H a$ .ins C dx$ dZ f y fs) S->Q () S):ξ (χ X.prog X.w) A (setAttr (.ref a) f u) Q E s:=by
 obtain⟨m,O,r,W,_,i⟩:=Q9 I.hok e;let j:(fs.map (·.1)).length<=υ:=by rw[Ik,Nx];omega
 refine xB I.kIn O c.sa c.po n.taker c.hd W j λk d l=>h _ ?_;let p:∃o,k.get? dx=δ o:=let #[o,_,_,t,_]:=d.ns;#[o,t]
 refine I.write (x:=a) (e:=dx) (by rw[e];exact True.intro) (.inr i) (λb q B z=>(l.2 b B).trans z) p ?_;refine#[by rw[ji O.ne];exact i,?_,O.ne,d.obj,_,d.ns,λg=>?_,λg D=>?_]
 .let:=J3 f y fs;omega
 .show dR ((dZ f y fs).lookup g) (if g=f then δ u else m g);rw[J2];by_cases q:g=f
  .rw[Iw q,Iw q];exact R
  .rw[Iy q,Iy q];exact r g
 .by_cases q:g=f
  .rw[q];exact(JR f y fs).1
  .refine(JR f y fs).2 g (W g λz=>D ?_);show(if g=f then δ u else m g)=ζ;rw[Iy q];exact z
theorem aq.made(I:aq X pins σ H s):aq X pins σ (aj (aj H s.heap.objs.size$ .own$ s.heap.objs.size+1) (s.heap.objs.size+1)$ .ins C s.heap.objs.size [])
  { s with heap:=(s.heap.push emptyDict).push (instObj C s.heap.objs.size) }:=by
 let c:(s.heap.push emptyDict).get? s.heap.objs.size=δ emptyDict:=Ir s.heap Z;let d:((s.heap.push emptyDict).push$ instObj C s.heap.objs.size).get? (s.heap.objs.size+1)=δ (instObj C s.heap.objs.size):=by let:=Ir (s.heap.push emptyDict) (o:=instObj C s.heap.objs.size) Z;rwa [Lc]at this
 let g:(s.heap.push emptyDict).Ns s.heap.objs.size (λ_=>ζ):=#[emptyDict,(ι []),_,c,Z,(λe h=>absurd h Hy),λ_=>Z];let i:=I.laid (a:=s.heap.objs.size) (o:=.own (s.heap.objs.size+1)) (h':=s.heap.push emptyDict) (t':=s.toks) (λb u q=>Il _ q) (Im _) #[_,c];refine i.laid (a:=s.heap.objs.size+1) (o:=.ins C s.heap.objs.size []) (t':=s.toks) (λb u q=>Il _ q) (Od$ Lc _ _) ?_;let n:s.heap.objs.size≠s.heap.objs.size+1:=Iz (LO _);refine#[by rw[ji n,jc],Is _,n,d,λ_=>ζ,(Heap.Ns1.of_empty g).at λo q=>Il _ q,λ_=>True.intro,λy j=>absurd Z j]
theorem vf{f:π}{s:θ}(c:attributeBase e f b (eval e b)=eval e b)
  (h:ξ (χ p w) A (eval e b) (λo S=>ξ (χ p w) A (getAttr o f μ) Q E S) E s):ξ (χ p w) A (eval (.Attribute e f d) b) Q E s:=
 Attribute_any_ h (by rw[arm_eval_Attribute,c])
end
inductive yY(K:Ω)(f:π)(Q:VK)(x:V)(b:Hp):Prop
 |mk(a C c d v:_)(_:x= .ref a)(_:b a=δ (.ins C c d))(_:ph K C)(_:bP K C f)(_:d.lookup f=δ v)(_:Q v b)
def Gk(K:Ω)(t:TE)(f:π):TE:=λa H Q=>t a H (yY K f Q)
inductive yQ(K:Ω)(f:π)(D:a7)(e:St)(y x:V)(b:Hp):Prop
 |mk(a C c d:_)(_:x= .ref a)(_:b a=δ (.ins C c d))(_:ph K C)(_:bP K C f)(_:d.length < 1000)(_:D.nx e (aj b a (.ins C c (dZ f y d))))
def FY(K:Ω)(t T:TE)(f:π):TS:=λD a H=>T a H λy h=>t a h (yQ K f D a y)
def C1(X:Cx)(o:Operator)(r:V->V->Hp->VK->Prop):Prop:=
 ∀(p:List (ε×pz)) (s:θ) (a:St) (H:Hp) (x y:V) (u v:η) (Q:VK),aq X p a H s->aB x u->aB y v->r x y H Q->ξ (χ X.prog X.w) X.A (inplaceOp o u v) (EP X p a Q) X.xe s
inductive lW(K:Ω)(g:TE)(e:V->V->Hp->VK->Prop)(f:π)(D:a7)(h:St)(x:V)(b:Hp):Prop
 |mk(a C c d v:_)(_:x= .ref a)(_:b a=δ (.ins C c d))(_:ph K C)(_:bP K C f)(_:d.lookup f=δ v)(_:g h b λy H2=>e v y H2 λz H3=>∃dx' fs',H3 a=δ (.ins C dx' fs')/\fs'.length < 1000/\D.nx h (aj H3 a (.ins C dx' (dZ f z fs'))))
def wX(K:Ω)(t T:TE)(r:V->V->Hp->VK->Prop)(f:π):TS:=λD a H=>t a H (lW K T r f D a)
section
variable {X:Cx}{o e value:fr}{f:π}{pos pos' tpos:Pos}{ta tv:TE}
theorem zE(b:PE X e ta)(d:attributeBase e f X.env (eval e X.env)=eval e X.env):PE X (.Attribute e f pos) (Gk X.K ta f):=by intro p s g H Q I h;refine vf d$ aL (b p s g H _ I h) λu S z=>?_;obtain⟨x,i,j,r,a,C,D,F,v,E,k,c,n,l,q⟩:=z;subst E;obtain rfl:u=Ξ a:=r;exact KS j k c n l λU t m R=>#[v,i,m,R,q]
theorem qY(d:PE X o ta)(g:PE X value tv)(i:swapsWith value (δ$ .Attribute o f pos') pos.line X.env=pure ν):PS X (.Assign [.Attribute o f pos'] value pos) (FY X.K ta tv f):=by intro p s b H D I h;refine plainObj_wpAny_Assign_Attribute (aL (g p s b H _ I h) λu S #[y,j,k,r,q]=>aL (d p S b j _ k q) λO w z=>?_) i;obtain⟨x,A,m,R,a,C,B,F,E,t,c,n,l,Q⟩:=z;subst E;obtain rfl:O=Ξ a:=R;exact KW m t c n l r λG v=>#[b,_,v,Q]
theorem ZB{O:Operator}{r:V->V->Hp->VK->Prop}(i:PE X o ta)(j:PE X value tv)(g:C1 X O r):PS X (.AugAssign (.Attribute o f tpos) O value pos) (wX X.K ta tv r f):=by intro p s d H D I h;refine wpAny_AugAssign_AttributeAny$ aL (i p s d H _ I h) λk s1 b=>?_;obtain⟨x,m,t,R,a,C,dx,fs,v,w,A,c,n,l,q⟩:=b;subst w;obtain rfl:k=Ξ a:=R;refine KS t A c n l λu S B F=>aL (j p S d m _ B q) λW G #[y,J,L,M,Q]=>aL (g p G d J v y u W _ L F M Q) λw4 s4 b=>?_;obtain⟨z,H3,N,P,T,U,E,Y,q4⟩:=b;exact KW N E c n Y P λs5 I5=>#[d,_,I5,q4]
inductive D3(x y:V)(H:Hp)(Q:VK):Prop
 |mk(i j:_)(_:x= .int i)(_:y= .int j)(_:Q (.int (i+j)) H)
theorem AR:C1 X .Add D3:=by rintro p s a H x y u v Q I r R ⟨i,j,rfl,rfl,q⟩;obtain⟨t,rfl⟩:=(show ∃t,u=FW i t from r);obtain⟨T,rfl⟩:=(show ∃T,v=FW j T from R);exact SI #[.int$ i+j,H,I.tok _,#[_,Z],q]
end
structure bu(k:Nat)(A:ef):Prop where
 hd:A.handled=ζ
 dp:A.depth+3*k+5 < recursionLimit
 un:A.units+16*k+200 < cLine
theorem bu.mono(r:bu k A)(h:j<=k):bu j A:=#[r.hd,by let:=r.dp;omega,by let:=r.un;omega]
theorem bu.deeper(r:bu (k+1) A)(e:Env):bu k (A.deeper e):=
 #[r.hd,by let:=r.dp;show A.depth+1+3*k+5 < _;omega,by let:=r.un;show A.units+3+16*k+200 < _;omega]
theorem Yl{A:ef}:(A.under$ .builtin "type.__call__" #[.ref C::u,k]).depth=A.depth+1:=by
 first |rfl |simp [Around.under,Code.weight,Code.isCreation,Code.isGuard,Code.isCaller,Code.frames,Code.isFrame,guardIds]
theorem Ym{A:ef}:(A.under$ .builtin "type.__call__" #[.ref C::u,k]).units=A.units+1:=by
 first |rfl |simp [Around.under,Code.cUnits,Code.frames,Code.isFrame]
theorem bu.make(r:bu (k+1) A)(C:ε)(u:List η)(K:List (π×η)):bu k (A.under$ .builtin "type.__call__" #[.ref C::u,K]):=
 #[r.hd,by let:=r.dp;rw[Yl];omega,by let:=r.un;rw[Ym];omega]
theorem bu.depth(r:bu k A):A.depth < recursionLimit:=by let:=r.dp;omega
theorem bu.units(r:bu k A):A.units+64 < cLine:=by let:=r.un;omega
def aJ:TA:=λ_ H Q=>Q [] H
def al(t:TE)(T:TA):TA:=λa H Q=>t a H λx h=>T a h λX b=>Q (x::X) b
section
variable {X:Cx}{e:fr}{es:List fr}{te:TE}{t:TA}{pos:Pos}
theorem jb:PA X [] aJ:=λ_ _ _ _ H Q I h=>Mh #[[],H,I,.nil,h]
theorem ja(b:PE X e te)(c:PA X es t)(d:Θ (e::es) X.env=(ν,eval e X.env)::Θ es X.env:=by rfl):PA X (e::es) (al te t):=by intro pos p s a H Q I h;rw[d];show ξ _ _ (spliced ((ν,eval e X.env)::hY pos (Θ es X.env))) _ _ s;refine LB$ aL (b p s a H _ I h) λu S z=>?_;obtain⟨x,f,i,r,q⟩:=z;exact aL (c pos p S a f _ i q) λU m #[g,j,k,R,l]=>#[x::g,j,k,.cons r R,l]
def bJ(t:TA):TE:=λa H Q=>t a H λx h=>x.length<=υ/\∀p,h p=ζ->Q (.ref p) (aj h p$ .tup x)
def mw(t:TA):TE:=λa H Q=>t a H λx h=>x.length<=υ/\∀p,h p=ζ->Q (.ref p) (aj h p$ .lst x)
theorem jh{x}(h:PA X es t):PE X (.Tuple es x pos) (bJ t):=by intro p s c H Q I d;refine Ru$ aL (h pos p s c H _ I d) λU S #[f,a,i,r,z,q]=>#[by rw[<- r.length];exact z,?_];let g:a S.heap.objs.size=ζ:=i.hok.fresh (Im _);refine#[.ref S.heap.objs.size,aj a S.heap.objs.size$ .tup f,i.laid (t':=S.toks) (λb u e=>Il _ e) (Im _) ?_,Z,q _ g];exact#[z,U,r,#[_,Ir _ Z,Z,_,Z]]
theorem jG(h:PA X es t):PE X (.List es pos) (mw t):=by intro p s c H Q I d;refine wpAny_List_spliced$ aL (h pos p s c H _ I d) λU S #[x,a,i,r,z,q]=>#[by rw[<- r.length];exact z,?_];let f:a S.heap.objs.size=ζ:=i.hok.fresh (Im _);refine#[.ref S.heap.objs.size,aj a S.heap.objs.size$ .lst x,i.laid (t':=S.toks) (λb u e=>Il _ e) (Im _) ?_,Z,q _ f];exact#[z,U,0,r,Ir _ Z]
end
abbrev Sp:=List V->Hp->VK->XK->Prop
abbrev oB:=List Env->Hp->θ->XK->η->θ->Prop
structure mI(P:ψ)(w:dg)(K:Ω)(mg:π->Option η)(base:fv)(A:ef)(outer:List Env)(s:θ)(H:Hp):Prop where
 frames:A.frames=δ outer
 mod:Mod K mg base
 bs:∀b o,base.get? b=δ o->s.heap.get? b=δ o/\H b=ζ
 bsz:base.objs.size<=s.heap.objs.size
 funs:s.heap.FunFrames base outer
 frf:∀b∈hV outer,H b=ζ
 hok:eK P w H s.heap
 bare:AllBare s.gens
def CE(o:List Env)(P:ψ)(w:dg)(H:Hp)(s:θ)(Q:VK)(u:η)(S:θ):Prop:=
 ∃v h,S.os=s.os/\AllBare S.gens/\Un (hV o) [] H h s.heap S.heap/\eK P w h S.heap/\aB v u/\Q v h
def CR(C:oB)(o:List Env)(P:ψ)(w:dg)(H:Hp)(s:θ)(Q:VK)(E:XK)(r:Result)(S:θ):Prop:=
 match r with
 | .ok (.ret u)=>CE o P w H s Q u S
 | .ok _=>False
 | .error e=>C o H s E e S
structure ak(P:ψ)(w:dg)(K:Ω)(mg:π->Option η)(base:fv)(CX:oB)(k:Nat)(f:ε)(fd:bm)(ps:List π)(sp:Sp):Prop where
 len:∀vs H Q E,sp vs H Q E->vs.length=ps.length
 run:∀(A:ef) (outer:List Env) (s:θ) (H:Hp) (args:Args) (us:List η) (vs:List V) (Q:VK) (E:XK),bu k A->mI P w K mg base A outer s H->BindsTo s fd args (ps.zip us)->aw vs us->sp vs H Q E->
  xa (χ P w) A (.call (.ref f) args) (CR CX outer P w H s Q E) s
theorem mI.make{P:ψ}{K:Ω}(e:mI P w K m b A o s H)(C:ε)(u:List η)(k:List (π×η)):
  mI P w K m b (A.under$ .builtin "type.__call__" #[.ref C::u,k]) o s H:=#[by first |exact e.frames | (simpa [Around.under,Code.envs,Code.isFrame,pushEnvs] using e.frames),e.mod,e.bs,e.bsz,e.funs,e.frf,e.hok,e.bare]
section
variable {X:Cx}{pins:List (ε×pz)}{σ:St}{H:Hp}{s s':θ}
theorem aq.env0(I:aq X pins σ H s):mI X.prog X.w X.K X.mg X.base X.A X.stack s H:=
 #[I.ok.frames,I.ok.mod,I.bs,IB I.ok.bsz I.sz,I.stack,I.stkFree,I.hok,I.bare]
theorem aq.after(I:aq X pins σ H s)(h:CE X.stack X.prog X.w H s Q u s'):EP X pins σ Q u s':=by obtain⟨v,c,os,B,U,a,r,q⟩:=h;obtain⟨e,g,d,t,o⟩:=s';obtain rfl:o=s.os:=os;exact#[v,c,I.call (h':=e) (g':=g) (d':=d) (t':=t) (ch:=[]) U a B (λb z=>absurd z Hy),r,q]
end
def dP(s:Sp)(d:List V)(E:XK)(t:TA):TE:=λa H Q=>t a H λv h=>s (v++d) h Q E
inductive uo(C:ε)(m:π)(f:Sp)(b:List V)(E:XK)(t:TA)(g:St)(Q:VK)(x:V)(c:Hp):Prop
 |mk(a d e:_)(_:x= .ref a)(_:c a=δ (.ins C d e))(_:e.lookup m=ζ)(_:t g c λvs H2=>f (x::(vs++b)) H2 Q E)
def um(C:ε)(m:π)(s:Sp)(d:List V)(E:XK)(T:TE)(t:TA):TE:=λa H Q=>T a H (uo C m s d E t a Q)
def ED(C:ε)(s:Sp)(D:List V)(E:XK)(t:TA):TE:=λa H Q=>t a H λb h=>∀x d,h x=ζ->h d=ζ->d≠x->
 s (.ref x::(b++D)) (aj (aj h d$ .own x) x$ .ins C d []) (λv c=>v= .non/\Q (.ref x) c) E
def ay(K:Ω)(f:bm)(p:List π)(d:List η):Prop:=
 ∀(s:θ) (u:List η),K.In s.heap->(u++d).length=p.length->BindsTo s f #[u,[]] (p.zip$ u++d)
theorem ay.all{K:Ω}{p:List π}(h:∀u:List η,u.length=p.length->bindArgs f #[u,[]]=pure (p.zip u)):ay K f p []:=λs u _ H=>by rw[M1]at H ⊢;exact .of_eq$ h u H
def dy(C:oB)(X:Cx)(E:XK):Prop:=∀(p:List (ε×pz)) (a:St) (H:Hp) (s:θ) (e:η) (S:θ),aq X p a H s->C X.stack H s E e S->X.xe e S
section
variable {X:Cx}{CX:oB}{k:Nat}{f C:ε}{fd:bm}{ps:List π}{sp:Sp}{dvs:List V}{ds:List η}{E:XK}{x m:π}{p pos apos:Pos}{e o:fr}{es:List fr}{ta:TE}{t:TA}
theorem Q2{us:List η}{vs:List V}(F:ak X.prog X.w X.K X.mg X.base CX k f fd ps sp)(d:bu k X.A)(g:ay X.K fd ps ds)(i:aw dvs ds)(j:dy CX X E)
  (I:aq X a c H s) (r:aw vs us) (h:sp (vs++dvs) H Q E):ξ (χ X.prog X.w) X.A (call (.ref f) us) (EP X a c Q) X.xe s:=by
 let R:aw (vs++dvs) (us++ds):=r.append i;let l:(us++ds).length=ps.length:=by rw[<- R.length];exact F.len _ _ _ _ h
 refine Pb$ ML (F.run X.A X.stack s H #[us,[]] (us++ds) (vs++dvs) Q E d I.env0 (g s us I.kIn l) R h) λr S b=>?_;cases r with
 |error e=>exact j a c H s e S I b
 |ok n=>
  cases n with
  |ret u=>exact I.after b
  |next=>exact False.elim b
  |brk=>exact False.elim b
  |cont=>exact False.elim b
theorem kK(F:ak X.prog X.w X.K X.mg X.base CX k f fd ps sp)(c:bu k X.A)(d:Gl X x)(g:X.mg x=δ (.ref f))(j:rs X.K (.ref f)=μ)(l:ay X.K fd ps ds)(n:aw dvs ds)(u:dy CX X E)
  (v:PA X (e::es) t) (a:(x==("__debug__":π))=ν:=by decide) (y:Θ (e::es) X.env=(ν,eval e X.env)::Θ es X.env:=by rfl) (b:(hY pos$ Θ es X.env).any (·.1)=ν:=by rfl):
  PE X (.Call (.Name x p) (e::es) [] pos) (dP sp dvs E t):=by
 intro P s z H Q I h;refine Lk$ zu I d g ?_ a;refine Ol (h₀:=X.base) I.ok.mod.kin j (aL (v pos P s z H _ I h) λU S #[B,D,i,r,q]=>#[i.kIn,?_]) y b;exact Q2 F c l n u i r q
theorem za(v:PE X o ta)(c:ph X.K C)(g:cj X.K C m f)(F:ak X.prog X.w X.K X.mg X.base CX k f fd ps sp)(y:bu k X.A)(B:ay X.K fd ps ds)(D:aw dvs ds)(G:dy CX X E)(J:PA X (e::es) t)
  (b:Θ (e::es) X.env=(ν,eval e X.env)::Θ es X.env:=by rfl) (d:(hY pos$ Θ es X.env).any (·.1)=ν:=by rfl)
  (L:eval (.Call (.Attribute o m apos) (e::es) [] pos) X.env=(do
   let O <- eval o X.env
   standAt apos.atName
   let (f,first) <- ym [O] (getMethod O m pl)
   callWith pos f first (hY pos$ Θ (e::es) X.env) (backToKw pos$ keywordEach [] X.env)):=by rfl):
  PE X (.Call (.Attribute o m apos) (e::es) [] pos) (um C m sp dvs E ta t):=by
 intro P s i H Q I h;refine Nn (pl:=pl) (aL (v P s i H _ I h) λu S z=>?_) L;obtain⟨x,M,j,R,a,W,Y,N,T,l,q⟩:=z;subst N;obtain rfl:u=Ξ a:=R;refine KU j T c g l ?_;refine Ol (first:=[.ref a]) (h₀:=X.base) I.ok.mod.kin g.kp (aL (J pos P S i M _ j q) λus s2 #[vs,H2,n,r,U]=>#[n.kIn,?_]) b d;exact Q2 (us:=.ref a::us) (vs:=.ref a::vs) F y B D G n (.cons Z r) U
theorem sr(d:PE X o ta)(c:ph X.K C)(b:cj X.K C m f)(F:ak X.prog X.w X.K X.mg X.base CX k f fd ps sp)(g:bu k X.A)(j:ay X.K fd ps ds)(n:aw dvs ds)(r:dy CX X E)
  (v:eval (.Call (.Attribute o m apos) [] [] pos) X.env=(do
   let O <- eval o X.env
   standAt apos.atName
   let (f,first) <- ym [O] (getMethod O m pl)
   callWith pos f first (hY pos$ Θ [] X.env) (backToKw pos$ keywordEach [] X.env)):=by rfl):
  PE X (.Call (.Attribute o m apos) [] [] pos) (um C m sp dvs E ta aJ):=by
 intro P s y H Q I h;refine Nn (pl:=pl) (aL (d P s y H _ I h) λu S z=>?_) v;obtain⟨x,G,i,R,a,J,L,B,D,l,q⟩:=z;subst B;obtain rfl:u=Ξ a:=R;refine KU i D c b l ?_;exact O3 (first:=[.ref a]) i.kIn b.kp$ Q2 (us:=[.ref a]) (vs:=[.ref a]) F g j n r i (.cons Z .nil) q
structure Mk(K:Ω)(C f:ε):Prop where
 makes:PySem.W.makesIn K C=μ
 init:findIn K (.ref C) "__init__"=δ (δ$ .ref f)
 fn:isFn K (.ref f)=μ
 kp:rs K (.ref C)=μ
theorem sL(M:Mk X.K C f)(F:ak X.prog X.w X.K X.mg X.base CX k f fd ps sp)(l:bu (k+1) X.A)(n:ay X.K fd ps ds)(q:aw dvs ds)
  (y:dy CX X E) (I:aq X b c H s) (r:aw g U)
  (h:∀x d,H x=ζ->H d=ζ->d≠x->sp (.ref x::(g++dvs)) (aj (aj H d$ .own x) x$ .ins C d []) (λv z=>v= .non/\Q (.ref x) z) E):
  ξ (χ X.prog X.w) X.A (call (.ref C) U) (EP X b c Q) X.xe s:=by
 let j:=h (s.heap.objs.size+1) s.heap.objs.size (I.hok.fresh$ LU _) (I.hok.fresh$ Im _) (Iz$ LO _);let i:=aq.made (C:=C) I;let R:aw (HX (s.heap.objs.size+1)::(g++dvs)) (Ξ (s.heap.objs.size+1)::(U++ds)):=.cons Z (r.append q);let B:(Ξ (s.heap.objs.size+1)::U++ds).length=ps.length:=by let e:=R.length;rw[F.len _ _ _ _ j]at e;exact e.symm
 refine Pb (rL (f:=f) I.kIn M.makes M.init (beq_iff_eq.mp M.fn) (ML (F.run _ X.stack _ _ #[Ξ (s.heap.objs.size+1)::U,[]] (Ξ (s.heap.objs.size+1)::(U++ds)) _ _ E (l.make C U [])
  (i.env0.make C U []) (n _ (Ξ (s.heap.objs.size+1)::U) i.kIn B) R j) λr S a=>?_))
 cases r with
 |error e=>exact y b c _ _ e S i a
 |ok D=>
  cases D with
  |ret u=>obtain⟨v,G,J,L,N,O⟩:=i.after a;subst N;exact#[L,#[HX$ s.heap.objs.size+1,G,J,Z,O]]
  |next=>exact False.elim a
  |brk=>exact False.elim a
  |cont=>exact False.elim a
theorem Y1(M:Mk X.K C f)(F:ak X.prog X.w X.K X.mg X.base CX k f fd ps sp)(c:bu (k+1) X.A)(d:Gl X x)(g:X.mg x=δ (.ref C))(j:ay X.K fd ps ds)(l:aw dvs ds)(n:dy CX X E)
  (u:PA X (e::es) t) (a:(x==("__debug__":π))=ν:=by decide) (v:Θ (e::es) X.env=(ν,eval e X.env)::Θ es X.env:=by rfl) (b:(hY pos$ Θ es X.env).any (·.1)=ν:=by rfl):
  PE X (.Call (.Name x p) (e::es) [] pos) (ED C sp dvs E t):=by
 intro P s y H Q I h;refine Lk$ zu I d g ?_ a;refine Ol (h₀:=X.base) I.ok.mod.kin M.kp (aL (u pos P s y H _ I h) λU S #[z,B,i,r,q]=>#[i.kIn,?_]) v b;exact sL M F c j l n i r q
end
structure am(N P:List π)(sc:sB):Prop where
 kind:sc.kind= .function
 co:sc.isCoroutine=ν
 gen:sc.isGenerator=ν
 nd:N.Nodup
 pre:N.take P.length=P
 par:∀x∈P,sc.names.lookup x=δ .local∨sc.names.lookup x=δ .cell
 nofree:∀y∈sc.names,y.2≠ .free
theorem QD{kindOf:π->Option NameKind}:∀{b:List (π×η)} {m:π->Option η},(∀v,(x,v)∉b)->bindL kindOf b m x=m x
 | [],_,_=>rfl
 | (n,v)::r,m,h=>by
  unfold bindL;rw[QD λw H=>h w (IK _ H)];split
  .let:x≠n:=by rintro rfl;exact h v ID
   simp [this]
  .rfl
theorem QE{kindOf:π->Option NameKind}:∀{b:List (π×η)} {m:π->Option η},(∀v,(x,v)∉b)->bindC kindOf b m x=m x
 | [],_,_=>rfl
 | (n,v)::r,m,h=>by
  unfold bindC;rw[QE λw H=>h w (IK _ H)];split
  .rfl
  .let:x≠n:=by rintro rfl;exact h v ID
   simp [this]
theorem QF{kindOf:π->Option NameKind}:∀{P:List π} {V:List η} {i:Nat} {m:π->Option η},P.Nodup->P[i]?=δ x->V[i]?=δ v->kindOf x=δ .local->
  bindL kindOf (P.zip V) m x=δ v
 | [],_,_,_,_,h,_,_=>by simp at h
 |_::_,[],_,_,_,_,h,_=>by simp at h
 |p::P,w::V,0,m,n,H,a,b=>by simp at H a;subst H;subst a;show bindL kindOf ((p,w)::P.zip V) m p=_;unfold bindL;rw[QD λv c=>(tT.mp n).1 (NB c).1,Iw b];simp
 |p::P,w::V,i+1,m,n,H,a,b=>by show bindL kindOf ((p,w)::P.zip V) m x=_;unfold bindL;exact QF (i:=i) (tT.mp n).2 (by simpa using H) (by simpa using a) b
theorem QG{kindOf:π->Option NameKind}:∀{P:List π} {V:List η} {i:Nat} {m:π->Option η},P.Nodup->P[i]?=δ x->V[i]?=δ v->kindOf x≠δ .local->
  bindC kindOf (P.zip V) m x=δ v
 | [],_,_,_,_,h,_,_=>by simp at h
 |_::_,[],_,_,_,_,h,_=>by simp at h
 |p::P,w::V,0,m,n,H,a,b=>by simp at H a;subst H;subst a;show bindC kindOf ((p,w)::P.zip V) m p=_;unfold bindC;rw[QE λv c=>(tT.mp n).1 (NB c).1,Iy b];simp
 |p::P,w::V,i+1,m,n,H,a,b=>by show bindC kindOf ((p,w)::P.zip V) m x=_;unfold bindC;exact QG (i:=i) (tT.mp n).2 (by simpa using H) (by simpa using a) b
def gn(N:List π)(v:List V):St:=v.map δ++xb (N.length - v.length) ζ
def fc(C:oB)(P:ψ)(w:dg)(K:Ω)(mg:π->Option η)(base:fv)(N:List π)(q:π)(S:sB)(f:ε)(c:η)(A:ef)(outer:List Env)(s:θ)(H:Hp)(E:XK):Cx where
 prog:=P
 w:=w
 K:=K
 mg:=mg
 base:=base
 A:=A.deeper (envOfC q S s.heap.objs.size f c)
 N:=N
 s₀:=s
 H₀:=H
 env:=envOfC q S s.heap.objs.size f c
 outer:=outer
 stack:=envOfC q S s.heap.objs.size f c::outer
 ex:=[]
 calm:=μ
 fn:=λ_=>μ
 pn:=[]
 xe:=λe b=>ξ (χ P w) (A.deeper$ envOfC q S s.heap.objs.size f c) (leaving (envOfC q S s.heap.objs.size f c) e) (λ_ a=>C outer H s E e a) (λd a=>C outer H s E d a) b
theorem Xv{s:sB}{n:Nat}(h:s.names.lookup x=δ .cell):∃c,(cellsFrom n s.names []).lookup x=δ c:=by let q:=OJ s.names n [] (.inl h);exact FA.mp q
theorem ZC{P:ψ}{K:Ω}{A:ef}{l:List V}
  (S:am N t d) (O:A.handled=ζ) (j:mI P w K M B A o s H) (hl:l.length=t.length) (r:aw l U)
  (x:InCallC s s.heap.objs.size (bindL (envOfC Q d s.heap.objs.size f I).kindOf (t.zip U) λ_=>ζ) (cellsFrom (s.heap.objs.size+1) d.names []) (bindC (envOfC Q d s.heap.objs.size f I).kindOf (t.zip U) λ_=>ζ) T):
  aq (fc Y P w K M B N Q d f I A o s H E) [] (gn N l) H T:=by
 let R:t.length<=N.length:=by let:=LD List.length S.pre;rw[IU]at this;omega
 obtain⟨F,tk,rfl,J⟩:=x.done;let m:∀b:ε,b∉(fc Y P w K M B N Q d f I A o s H E).ex:=λb z=>absurd (show b∈([]:List ε) from z) Hy;refine#[#[j.mod,S.kind,Z,Z,Im _,λy z c F g=>?_,λy hy=>?_,λy c _ h=>?_,λ_=>O,Around.frames_deeper j.frames,.inr #[Z,Z],λb z=>absurd z (m b),j.bs,j.bsz,λb _ _=>m b,λb z=>absurd z (m b),j.funs,j.frf],
  rfl,j.bare,Un.kept J,#[_,x.toInCall.ns,λi y v F g h3=>?_],λy c h=>#[_,x.cell y c h],j.hok.fresh$ Im _,λy c h=>?_,λp C=>absurd (show p∈([]:List (ε×pz)) from C) Hy,j.hok.kept J,?_]
 .exact name_of_addr x.apart (LK F)$ LK g
 .let hy:d.names.lookup y=δ .cell∨d.names.lookup y=δ .free:=hy;rcases hy with hy |hy
  .exact Xv hy
  .exact absurd Z$ S.nofree _$ LK hy
 .exact MF$ x.above y c$ LK h
 .let G:i < l.length:=by
   unfold gn at g;by_cases G:i < l.length
   .exact G
   .rw[LN (by simpa using G)]at g;rw[O1]at g;split at g<;>cases g
  let W:l[i]?=δ v:=by
   unfold gn at g;rw[Mf (by simpa using G),Iv]at g;cases e:l[i]? with
   |none=>rw[e]at g;cases g
   |some a=>rw[e]at g;cases g;rfl
  obtain⟨u,L,X⟩:=r.get W;let C:t[i]?=δ y:=by rw[<- S.pre,List.getElem?_take_of_lt Hz];exact F
  let D:t.Nodup:=by rw[<- S.pre];exact S.nd.sublist$ Mi _ _
  refine#[u,X,?_];rcases S.par y (IA C) with k |k
  .exact .inl #[k,QF D C L k]
  .obtain⟨c,e⟩:=Xv (n:=s.heap.objs.size+1) k;refine .inr #[.inl k,c,e,?_];let q:=x.cell y c e;rw[QG D C L (by show d.names.lookup y≠_;rw[k];decide)]at q;exact q
 .exact j.hok.fresh$ MF$ x.above y c$ LK h
 .unfold gn;show _=N.length;rw[Io,Ik,NH];omega
theorem yv{P:ψ}{K:Ω}{kV:η}
    {G:Sp} (lk:K.lookup f=δ #[oc,od,.func$ HU name c p h a dV kV L pm an C ct,o1]) (M:codeIn K C c=μ) (S:am N T a)
  (len:∀d H Q E,G d H Q E->d.length=T.length)
  (j:∀(A:ef) (O:List Env) (s:θ) (H:Hp) (d:List V) (Q:VK) (E:XK),bu k (A.deeper$ envOfC c a s.heap.objs.size f C)->G d H Q E->
   ∃t,lS (fc U P w K Y B N c a f C A O s H E) h t/\t { nx:=λ_ i=>Q .non i,rt:=Q } (gn N d) H):
  ak P w K Y B U (k+1) f (HU name c p h a dV kV L pm an C ct) T G:=by
 refine#[len,λA O s H a0 us d Q E R z hb r D=>?_];let hl:=len _ _ _ _ D;let KX:K.In s.heap:=z.mod.kin.keeps λb o e=>(z.bs b o e).1;let X:s.heap.NoLimit:=z.mod.nolimit.keeps λb o e=>(z.bs b o e).1;let l:∀y∈T.zip us,a.names.lookup y.1=δ .local∨(a.names.lookup y.1=δ .cell/\((cellsFrom (s.heap.objs.size+1) a.names []).lookup y.1).isSome=μ):=λ#[n,v] hy=>by
  rcases S.par n (NB hy).1 with q |q
  .exact .inl q
  .exact .inr #[q,OJ _ _ _$ .inl q]
 refine codeAny_call_function R.depth (KX _ _ lk) Z S.co S.gen Z (PySem.W.codeRec_of KX M)$ hb _ _ _ _ ?_;refine wpAny_newFunctionEnv_cells S.kind l λe1 he s1 x=>?_;subst he;refine#[X.keeps x.toInCall.keep,codeAny_func ?_];obtain⟨t,ht,hq⟩:=j A O s H d Q E (R.deeper _) D;let I:aq (fc U P w K Y B N c a f C A O s H E) [] (gn N d) H s1:=ZC S R.hd z hl r x;refine Lj (ht [] s1 (gn N d) H _ I hq) (λfl s' m=>?_) λe s' m=>m;let F:∀{g:St} {i:Hp} {v:V} {u:η},aq (fc U P w K Y B N c a f C A O s H E) [] g i s'->aB v u->Q v i->CE O P w H s Q u s':=
  λ{g i v u} J rv q=>#[v,i,J.os,J.bare,J.base,J.hok,rv,q]
 cases fl with
 |ret u=>obtain⟨v,g,i,J,rv,q⟩:=m;exact F J rv q
 |next=>obtain⟨g,i,J,q⟩:=m;exact F (v:=V.non) (u:=dr) J Z q
 |brk=>obtain⟨_,_,_,q⟩:=m;exact False.elim q
 |cont=>obtain⟨_,_,_,q⟩:=m;exact False.elim q
section
variable {X:Cx}{x:π}{p pos:Pos}{e:fr}{es:List fr}{t:TA}{id T:String}{r:List V->Hp->VK->Prop}
def Fd(r:List V->Hp->VK->Prop)(t:TA):TE:=λa H Q=>t a H λv h=>r v h Q
theorem jS(d:dS X (.builtin id) r)(f:Gl X x)(g:X.mg x=ζ)(i:bootBuiltins x=δ (.builtin id))(j:PA X (e::es) t)(k:x≠"__name__":=by decide)(a:(x==("__debug__":π))=ν:=by decide)
  (l:Θ (e::es) X.env=(ν,eval e X.env)::Θ es X.env:=by rfl) (b:(hY pos$ Θ es X.env).any (·.1)=ν:=by rfl):PE X (.Call (.Name x p) (e::es) [] pos) (Fd r t):=by
 intro P s c H Q I h;refine Lk$ qr I f g i ?_ k a;exact SK (aL (j pos P s c H _ I h) λu S #[v,m,n,R,q]=>d P S c m v u Q n R q) l b
theorem jC(d:dS X (.type T) r)(f:Gl X x)(g:X.mg x=ζ)(i:bootBuiltins x=δ (.type T))(j:PA X (e::es) t)(k:x≠"__name__":=by decide)(a:(x==("__debug__":π))=ν:=by decide)
  (l:Θ (e::es) X.env=(ν,eval e X.env)::Θ es X.env:=by rfl) (b:(hY pos$ Θ es X.env).any (·.1)=ν:=by rfl):PE X (.Call (.Name x p) (e::es) [] pos) (Fd r t):=by
 intro P s c H Q I h;refine Lk$ qr I f g i ?_ k a;exact Li (aL (j pos P s c H _ I h) λu S #[v,m,n,R,q]=>d P S c m v u Q n R q) l b
end
end _L
namespace HT
open PySem PyProof.Rows
theorem eqAt_int(A:ef)(s:θ)(a:Int)(t:Tok)(c:Int)(u:Tok):∃e,SeqAt.EqAt A s (.int a t) (.int c u) e/\(e=μ↔a=c):=
 #[(a==c),OU a t c u,Hy]
section
variable {prog:ψ}{w:dg}{A:ef}{E:η->θ->Prop}{s:θ}
theorem cat_tup{v W:List η}{Q:η->θ->Prop}(m:IsTup s.heap t v.toArray)(o:IsTup s.heap b W.toArray)(i:v≠[])
  (p:W=[]->Q (.ref t) s) (q:W≠[]->Q (.ref s.heap.objs.size) { s with heap:=s.heap.push { cls:=.type "tuple",data:=.seq (v++W).toArray } })
  (g:v.length+W.length<=υ):ξ (χ prog w) A (binaryOp .Add (.ref t)$ .ref b) Q E s:=by
 obtain⟨⟨cls,D,data,j⟩,c,k,n,l⟩:=id m;obtain⟨⟨C,d,data2,S⟩,h,H,N,a⟩:=id o;simp only at k l H a;subst k l H a;let e:v.toArray++W.toArray=(v++W).toArray:=by simp
 by_cases f:W=[]
 .exact PR #[_,c,Z] #[_,h,Z] OH Po Nl Na (M' _ _)
   (tuple_addW1 t b v.toArray W.toArray n N D d j S (by simpa using i) (by simp [f])) #[c,h,p f]
 .refine PR #[_,c,Z] #[_,h,Z] OH Po Nl Na (M' _ _)
   (tuple_addW2 t b v.toArray W.toArray n N D d j S (by simpa using i) (by simpa using f) (by rw[Ip,Ip];exact g)) #[c,h,?_]
  rw[e];exact q f
def sIx(n d:Nat):Option Int->Nat
 |none=>d
 |some v=>if v < 0 then (v+(n:Int)).toNat else min v.toNat n
theorem sIx_none(n d:Nat):sIx n d ζ=d:=rfl
theorem sIx_nat(n d k:Nat):sIx n d (δ (k:Int))=min k n:=by show(if (k:Int) < 0 then ((k:Int)+(n:Int)).toNat else min (k:Int).toNat n)=min k n;rw[Iy Hz,Lv]
theorem BS(n d:Nat)(H:d<=n)(o:Option Int):sIx n d o<=n:=by
 cases o with
 |none=>exact H
 |some v=>
  show(if v < 0 then (v+(n:Int)).toNat else min v.toNat n)<=n;by_cases h:v < 0
  .rw[Iw h];omega
  .rw[Iy h];exact Nat.min_le_right _ _
theorem Y2(v:Int)(n d:Nat):(if v < 0 then max (v+(n:Int)) 0 else min v (n:Int))=((sIx n d (δ v):Nat):Int):=by
 show(if v < 0 then max (v+(n:Int)) 0 else min v (n:Int))=(((if v < 0 then (v+(n:Int)).toNat else min v.toNat n):Nat):Int);by_cases h:v < 0
 .simp only[Iw h];omega
 .simp only[Iy h];omega
theorem Yn(lo h:Option Int)(n:Nat):BT lo h 1 (n:Int)=(((sIx n 0 lo:Nat):Int),((sIx n n h:Nat):Int)):=by
 let H:¬((1:Int) < 0):=by omega
 unfold BT;simp only[H,LC];refine Prod.ext ?_ ?_
 .cases lo with
  |none=>rfl
  |some v=>exact Y2 v n 0
 .cases h with
  |none=>rfl
  |some v=>exact Y2 v n n
theorem Yo(i j:Nat):ro (i:Int) (j:Int) 1=j - i:=by
 unfold ro;let h:(1:Int) > 0:=by omega
 simp only[h,M4,Int.ediv_one];split<;>omega
theorem KY{Q:Option Int->θ->Prop}(p:IsPart v o)(h:Q o s):ξ (χ prog w) A (Builtin.Slice.slicePartIndex v) Q E s:=by
 cases p with
 |none=>exact SQ h
 |int i t=>exact slicePart_int h
theorem sliceApplied_gen{lo:Option Int}{Q:Int×Int×Nat->θ->Prop}(d:s.heap.IsSliceOf e v c .none)(p:IsPart v lo)(P:IsPart c b)
  (h:Q (((sIx n 0 lo:Nat):Int),1,sIx n n b - sIx n 0 lo) s):ξ (χ prog w) A (HC (.ref e)$ pure (n:Int)) Q E s:=by
 obtain⟨os,H,f,a⟩:=id d;unfold HC Builtin.Slice.sliceFields;refine Ih$ Ih$ IS H a (x:=v) Z$ Ih$ IS H a (x:=c) Z$ Ih$ IS H a (x:=.none) Z$ Ij ?_;refine Ih$ SQ ?_;show ξ _ _ (if ((1:Int)==0)=μ then _ else _) _ _ s;rw[Iy HA];refine Ih$ KY p$ Ih$ KY P$ Ih$ Ij ?_;show ξ _ _ (match BT lo b 1 (n:Int) with | (lo,b)=>pure (lo,(1:Int),ro lo b 1)) _ _ s;rw[Yn lo b n];show ξ _ _ (pure (((sIx n 0 lo:Nat):Int),(1:Int),ro ((sIx n 0 lo:Nat):Int) ((sIx n n b:Nat):Int) 1)) _ _ s;rw[Yo];exact Ij h
theorem sE(X:Array η)(i k:Nat):((ru k).filterMap λ(m:Nat)=>X[((i:Int)+(m:Int)*1).toNat]?).toArray=((X.toList.drop i).take k).toArray:=by
 let e:(λ(m:Nat)=>X[((i:Int)+(m:Int)*1).toNat]?)=λm=>X[i+m]?:=by
  funext m;let:((i:Int)+(m:Int)*1).toNat=i+m:=by omega
  rw[this]
 rw[e];let:=pick_run X i k;rw[List.filterMap_map]at this;let a:((λx=>X[x]?) ∘ λx=>i+x)=λm=>X[i+m]?:=rfl;rw[a]at this;rw[this]
theorem getItem_tuple_cut{lo:Option Int}{Q:η->θ->Prop}(ht:IsTup s.heap t items)(hs:s.heap.IsSliceOf sl vl vu .none)(pl:IsPart vl lo)(pu:IsPart vu hi)
  (hw:¬(sIx items.size 0 lo=0/\sIx items.size items.size hi=items.size))
  (h:Q (.ref s.heap.objs.size) { s with heap:=s.heap.push { cls:=.type "tuple",data:=.seq ((items.toList.drop$ sIx items.size 0 lo).take$ sIx items.size items.size hi - sIx items.size 0 lo).toArray } })
  (hsz:items.size<=υ):ξ (χ prog w) A (getItem (.ref t)$ .ref sl) Q E s:=by
 let htake:sizeOk (.seq ((items.toList.drop$ sIx items.size 0 lo).take$ sIx items.size items.size hi - sIx items.size 0 lo).toArray):=by show((items.toList.drop$ sIx items.size 0 lo).take$ sIx items.size items.size hi - sIx items.size 0 lo).toArray.size<=υ;rw[Ip,IU,L9,IP];omega
 let hj:sIx items.size items.size hi<=items.size:=BS _ _ (Im _) hi;obtain⟨os,hos,hcs,hds⟩:=id hs;let hTs:s.TypeIs (.ref sl) "slice":=#[os,hos,hcs];unfold getItem;try with_reducible refine IM ?_
 first |refine Ih (Ij ?_) |skip
 refine Ih$ Ot ht.typeIs HA ?_;refine Ih (IY (name:=Str.ofString "__getitem__") ht.typeIs Mc
  (I0 Mc ht.typeIs entry_tuple_getitem ?_$ args_tuple_getitem _ _))
 show ξ _ _ (HE (.ref t) >>= _) _ _ s;refine Ih$ tupleItemsOf_ ht ?_;refine Ih$ Mb hTs ?_;rw[Iw HA];refine Ih$ sliceApplied_gen hs pl pu ?_;let hno:¬((((sIx items.size 0 lo:Nat):Int)==0&&(1:Int)==1&&(sIx items.size items.size hi - sIx items.size 0 lo)==items.size)=μ):=by intro q;rw[Ly,Ly]at q;let q1:((sIx items.size 0 lo:Nat):Int)=0:=eq_of_beq q.1.1;let q2:sIx items.size items.size hi - sIx items.size 0 lo=items.size:=eq_of_beq q.2;exact hw #[Hz,Hz]
 show ξ _ _ (if (((sIx items.size 0 lo:Nat):Int)==0&&(1:Int)==1&&(sIx items.size items.size hi - sIx items.size 0 lo)==items.size)=μ then _ else _) _ _ s;rw[Iy hno,sE];first
  |exact Ih (m:=fJ _) (I9 (Ij #[_,Z,Ij h]) htake)
  |exact Ih (m:=fJ _) (I9 (Ih (Ij (Ij #[_,Z,Ij h]))) htake)
  |exact Ih (Ih (m:=fJ _) (I9 (Ij (Ij #[_,Z,Ij h])) htake))
  |exact Ih (Ih (m:=fJ _) (I9 (Ij #[_,Z,Ij h]) htake))
end
end HT
namespace _L
open PySem PySem.Spec PyProof.Rows
abbrev TO:=St->Hp->(Option Int->Hp->Prop)->Prop
def PO(X:Cx)(e:Option fr)(t:TO):Prop:=
 ∀(p:List (ε×pz)) (s:θ) (a:St) (H:Hp) (Q:Option Int->Hp->Prop),aq X p a H s->t a H Q->
  ξ (χ X.prog X.w) X.A (evalPart e X.env) (λu S=>∃o h,aq X p a h S/\IsPart u o/\Q o h) X.xe s
def lP:TO:=λ_ H Q=>Q ζ H
inductive ur(Q:Option Int->Hp->Prop)(x:V)(a:Hp):Prop
 |mk(i:_)(_:x= .int i)(_:Q (δ i) a)
def mx(t:TE):TO:=λa H Q=>t a H (ur Q)
section
variable {X:Cx}{e:fr}{te:TE}{lo hi:Option fr}{tl th:TO}{pos p2:Pos}
theorem kL:PO X ζ lP:=by intro p s a H Q I h;rw[evalPart_none];exact Ij #[ζ,H,I,.none,h]
theorem jI(h:PE X e te):PO X (δ e) (mx te):=by intro p s a H Q I b;rw[evalPart_some];refine aL (h p s a H _ I b) λu S z=>?_;obtain⟨x,c,d,r,f⟩:=z;obtain⟨i,rfl,q⟩:=f;obtain⟨t,rfl⟩:=r;exact#[δ i,c,d,.int i t,q]
def EV(X:Cx)(r:V->Option Int->Option Int->Hp->VK->Prop):Prop:=
 ∀(p:List (ε×pz)) (s:θ) (a:St) (H:Hp) (x:V) (v b c:η) (lo hi:Option Int) (S:ε) (Q:VK),aq X p a H s->aB x v->s.heap.IsSliceOf S b c .none->IsPart b lo->IsPart c hi->r x lo hi H Q->
  ∃T id,typeLookup (.type T) "__getitem__"=pure (δ$ .builtin id)/\s.TypeIs v T/\ξ (χ X.prog X.w) X.A (getItem v$ .ref S) (EP X p a Q) X.xe s
def Fe(r:V->Option Int->Option Int->Hp->VK->Prop)(te:TE)(tl th:TO):TE:=λa H Q=>te a H λx h=>tl a h λl b=>th a b λu c=>r x l u c Q
theorem jK{r:V->Option Int->Option Int->Hp->VK->Prop}(g:EV X r)(i:PE X e te)(j:PO X lo tl)(k:PO X hi th):PE X (.Subscript e (.Slice lo hi ζ p2) pos) (Fe r te tl th):=by intro p s a H Q I h;refine RL$ aL (i p s a H _ I h) λv m z=>?_;obtain⟨x,n,o,R,t⟩:=z;refine wpAny_Slice$ aL (j p m a n _ o t) λc y #[l,B,C,P,D]=>aL (k p y a B _ C D) λd S z=>?_;obtain⟨u,f,E,F,G⟩:=z;rw[evalPart_none];refine Ij ?_;let J:aq X p a f { S with heap:=S.heap.push { cls:=.type "slice",data:=.fields (ι [c,d,.none]) } }:=E.kept (t':=S.toks) λb O q=>Il _ q;obtain⟨T,id,K,L,M⟩:=g p { S with heap:=S.heap.push { cls:=.type "slice",data:=.fields (ι [c,d,.none]) } } a f x v c d l u S.heap.objs.size Q J R (Op ..) P F G;show ξ (χ X.prog X.w) X.A (subscriptTail e (.Slice lo hi ζ p2) v$ .ref S.heap.objs.size) (EP X p a Q) X.xe { S with heap:=S.heap.push { cls:=.type "slice",data:=.fields (ι [c,d,.none]) } };exact tail_any (ops:=[.ref S.heap.objs.size,v]) L K M (by with_unfolding_all rfl)
def aX(x:List V)(lo hi:Option Int):List V:=(x.drop$ HT.sIx x.length 0 lo).take (HT.sIx x.length x.length hi - HT.sIx x.length 0 lo)
theorem zk(x:List V)(lo hi:Option Int):(aX x lo hi).length<=x.length:=by unfold aX;rw[IU,L9];omega
inductive D8(K:Ω)(x:V)(c b:Option Int)(H:Hp)(Q:VK):Prop
 |mk(a d:_)(_:x= .ref a)(_:aC K H a d)(_:¬(HT.sIx d.length 0 c=0/\HT.sIx d.length d.length b=d.length))(_:∀p,H p=ζ->Q (.ref p) (aj H p (.tup (aX d c b))))
theorem Cm:EV X (D8 X.K):=by
 intro p s n H x v V t lo hi S Q I R j P k h;obtain⟨a,d,rfl,l,m,q⟩:=h;cases R;obtain⟨i,r,f,g⟩:=I.tuple l;let c:i.toArray.size=d.length:=by rw[Ip];exact r.length.symm
 refine#["tuple",_,PyProof.Rows.slot_tuple_getitem.lookup,f.typeIs,?_];refine HT.getItem_tuple_cut f j P k (by rw[c];exact m) ?_ (by rw[c];exact g);rw[c];refine#[.ref s.heap.objs.size,_,I.laid (t':=s.toks) (o:=.tup (aX d lo hi)) (λb O q=>Il _ q) (Im _) ?_,Z,q _$ I.hok.fresh$ Im _];exact#[IB (zk d lo hi) g,_,(r.drop$ HT.sIx d.length 0 lo).take$ HT.sIx d.length d.length hi - HT.sIx d.length 0 lo,PX _ _]
inductive yN(K:Ω)(x y:V)(H:Hp)(Q:VK):Prop
 |mk(a b c d:_)(_:x= .ref a)(_:y= .ref b)(_:aC K H a c)(_:aC K H b d)(_:c≠[])(_:c.length+d.length<=υ)(_:d=[]->Q (.ref a) H)(_:d≠[]->∀p,H p=ζ->Q (.ref p) (aj H p (.tup (c++d))))
theorem aw.nil_iff(r:aw x u):u=[]↔x=[]:=by
 cases r with
 |nil=>simp
 |cons _ _=>simp
theorem ww:gp X (binaryOp .Add) (yN X.K):=by intro p s A H x y v u Q I d f h;obtain⟨a,b,g,Y,rfl,rfl,j,k,l,c,m,n⟩:=h;cases d;cases f;obtain⟨t,R,P,_⟩:=I.tuple j;obtain⟨i,r,p2,_⟩:=I.tuple k;refine HT.cat_tup P p2 (λz=>l (R.nil_iff.mp z)) (λz=>#[.ref a,H,I,Z,m$ r.nil_iff.mp z]) (λz=>?_) (by rw[<- R.length,<- r.length];exact c);refine#[.ref s.heap.objs.size,_,I.laid (t':=s.toks) (o:=.tup (g++Y)) (λb O q=>Il _ q) (Im _) ?_,Z,n (λw=>z (r.nil_iff.mpr w)) _$ I.hok.fresh$ Im _];exact#[by rw[Io];exact c,_,R.append r,PX _ _]
end
def mQ(n:Nat)(i:Int):Option Nat:=if 0<=i then (if i < n then δ i.toNat else ζ) else if -(n:Int)<=i then δ (i+n).toNat else ζ
def dC{a:Type}(x:List a)(i:Int):Option a:=(mQ x.length i).bind λj=>x[j]?
theorem Y3(h:mQ n i=δ j):seqIndex? i n=δ j/\j < n/\ -(n:Int)<=i/\i < n:=by
 unfold mQ at h;by_cases a:0<=i
 .rw[Iw a]at h;by_cases H:i < n
  .rw[Iw H]at h;let e:i.toNat=j:=K' h;exact#[by rw[Rk a H,e],Hz,Hz,H]
  .rw[Iy H]at h;cases h
 .rw[Iy a]at h;by_cases H: -(n:Int)<=i
  .rw[Iw H]at h;let e:(i+n).toNat=j:=K' h;exact#[by rw[PM Hz H,e],Hz,H,Hz]
  .rw[Iy H]at h;cases h
theorem Xa{a:Type}{x:List a}{v:a}(h:dC x i=δ v):∃j,seqIndex? i x.length=δ j/\x[j]?=δ v/\j < x.length/\ -(x.length:Int)<=i/\i < x.length:=by
 unfold dC at h;cases e:mQ x.length i with
 |none=>rw[e]at h;cases h
 |some j=>rw[e]at h;obtain⟨H,b,c,d⟩:=Y3 e;exact#[j,H,h,b,c,d]
theorem jN{a:Type}{x:List a}{j:Nat}{v:a}(h:x[j]?=δ v):dC x (j:Int)=δ v:=by
 let H:j < x.length:=(τ.mp h).1;let e:mQ x.length (j:Int)=δ j:=by unfold mQ;rw[Iw Hz,Iw Hz];simp
 unfold dC;rw[e];exact h
def u5(b:fr):Prop:=∀o i,subscripted b ν o i=operate [o,i] (getItem o i)
def EQ(X:Cx)(r:R2):Prop:=
 ∀(a S:fr) (p:List (ε×pz)) (s:θ) (b:St) (H:Hp) (x y:V) (v u:η) (Q:VK),aq X p b H s->aB x v->aB y u->r x y H Q->
  subscripted S ν v u=operate [v,u] (getItem v u)->ξ (χ X.prog X.w) X.A (subscriptTail a S v u) (EP X p b Q) X.xe s
def ES(X:Cx)(id:String)(r:V->List V->Hp->VK->Prop):Prop:=
 ∀(p:List (ε×pz)) (s:θ) (a:St) (H:Hp) (x:V) (b:List V) (v:η) (u:List η) (Q:VK),aq X p a H s->aB x v->aw b u->r x b H Q->
  ξ (χ X.prog X.w) X.A (call (.builtin id) (v::u)) (EP X p a Q) X.xe s
section
variable {X:Cx}{a b:fr}{ta tb:TE}{pos:Pos}
theorem js{r:R2}(c:EQ X r)(d:PE X a ta)(e:PE X b tb)(f:u5 b):PE X (.Subscript a b pos) (dQ r ta tb):=by intro p s g H Q I h;exact RL$ Al d e I h λv u S x y i j R k q=>c a b p S g i x y v u Q j R k q (f _ _)
inductive iM(K:Ω)(x y:V)(H:Hp)(Q:VK):Prop
 |mk(p a i v:_)(_:x= .ref p)(_:y= .int i)(_:aG K H p a)(_:dC a i=δ v)(_:Q v H)
inductive eS(K:Ω)(x y:V)(H:Hp)(Q:VK):Prop
 |mk(p a i v:_)(_:x= .ref p)(_:y= .int i)(_:aC K H p a)(_:dC a i=δ v)(_:Q v H)
inductive wP(x y:V)(H:Hp)(Q:VK):Prop
 |mk(z i c:_)(_:x= .str z)(_:y= .int i)(_:z.length<=υ)(_:dC z.cps.toList i=δ c)(_:Q (.str #[(ι [c])]) H)
theorem jr:EQ X (iM X.K):=by
 intro V S P s k H x y v u Q I n o h l;obtain⟨p,L,i,z,rfl,rfl,A,B,q⟩:=h;cases n;obtain⟨t,rfl⟩:=o;obtain⟨d,r,e,M⟩:=I.list A;obtain⟨j,c,C,N,D,F⟩:=Xa B;obtain⟨w,E,R⟩:=r.get C;let G:=r.length;let O:=dY;let f:EP X P k Q w s:=#[z,H,I,R,q];by_cases m:0<=i
 .let g:i.toNat=j:=by rw[Rk m F]at c;exact K' c
  exact item_listR e.isList m Hz (by rw[g];simpa using E) f l
 .let g:(i+(d.toArray.size:Int)).toNat=j:=by rw[PM Hz D]at c;rw[Ip,<- G];exact K' c
  exact PL (x:=w) e.isList.typeIs slot_list_getitem.lookup
   (wpAny_getItem_list_neg (Q:=λr J=>r=w/\EP X P k Q r J) e.isList Hz (by rw[Ip]<;>omega) Hz (by rw[g];simpa using E) #[Z,f]) l
theorem j7:EQ X (eS X.K):=by
 intro V S P s c H x y v u Q I e g h k;obtain⟨p,D,i,z,rfl,rfl,l,m,q⟩:=h;cases e;obtain⟨t,rfl⟩:=g;obtain⟨n,r,d,F⟩:=I.tuple l;obtain⟨j,o,A,G,J,L⟩:=Xa m;obtain⟨w,E,R⟩:=r.get A;let B:=r.length;let M:=dY;let f:EP X P c Q w s:=#[z,H,I,R,q];exact PL (x:=w) d.typeIs slot_tuple_getitem.lookup
  (getItem_tuple (j:=j) (Q:=λr C=>r=w/\EP X P c Q r C) d Hz Hz (by rw[Ip,<- B];exact o) (by simpa using E) #[Z,f]) k
theorem KA:EQ X wP:=by
 intro V S p s o H x y v u Q I r R h e;obtain⟨z,i,c,rfl,rfl,w,f,q⟩:=h;obtain⟨t,rfl⟩:=r;obtain⟨T,rfl⟩:=R;obtain⟨j,d,g,A,k,l⟩:=Xa f;let m:z.cps.toList.length=z.length:=by simp [Str.length]
 rw[m]at d k l;let B:=dY;exact tail_any (typeIs_str s z t) slot_str_getitem.lookup (getItem_str (c:=c) (by
  let E:decide (i < -(2 ^ 63:Int))=ν:=II Hz;let n:decide (i≥2 ^ 63)=ν:=II Hz;rw[E,n,OZ]) (by rw[d];simpa using g) #[.str #[(ι [c])],H,I.tok _,#[_,Z],q]) e
theorem Yp(i:List η)(n j:Nat)(u:η):rm (·.setIfInBounds j u) { cls:=.type "list",data:=.seq i.toArray n }={ cls:=.type "list",data:=.seq (i.set j u).toArray n }:=by simp [rm]
theorem aq.lst(I:aq X c d H s)(h:H p=δ (.lst x)):
  ∃(i:List η) (n:Nat),aw x i/\s.heap.get? p=δ { cls:=.type "list",data:=.seq i.toArray n }/\x.length<=υ:=by
 obtain⟨z,i,n,r,e⟩:=I.hok p _ h;exact#[i,n,r,e,z]
theorem aq.lstUpd{c i:List η}{f:pz->pz}(I:aq X d j H s)(h:H p=δ (.lst o))
  (k:s.heap.get? p=δ { cls:=.type "list",data:=.seq c.toArray n }) (g:f { cls:=.type "list",data:=.seq c.toArray n }={ cls:=.type "list",data:=.seq i.toArray N }) (r:aw y i) (l:y.length<=υ) (t:Nat):
  aq X d j (aj H p$ .lst y) { s with heap:=s.heap.update p f,toks:=t }:=by
 let e:(s.heap.update p f).get? p=δ { cls:=.type "list",data:=.seq i.toArray N }:=by rw[Heap.get?_update_self f k (by rw[g]<;>rfl),g]
 refine I.write (x:=p) (e:=p) (by rw[h];trivial) (.inl Z) (λb u m q=>(Heap.get?_update_other _ _$ Ne.symm m).trans q) #[_,e] ?_;exact#[l,i,N,r,e]
inductive nV(o i v:V)(H:Hp)(Q:Hp->Prop):Prop
 |mk(p a k j:_)(_:o= .ref p)(_:i= .int k)(_:H p=δ (.lst a))(_:mQ a.length k=δ j)(_:Q (aj H p (.lst (a.set j v))))
theorem zH:C5 X nV:=by
 intro P s z H o i v O F u Q I R A B h;obtain⟨p,C,k,j,rfl,rfl,l,D,q⟩:=h;cases R;obtain⟨t,rfl⟩:=A;obtain⟨c,n,r,e,E⟩:=I.lst l;obtain⟨d,G,m,w⟩:=Y3 D;let f:=r.length;let J:=dY;let x:aq X P z (aj H p$ .lst$ C.set j v) { s with heap:=s.heap.update p (rm (·.setIfInBounds j u)) }:=
  I.lstUpd l e (Yp c n j u) (r.set B j) (by rw[ND];exact E) s.toks
 by_cases y:0<=k
 .let g:k.toNat=j:=by rw[Rk y w]at d;exact K' d
  exact PySem.W.ki_setAt e y Hz (by rw[Ip,<- f];exact w) (by rw[g];exact#[_,x,q])
 .let g:(k+(c.toArray.size:Int)).toNat=j:=by rw[PM Hz m]at d;rw[Ip,<- f];exact K' d
  exact PySem.W.ki_setBack e Hz (by rw[Ip,<- f];exact m) Hz (by rw[g];exact#[_,x,q])
theorem Xh(lo H:Option Int)(n:Nat):(sliceBounds lo H ζ n).1=((HT.sIx n 0 lo:Nat):Int)/\(sliceBounds lo H ζ n).2.1=((HT.sIx n n H:Nat):Int)/\(sliceBounds lo H ζ n).2.2=1:=by
 refine#[?_,?_,Z]
 .cases lo with
  |none=>simp [sliceBounds,HT.sIx]
  |some i=>
   simp only[sliceBounds,HT.sIx,N9,show(1:Int) > 0 by decide,M4];by_cases h:i < 0
   .simp only[h,M4]<;>omega
   .simp only[h,LC]<;>omega
 .cases H with
  |none=>simp [sliceBounds,HT.sIx]
  |some i=>
   simp only[sliceBounds,HT.sIx,N9,show(1:Int) > 0 by decide,M4];by_cases h:i < 0
   .simp only[h,M4]<;>omega
   .simp only[h,LC]<;>omega
theorem Qk(i:List η)(lo h:Option Int):slicePick i.toArray lo h ζ=((i.drop$ HT.sIx i.length 0 lo).take$ HT.sIx i.length i.length h - HT.sIx i.length 0 lo).toArray:=by obtain⟨H,c,d⟩:=Xh lo h i.toArray.size;unfold slicePick;rw[H,c,d];simp only[sliceRange_one,pick_run,Ip]<;>rfl
inductive wQ(K:Ω)(x:V)(c b:Option Int)(H:Hp)(Q:VK):Prop
 |mk(a d:_)(_:x= .ref a)(_:aG K H a d)(_:∀p,H p=ζ->Q (.ref p) (aj H p (.lst (aX d c b))))
theorem kM:EV X (wQ X.K):=by intro p s m H x v V n lo e S Q I R g P i h;obtain⟨a,c,rfl,j,q⟩:=h;cases R;obtain⟨k,r,f,l⟩:=I.list j;let d:=r.length;refine#["list",_,slot_list_getitem.lookup,f.isList.typeIs,?_];refine wpAny_getItem_list_slice f.isList g P i .none Hy ?_ (by rw[Ip]<;>omega);rw[Qk,<- d];refine#[.ref s.heap.objs.size,_,I.laid (t':=s.toks) (o:=.lst (aX c lo e)) (λb O q=>Il _ q) (Im _) ?_,Z,q _$ I.hok.fresh$ Im _];exact#[IB (zk c lo e) l,_,0,(r.drop$ HT.sIx c.length 0 lo).take$ HT.sIx c.length c.length e - HT.sIx c.length 0 lo,Ir _ Z]
def cX:V->Bool
 | .non=>μ
 | .bl _=>μ
 | .int _=>μ
 | .str _=>μ
 |_=>ν
def mH:V->V->Bool
 | .non,.non=>μ
 | .bl a,.bl b=>a==b
 | .bl a,.int b=>(if a then 1 else 0)==b
 | .int a,.bl b=>a==(if b then 1 else 0)
 | .int a,.int b=>a==b
 | .str a,.str b=>a==b
 |_,_=>ν
theorem pS(R:aB y u)(r:aB x v)(F:cX y=μ)(f:cX x=μ):SeqAt.EqAt A s u v (mH y x):=by
 cases y with
 |non=>
  cases R;cases x with
  |non=>cases r;exact SeqAt.EqAt.same _
  |bl b=>cases r;exact SeqAt.EqAt.none_bool b
  |int b=>obtain⟨t,rfl⟩:=r;exact SeqAt.EqAt.none_int b t
  |str b=>obtain⟨t,rfl⟩:=r;exact SeqAt.EqAt.none_str b t
  |_=>exact absurd (show ν=μ from f) Iu
 |bl a=>
  cases R;cases x with
  |non=>cases r;exact SeqAt.EqAt.bool_none a
  |bl b=>cases r;exact SeqAt.EqAt.bool_bool a b
  |int b=>obtain⟨t,rfl⟩:=r;exact SeqAt.EqAt.bool_int a b t
  |str b=>obtain⟨t,rfl⟩:=r;exact SeqAt.EqAt.bool_str a b t
  |_=>exact absurd (show ν=μ from f) Iu
 |int a=>
  obtain⟨T,rfl⟩:=R;cases x with
  |non=>cases r;exact SeqAt.EqAt.int_none a T
  |bl b=>cases r;exact SeqAt.EqAt.int_bool a T b
  |int b=>obtain⟨t,rfl⟩:=r;exact OU a T b t
  |str b=>obtain⟨t,rfl⟩:=r;exact OT a T b t
  |_=>exact absurd (show ν=μ from f) Iu
 |str a=>
  obtain⟨T,rfl⟩:=R;cases x with
  |non=>cases r;exact SeqAt.EqAt.str_none a T
  |bl b=>cases r;exact SeqAt.EqAt.str_bool a T b
  |int b=>obtain⟨t,rfl⟩:=r;exact OS a T b t
  |str b=>obtain⟨t,rfl⟩:=r;exact SeqAt.EqAt.str_str a T b t
  |_=>exact absurd (show ν=μ from f) Iu
 |_=>exact absurd (show ν=μ from F) Iu
def mP(x:V)(u:η):Bool:=match u with
 | .none=>mH .non x
 | .bool b=>mH (.bl b) x
 | .int i _=>mH (.int i) x
 | .str z _=>mH (.str z) x
 |_=>ν
theorem pU(r:aB y u)(f:cX y=μ):mP x u=mH y x:=by
 cases y with
 |non=>cases r;rfl
 |bl b=>cases r;rfl
 |int i=>obtain⟨t,rfl⟩:=r;rfl
 |str z=>obtain⟨t,rfl⟩:=r;rfl
 |_=>exact absurd (show ν=μ from f) Iu
theorem Jm:∀{c:List V} {U:List η},aw c U->c.all cX=μ->U.any (mP x)=c.any λy=>mH y x
 |_,_,.nil,_=>rfl
 |y::c,u::U,.cons r t,f=>by rw[OY,Ly]at f;rw[Nh,Nh,pU r f.1,Jm t f.2]
theorem qw(R:aB x v)(F:cX x=μ):∀{c:List V} {U:List η},aw c U->c.all cX=μ->∀u∈U,SeqAt.EqAt A s u v (mP x u)
 |_,_,.nil,_=>λu hu=>by cases hu
 |y::c,u::U,.cons r t,f=>λd hu=>by
  rw[OY,Ly]at f;rcases Δ.mp hu with rfl |hu
  .rw[pU r f.1];exact pS r R f.1 F
  .exact qw R F t f.2 d hu
def nQ(x:V)(c:List V):Bool:=c.any λy=>mH y x
inductive D6(K:Ω)(a:Bool)(x y:V)(H:Hp)(Q:VK):Prop
 |mk(p b:_)(_:y= .ref p)(_:aG K H p b∨aC K H p b)(_:cX x=μ)(_:b.all cX=μ)(_:Q (.bl (if a then !nQ x b else nQ x b)) H)
theorem zB:gp X (compareOp .In) (D6 X.K ν):=by
 intro d s j H x y v u Q I R e h;obtain⟨p,k,rfl,hq,F,f,q⟩:=h;cases e;rcases hq with hq |hq
 .obtain⟨i,r,P,g⟩:=I.list hq;refine SeqAt.in_listAt (mP x) P.isList (λw c=>qw R F r f w (by simpa using c)) #[.bl _,H,I,Z,?_];rw[show i.toArray.any (mP x)=i.any (mP x) by simp,Jm r f];exact q
 .obtain⟨i,r,P,g⟩:=I.tuple hq;refine SeqAt.in_tupleAt (mP x) P (λw c=>qw R F r f w (by simpa using c)) #[.bl _,H,I,Z,?_];rw[show i.toArray.any (mP x)=i.any (mP x) by simp,Jm r f];exact q
theorem JC:gp X (compareOp .NotIn) (D6 X.K μ):=by
 intro d s j H x y v u Q I R e h;obtain⟨p,k,rfl,hq,F,f,q⟩:=h;cases e;rcases hq with hq |hq
 .obtain⟨i,r,P,g⟩:=I.list hq;refine SeqAt.notIn_listAt (mP x) P.isList (λw c=>qw R F r f w (by simpa using c)) #[.bl _,H,I,Z,?_];rw[show i.toArray.any (mP x)=i.any (mP x) by simp,Jm r f];exact q
 .obtain⟨i,r,P,g⟩:=I.tuple hq;refine SeqAt.notIn_tupleAt (mP x) P (λw c=>qw R F r f w (by simpa using c)) #[.bl _,H,I,Z,?_];rw[show i.toArray.any (mP x)=i.any (mP x) by simp,Jm r f];exact q
theorem jL:dS X (.builtin "len") (λx H Q=>∃p y,x=[.ref p]/\(aG X.K H p y∨aC X.K H p y)/\Q (.int y.length) H):=by
 intro d s g H x U Q I r h;obtain⟨p,y,rfl,hq,q⟩:=h;obtain⟨u,rfl,e⟩:=eB r;cases e;let j:=dY;rcases hq with hq |hq
 .obtain⟨i,R,P,f⟩:=I.list hq;let c:=R.length;exact Calls.call_len_list P.isList (by simp only[Ip]<;>omega) #[.int y.length,H,I.tok _,#[s.toks+1,by rw[Ip,c]],q]
 .obtain⟨i,R,P,f⟩:=I.tuple hq;let c:=R.length;exact len_tuple P (by simp only[Ip]<;>omega) #[.int y.length,H,I.tok _,#[s.toks+1,by rw[Ip,c]],q]
theorem JD:dS X (.type "list") (λx H Q=>∃p y,x=[.ref p]/\(aG X.K H p y∨aC X.K H p y)/\∀l,H l=ζ->Q (.ref l) (aj H l$ .lst y)):=by
 intro P s z H x U Q I r h;obtain⟨p,y,rfl,hq,q⟩:=h;obtain⟨u,rfl,A⟩:=eB r;cases A;let f:∀(i:List η),aw y i->y.length<=υ->∀(c:fv) (C:Nat),(∀b O,s.heap.get? b=δ O->c.get? b=δ O)->
   c.get? s.heap.objs.size=δ { cls:=.type "list",dict:=ζ,data:=.seq i.toArray C,slots:=(ι []) }->EP X P z Q (.ref s.heap.objs.size) { s with heap:=c }:=λi R d c C k e=>
  #[.ref s.heap.objs.size,_,I.laid (t':=s.toks) k (Im _) (show aS X.prog X.w _ c _ (.lst y) from #[d,i,C,R,e]),Z,q _$ I.hok.fresh$ Im _]
 rcases hq with hq |hq
 .obtain⟨i,R,j,d⟩:=I.list hq;let g:=R.length;obtain⟨o,m,t,n,v⟩:=j.isList;exact call_list_seq p (.inl Z) m t v (λc C k e=>f i R d c C k e) (by simp only[Ip]<;>omega)
 .obtain⟨i,R,j,d⟩:=I.tuple hq;let g:=R.length;obtain⟨o,m,t,n,v⟩:=j;exact call_list_seq p (.inr Z) m t v (λc C k e=>f i R d c C k e) (by simp only[Ip]<;>omega)
theorem jH:dS X (.type "tuple") (λx H Q=>∃p y,x=[.ref p]/\((aG X.K H p y/\∀l,H l=ζ->Q (.ref l) (aj H l$ .tup y))∨(aC X.K H p y/\Q (.ref p) H))):=by
 intro P s g H x U Q I r h;obtain⟨p,y,rfl,h⟩:=h;obtain⟨u,rfl,n⟩:=eB r;cases n;rcases h with ⟨d,q⟩ | ⟨d,q⟩
 .obtain⟨i,R,f,j⟩:=I.list d;let k:=R.length;refine call_tuple_list f.isList (λc t=>?_) (by simp only[Ip]<;>omega);let m:aq X P g H { s with heap:=c }:=I.kept (t':=s.toks) t;let v:aq X P g (aj H c.objs.size$ .tup y) { s with heap:=c.push { cls:=.type "tuple",data:=.seq i.toArray } }:=
   m.laid (t':=s.toks) (λb o e=>Il _ e) (Im _) (show aS X.prog X.w _ _ _ (.tup y) from #[j,i,R,PX _ _])
  exact#[.ref c.objs.size,_,v,Z,q _$ m.hok.fresh$ Im _]
 .obtain⟨i,R,f,j⟩:=I.tuple d;exact call_tuple_same f #[.ref p,H,I,Z,q]
def Go(K:Ω)(T:String)(x:V)(H:Hp):Prop:=match x with
 | .str _=>T="str"
 | .int _=>T="int"
 | .ref p=>(T="list"/\∃c,aG K H p c)∨(T="tuple"/\∃o,K.lookup p=δ o/\o.cls= .type "tuple"/\o.dict=ζ)∨
   (T="dict"/\((∃k,H p=δ (.dK k))∨∃k,H p=δ (.dT k)))∨(T="set"/\∃S n,H p=δ (.set S n))
 |_=>False
theorem uD(I:aq X j u H s)(r:aB x v)(d:Go X.K T x H):
  s.TypeIs v T/\∀a,v= .ref a->∃O,s.heap.get? a=δ O/\O.dict=ζ:=by
 cases x with
 |str z=>obtain⟨t,rfl⟩:=r;cases (show T="str" from d);exact#[typeIs_str s z t,λ_ e=>nomatch e]
 |int i=>obtain⟨t,rfl⟩:=r;cases (show T="int" from d);exact#[typeIs_int s i t,λ_ e=>nomatch e]
 |ref p=>
  cases r;rcases d with ⟨rfl,w,l⟩ | ⟨rfl,o,h,m,f⟩ | ⟨rfl,h⟩ | ⟨rfl,S,n,h⟩
  .obtain⟨q,_,P,_⟩:=I.list l;refine#[P.isList.typeIs,λa e=>?_];cases e;obtain⟨o,n,e,c,f,_⟩:=P;exact#[o,e,f]
  .refine#[#[o,I.kIn p o h,m],λa e=>?_];cases e;exact#[o,I.kIn _ o h,f]
  .let z:∃o,s.heap.get? p=δ o/\o.ExactDict:=by
    rcases h with ⟨k,h⟩ | ⟨k,h⟩
    .obtain⟨_,_,_,_,o,_,_,e,E,_⟩:=I.hok p _ h;exact#[o,e,E]
    .obtain⟨_,_,_,_,o,_,_,e,E,_⟩:=I.hok p _ h;exact#[o,e,E]
   obtain⟨o,e,E⟩:=z;refine#[#[o,e,E.1],λa g=>?_];cases g;exact#[o,e,E.2.1]
  .obtain⟨o,_,_,_,e,E,_⟩:=I.hok p _ h;refine#[#[o,e,E.1],λa g=>?_];cases g;exact#[o,e,E.2.1]
 |_=>exact False.elim d
def Gi(K:Ω)(T:String)(r:V->List V->Hp->VK->Prop)(t:TE):TE:=λc H Q=>t c H λx h=>Go K T x h/\r x [] h Q
def Gh(K:Ω)(T:String)(r:V->List V->Hp->VK->Prop)(d:TE)(t:TA):TE:=λc H Q=>d c H λx h=>Go K T x h/\t c h λe f=>r x e f Q
variable {o e:fr}{es:List fr}{to:TE}{t:TA}{name:π}{apos cpos:Pos}{T id:String}{r:V->List V->Hp->VK->Prop}
theorem BE(P:PlainAttrs T)(S:Slot T name id)(f:typeOf (.builtin id)=pure (.type "method_descriptor"))(j:ES X id r)(k:PE X o to)
  (c:attributeBase o name X.env (eval o X.env)=eval o X.env:=by rfl) (d:(apos.endLine==cpos.line)=μ:=by rfl):PE X (.Call (.Attribute o name apos) [] [] cpos) (Gi X.K T r to):=by
 intro p s g H Q I h;refine wpAny_Call_method0_late c d$ aL (k p s g H _ I h) λv l z=>?_;obtain⟨x,m,i,R,n,q⟩:=z;obtain⟨u,w⟩:=uD i R n;exact#[T,id,P,S,f,u,w,Nu Z$ PySem.evalArgs_none$ j p l g m x [] v [] Q i R .nil q]
theorem kH(P:PlainAttrs T)(S:Slot T name id)(i:typeOf (.builtin id)=pure (.type "method_descriptor"))(m:ES X id r)(n:PE X o to)(q:PA X (e::es) t)
  (d:attributeBase o name X.env (eval o X.env)=eval o X.env:=by rfl)
  (g:((hY cpos$ Θ (e::es) X.env).all (λx=>!x.1)&&(backToKw cpos$ keywordEach [] X.env).all (λx=>x.1.isSome)
   &&decide ((e::es).length+([]:List Keyword).length+(if ([]:List Keyword).isEmpty then 0 else 1) < 30))=μ:=by rfl)
  (f:(apos.endLine==cpos.line)=μ:=by rfl) (u:Θ (e::es) X.env=(ν,eval e X.env)::Θ es X.env:=by rfl) (c:(hY cpos$ Θ es X.env).any (·.1)=ν:=by rfl):
  PE X (.Call (.Attribute o name apos) (e::es) [] cpos) (Gh X.K T r to t):=by
 intro p s j H Q I h;refine wpAny_Call_method_late d g f Z$ aL (n p s j H _ I h) λv w z=>?_;obtain⟨x,y,k,R,A,B⟩:=z;obtain⟨C,D⟩:=uD k R A;refine#[T,id,P,S,i,C,D,?_];let l:=q cpos p w j y _ k B;rw[u]at l ⊢;refine Nu (by show(ν||(hY cpos$ Θ es X.env).any (·.1))=ν;rw[c]<;>rfl)$ Pf ?_;exact aL l λU E #[F,G,J,L,M]=>m p E j G x F v U Q J R L M
end
def ER(X:Cx)(id:String)(r:V->List V->Hp->VK->Prop):Prop:=
 ∀(p:List (ε×pz)) (s:θ) (a:St) (H:Hp) (x:V) (b:List V) (v:η) (u:List η) (Q:VK),aq X p a H s->aB x v->aw b u->r x b H Q->
  ξ (χ X.prog X.w) X.A (call (.builtin id) (v::u)) (EP X p a Q) X.xe s
theorem aw.one:∀{x:V} {U:List η},aw [x] U->∃u,U=[u]/\aB x u
 |_,_,.cons r .nil=>#[_,Z,r]
theorem aw.zero:∀{u:List η},aw [] u->u=[]
 |_,.nil=>rfl
theorem aw.dropLast(h:aw x u):aw x.dropLast u.dropLast:=by
 induction h with
 |nil=>exact .nil
 |cons r t i=>
  cases t with
  |nil=>exact .nil
  |cons q T=>exact .cons r i
theorem aw.reverse(h:aw x u):aw x.reverse u.reverse:=by
 induction h with
 |nil=>exact .nil
 |cons r t i=>rw[Nb,Nb];exact aw.append i (.cons r .nil)
theorem Yq{c:Type}(l:List c):l.eraseIdx (l.length - 1)=l.dropLast:=by
 induction l with
 |nil=>rfl
 |cons a r i=>
  cases r with
  |nil=>rfl
  |cons b r=>
   let e:(a::b::r).length - 1=((b::r).length - 1)+1:=by let h:(a::b::r).length=r.length+2:=rfl;let H:(b::r).length=r.length+1:=rfl;omega
   rw[e,List.eraseIdx_cons_succ,i];all_goals rfl
section
variable {X:Cx}{pins:List (ε×pz)}{σ:St}{H:Hp}{s:θ}{l b:ε}{xs ys zs:List V}
theorem aq.lset{i its':List η}{f:Array η->Array η}{t':Nat}(I:aq X pins σ H s)(h:H l=δ (.lst xs))
  (e:s.heap.get? l=δ { cls:=.type "list",data:=.seq i.toArray n }) (a:f i.toArray=its'.toArray) (c:aw ys its') (d:ys.length<=υ):
  aq X pins σ (aj H l$ .lst ys) { s with heap:=s.heap.update l (rm f),toks:=t' }:=by
 let q:=PySem.IsL.update e f;rw[a]at q;refine I.write (x:=l) (e:=l) (by rw[h];exact trivial) (.inl Z) (λB u g j=>(IJ s.heap (rm f)$ IC g).trans j) #[_,q] ?_;exact#[d,its',_,c,q]
theorem aq.lnew{t':Nat}(I:aq X pins σ H s)(h:aw ys i)(a:ys.length<=υ):
  aq X pins σ (aj H s.heap.objs.size$ .lst ys) { s with heap:=s.heap.push { cls:=.type "list",data:=.seq i.toArray },toks:=t' }:=
 I.laid (λ_ _ q=>Il _ q) (Im _) #[a,i,0,h,Ir _ Z]
theorem aq.fresh(I:aq X pins σ H s):H s.heap.objs.size=ζ:=I.hok.fresh (Im _)
theorem aq.lstM(I:aq X pins σ H s)(h:H l=δ (.lst xs)):xs.length<=υ/\∃(i:List η) (n:Nat),aw xs i/\xs.length=i.length/\s.heap.get? l=δ { cls:=.type "list",data:=.seq i.toArray n }:=by obtain⟨z,i,n,r,e⟩:=I.hok l _ h;exact#[z,i,n,r,r.length,e]
theorem ff(h:n<=υ):lq n=ν:=by unfold lq;exact II Hz
end
section
variable {X:Cx}
inductive iY(x:V)(a:List V)(H:Hp)(Q:VK):Prop
 |mk(l b y:_)(_:x= .ref l)(_:a=[y])(_:H l=δ (.lst b))(_:b.length < υ)(_:Q .non (aj H l (.lst (b++[y]))))
theorem jP:ER X "list.append" iY:=by intro p s d H x V v U Q I R b h;obtain⟨l,f,y,rfl,rfl,a,g,q⟩:=h;cases R;obtain⟨u,rfl,c⟩:=b.one;obtain⟨z,i,n,r,j,e⟩:=I.lstM a;refine Oj F.slot_list_append #[_,e,Z] F.entry_list_append (F.args_list_append_2 _ _) (PySem.list_append l i.toArray n u (by rw[Ip];omega)) #[e,?_];refine#[.non,_,I.lset (its':=i++[u]) a e Hy (r.append$ .cons c .nil) ?_,Z,q];rw[Io,Mt];omega
inductive nU(x:V)(a:List V)(H:Hp)(Q:VK):Prop
 |mk(l b c d:_)(_:x= .ref l)(_:a=[.ref b])(_:H l=δ (.lst c))(_:H b=δ (.lst d))(_:c.length+d.length<=υ)(_:Q .non (aj H l (.lst (c++d))))
theorem QH:ER X "list.extend" nU:=by
 intro p s t H x V v U Q I R g h;obtain⟨l,b,w,y,rfl,rfl,f,j,A,q⟩:=h;cases R;obtain⟨u,rfl,k⟩:=g.one;cases k;obtain⟨z,a,n,r,B,e⟩:=I.lstM f;obtain⟨C,i,N,m,o,E⟩:=I.lstM j;let d:a.toArray.size+i.toArray.size<=υ:=by rw[Ip,Ip];omega
 let c:¬(!a.toArray.isEmpty&&lq (a.toArray.size+i.toArray.size))=μ:=by rw[ff d,OF];exact Iu
 refine Oj Rs #[_,e,Z] Rg (PY _ _)
  (AutoSeq1.list_extend_list_list_0 l a.toArray n b i.toArray N c (by rw[Ip];omega) Hz) #[e,E,?_]
 refine#[.non,_,I.lset (its':=a++i) f e Hy (r.append m) ?_,Z,q];rw[Io];omega
inductive D7(x:V)(a:List V)(H:Hp)(Q:VK):Prop
 |mk(l b y:_)(_:x= .ref l)(_:a=[])(_:H l=δ (.lst b))(_:b[b.length - 1]?=δ y)(_:Q y (aj H l (.lst b.dropLast)))
theorem A4:ER X "list.pop" D7:=by
 intro p s m H x V v U Q I R d h;obtain⟨l,o,y,rfl,rfl,c,f,q⟩:=h;cases R;let a:=d.zero;subst a;obtain⟨z,i,n,r,g,e⟩:=I.lstM c;obtain⟨u,j,k⟩:=r.get f;let b:i.toArray[i.toArray.size - 1]?=δ u:=by show i.toArray[i.length - 1]?=δ u;rw[<- Ma,<- g];exact j
 refine Oj F.slot_list_pop #[_,e,Z] F.entry_list_pop (F.args_list_pop_1 _) (MeetsSeq.list_pop_last l i.toArray n u b (by rw[Ip];omega)) #[e,?_];refine#[y,_,I.lset (its':=i.dropLast) c e ?_ r.dropLast ?_,k,q]
 .show i.toArray.eraseIdxIfInBounds (i.toArray.size - 1)=i.dropLast.toArray;rw[Ip,List.eraseIdxIfInBounds_toArray,Yq]
 .rw[List.length_dropLast];omega
inductive wO(x y:V)(H:Hp)(Q:VK):Prop
 |mk(l b a c:_)(_:x= .ref l)(_:y= .ref b)(_:H l=δ (.lst a))(_:H b=δ (.lst c))(_:a.length+c.length<=υ)(_:∀p,H p=ζ->Q (.ref p) (aj H p (.lst (a++c))))
theorem qZ:gp X (binaryOp .Add) wO:=by
 intro p s m H x y v u Q I R c h;obtain⟨l,b,o,t,rfl,rfl,d,f,w,q⟩:=h;cases R;cases c;obtain⟨z,a,n,r,A,e⟩:=I.lstM d;obtain⟨B,i,N,g,j,E⟩:=I.lstM f;refine PySem.P.add_list e E ?_ (by rw[Ip,Ip];omega);let k:a.toArray++i.toArray=(a++i).toArray:=by simp
 rw[k];exact#[.ref _,_,I.lnew (t':=s.toks) (r.append g) (by rw[Io];omega),Z,q _ I.fresh]
end
section
variable {prog:ψ}{w:dg}{A:ef}{E:η->θ->Prop}{s:θ}
theorem ZD(i I : List η)(a c : Nat) : i.toArray.extract 0 a ++ I.toArray ++ i.toArray.extract c i.toArray.size = (i.take a ++ I ++ i.drop c).toArray := by
  apply Array.toList_inj.mp;first
    | (simp
       exact Lx Hy)
    | simp [Lx]
    | simp
theorem Yr{a c n:Nat}(hac:a<=c)(hc:c<=n):sliceBounds (δ (a:Int)) (δ (c:Int)) ζ n=((a:Int),(c:Int),1):=by
 simp only[sliceBounds,N9];let h1:¬((a:Int) < 0):=by omega
 let h2:¬((c:Int) < 0):=by omega
 simp only[h1,h2,LC,show(1:Int) > 0 by decide,M4];congr 1
 .omega
 .congr 1;omega
set_option maxRecDepth 100000 in
theorem Ql{a c : Nat}{Q : Unit -> θ -> Prop}
    (e : s.heap.get? l = δ { cls := .type "list", data := .seq i n }) (y : s.heap.get? b = δ { cls := .type "list", data := .seq N I }) (q : l ≠ b)
    (C : s.heap.IsSliceOf p z B .none) (P : IsPart z (δ (a : Int))) (D : IsPart B (δ (c : Int))) (r : a <= c) (F : c <= i.size)
    (f : i.size + N.size <= υ) (h : Q () { s with heap := s.heap.update l (rm λX => X.extract 0 a ++ N ++ X.extract c X.size) }) :
    ξ (χ prog w) A (setItem (.ref l) (.ref p)$ .ref b) Q E s := by
  let t : s.heap.IsList l i := Pd e;let G : s.heap.IsList b N := Pd y;obtain ⟨os, d, u, g⟩ := id C;let k : s.TypeIs (.ref p) "slice" := #[os, d, u];let j : ¬ ((rawPart ζ == rawInt 0) = μ) := Iu;let H : gb (.ref l) (.ref b) = ν := by unfold gb;exact beq_eq_false_iff_ne.mpr q
  let o : (max (a : Int) (c : Int)).toNat = c := by omega
  let v : ((λX : Array η => X.extract 0 a ++ N ++ X.extract c X.size) i).size <= υ + 1 := by simp only [N8, Array.size_extract];omega
  unfold setItem;try with_reducible refine IM ?_
  first | refine Ih (Ij ?_) | skip
  refine Ih$ Ot t.typeIs HA ?_;refine Ih (IY (name := Str.ofString "__setitem__") t.typeIs RT
    (I0 RT t.typeIs entry_list_setitem ?_$ args_list_setitem _ _ _))
  show ξ _ _ (HF (.ref p) >>= _) _ _ s;refine Ih ?_;unfold HF;refine Ih$ LY k slice_no_index ?_;simp only [Pk, M4];refine Ij ?_;show ξ _ _ (typeOf (.ref p) >>= _) _ _ s;refine Ih$ Mb k ?_;first
    | rw [Iy HA]
    | refine Nz HA ?_
  rw [listSliceParts_eq];refine Ih$ Ih$ IS d g (x := .none) Z$ Ih$ Pa .none ?_;rw [Iy j];refine Ih$ IS d g (x := z) Z$ Ih$ Pa P ?_;refine Ih$ IS d g (x := B) Z$ Ih$ Pa D$ Ij ?_;first
    | simp only [H, Ix, LC]
    | refine Nz H ?_
    | (dsimp only
       rw [Iy (by rw [H]; exact Iu)])
  refine Ih (m := HI (.ref b) "must assign iterable to extended slice") ?_;unfold HI;refine Ih$ Mb G.typeIs ?_;first
    | refine SV HA ?_
    | rw [Iw HA]
    | simp only [MV, RY, M4]
  unfold Builtin.List.listItems;refine Ih$ Ls y Z$ Ij ?_;refine Ih$ Ih$ Ls e Z$ Ij ?_;refine Ih$ NY ((sliceIndices_raw (δ (a : Int)) (δ (c : Int)) ζ i.size Hy).trans$ LD (pure : Int × Int × Int -> Sem (Int × Int × Int))$ Yr r F) ?_;show ξ _ _ (if ((1 : Int) == 1) = μ then _ else _) _ _ s;rw [Iw HA];refine Ih$ Mg ?_;first
    | simp only [ff f, Ix, LC]
    | refine Nz (ff f) ?_
  first | refine Ih (Ij ?_) | skip
  show ξ _ _ (updateSeq l (λX => X.extract 0 ((a : Int)).toNat ++ N ++ X.extract (max (a : Int) (c : Int)).toNat X.size) >>= _) _ _ s;rw [o, Lv];refine Ih$ NP (hz := IB (Mo _ _) f) (_hz' := v) e Z ?_;refine Ih$ Rj ?_;first
    | exact Ih (Ij (Ij #[.none, Z, Ij h]))
    | exact Ij #[.none, Z, Ij h]
end
section
variable {X:Cx}
theorem ZE{Q:Unit->θ->Prop}(I:aq X p o H s)
  (k:H l=δ (.lst x)) (q:H b=δ (.lst y)) (f:l≠b) (t:s.heap.IsSliceOf u v B .none) (R:aB (.int a) v) (D:aB (.int c) B) (m:0<=a) (g:a<=c) (J:c<=x.length)
  (K:x.length+y.length<=υ) (h:∀S,aq X p o (aj H l$ .lst$ x.take a.toNat++y++x.drop c.toNat) S->Q () S):
  ξ (χ X.prog X.w) X.A (setItem (.ref l) (.ref u)$ .ref b) Q X.xe s:=by
 obtain⟨T,rfl⟩:=R;obtain⟨L,rfl⟩:=D;obtain⟨z,d,n,r,M,e⟩:=I.lstM k;obtain⟨N,i,O,E,F,G⟩:=I.lstM q;obtain⟨j,rfl⟩:=O6 m;obtain⟨C,rfl⟩:=O6 (Int.le_trans m g);simp only[Lv]at h;refine Ql (a:=j) (c:=C) e G f t (.int _ _) (.int _ _) Hz (by rw[Ip];omega) (by rw[Ip,Ip];omega)$ h _ ?_;refine I.lset (its':=d.take j++i++d.drop C) (t':=s.toks) k e ?_ (aw.append (aw.append (r.take _) E)$ r.drop _) ?_
 .exact ZD d i j C
 .rw[Io,Io,IU,L9];omega
end
end _L
namespace Att
open PySem PySem.W PySem.Calls PyProof.Rows
theorem Ka{P:Params}:∀(N:List Int) (v:List η),WellAll P h v (N.map WData.int)->IntsAre v N:=by
 intro N;induction N with
 |nil=>intro v w;rw[O4]at w;cases w;exact .nil
 |cons n N i=>
  intro v w;rw[La]at w;cases w with
  |cons a b=>cases a;exact .cons _ _$ i _ b
theorem ZF{l:OpenLaw}(k:l.most=δ n){P:Params}
  (H:l.row.toRowW.claim.pre args=μ) (g:WellAll P h v args):
  ∃a V N,v=[Ξ a]/\args=[WData.list$ N.map WData.int]/\h.get? a=δ { cls:=.type "list",data:=.seq V.toArray }/\IntsAre V N/\N.length<=n:=by
 let i:WShape.hasAll [] args [.list .int]=μ:=(pre_splitW H).1;let j:l.pre.holds [] { args:=args }=μ:=(pre_splitW H).2;obtain⟨d,r,rfl,m,o⟩:=hasAllW_cons i;obtain rfl:=hasAllW_nil o;obtain⟨x,rfl,p⟩:=hasW_list m;obtain⟨N,rfl⟩:=items_int p;let b:N.length<=n:=by
  unfold OpenLaw.pre at j;let e:(WTm.not$ .lt (.lit$ .int (n:Int))$ .len$ .arg 0).holds [] { args:=[.list$ N.map .int] }=μ:=by let e:=(holds_andW j).1;rw[k]at e;exact e
  let f:=condW_of e (w_not$ w_lt w_lit$ w_len_list$ w_arg Z);rw[Ik]at f;refine Nt λq=>?_;let Q:(n:Int) < ((N.length:Nat):Int):=by omega
  first
   | (rw[IW Q]at f;exact absurd f HA)
   | (simp at f;omega)
 cases g with
 |cons w W=>
  cases W;cases w with
  |list s c=>exact#[_,_,N,Z,Z,s,Ka N _ c,b]
theorem ZG(l:OpenLaw)(args:List WData):l.row.toRowW.claim.post args (.bool μ) args=μ:=
 postW_of (r:=l.row.toRowW) (X:=(μ==μ))
  (show WShape.has [] (.bool μ) .bool=μ by first |rfl |decide |simp [WShape.has,WShape.arms,WShape.armsAll])
  (show(WTm.eq .res$ .lit$ .bool μ).value [] { args:=args,res:=δ (.bool μ),after:=args }=δ (.bool$ μ==μ) from w_eq_bool (w_res Z) w_lit) Z
theorem attach_call{l:OpenLaw}{y:dg->fv->Prop}{d:DefRec}
  (x:l.most=δ n) (g:d.params.defaults=[])
  (call:∀(w:dg) (S s:θ) (m M:π->Option η) (F:ε) (o:pz) (p C D:η) (a:ε) (v:List η) (N:List Int),
   Ground q L [] z w S m M s.heap->y w s.heap->
   s.heap.get? F=δ o->o.data= .func (docDef d.name d.params d.body d.scope p C D)->s.heap.CodeRec C d.name->m d.name=δ (.ref F)->
   s.heap.get? a=δ { cls:=.type "list",data:=.seq v.toArray }->IntsAre v N->N.length<=n->s.gens=(ι [])->
   xa (χ l.prog w) callerA (.call (.ref F) #[[.ref a],[]]) (λr e=>r= .ok (.ret$ .bool μ)/\OldK s.heap e.heap/\e.os=s.os/\AllBare e.gens) s):
  WalkO q L z y l.row.toRowW d [] (λf v=>PySem.call f v):=by
 intro w S s m M G Y F o p C D B kV E I i t j J A V W H u K k O;obtain rfl:B= .none:=Dflts.none t g;obtain rfl:kV= .none:=Dflts.noKw t;obtain⟨a,v,N,rfl,rfl,b,h,c⟩:=ZF x H k;refine enter_call$ ML (call w S s m M F o p C D a v N G Y E (fd_plain I) i j b h c J) λr e P=>?_;obtain⟨rfl,Q,R,T⟩:=P;exact#[.inl #[.bool μ,.bool μ,[],Z,λ_=>Z,.bool μ,ZG l _,λ_=>#[List.Pairwise.nil,λ_ U=>(nomatch U)]],Q,R,T]
end Att
namespace _L
open PySem PySem.Spec PyProof.Rows
theorem QI:∀{v:List η} {N:List Int},IntsAre v N->aw (N.map HW) v
 |_,_,.nil=>.nil
 |_,_,.cons n t h=>.cons #[t,Z] (QI h)
def Ac(H:Hp):Prop:=∀b,H b=ζ∨∃o x,H b=δ (.frz o$ .lst x)
theorem rF{P:ψ}{K:Ω}{S:θ}{i:List η}
  (Y:K.In S.heap) (l:S.heap.Ns Ψ M) (c:S.heap.Ns builtinsNs mb) (Q:∀x:π,x≠"__name__"->mb x=bootBuiltins x) (p:S.heap.NoLimit) (hg:S.gens=(ι []))
  (J:S.heap.get? a=δ { cls:=.type "list",data:=.seq i.toArray }) (hi:IntsAre i O) (hl:O.length<=υ) (hr:bu k callerA)
  (F:∀f:fv,K.In f->f.Ns Ψ M->ak P w K M f CX k fa fd [x] sp) (j:∀(s:θ) (u:η),BindsTo s fd #[[u],[]] [(x,u)])
  (R:∀H:Hp,Ac H->aG K H a (O.map HW)->sp [.ref a] H (λv _=>v= .bl μ) λ_ _ _=>False)
  (T:∀H e g,CX [] H S (λ_ _ _=>False) e g->False):
  xa (χ P w) callerA (.call (.ref fa) #[[.ref a],[]]) (λr g=>r= .ok (.ret$ .bool μ)/\OldK S.heap g.heap/\g.os=S.os/\AllBare g.gens) S:=by
 let rv:=QI hi;let L:=hi.length;let C:∀H:Hp,Ac H->aG K H a (O.map HW)->eK P w H S.heap->(∀b,H b≠ζ->b=a)->(H a≠ζ->K.lookup a=ζ)->
   xa (χ P w) callerA (.call (.ref fa) #[[.ref a],[]]) (λr g=>r= .ok (.ret$ .bool μ)/\OldK S.heap g.heap/\g.os=S.os/\AllBare g.gens) S:=by
  intro H hO hS t hA hK;let B:∀{b:ε} {o:pz},S.heap.get? b=δ o->H b=ζ->(iW S.heap H).get? b=δ o:=λe n=>rn e n;let U:∀{b:ε} {o:pz} {E:Array DictEntry} {y:Nat},S.heap.get? b=δ o->o.data= .dict E y->H b=ζ:=λ{b o E y} e d=>by
   cases q:H b with
   |none=>rfl
   |some u=>have W:b=a:=hA b (by rw[q];simp);subst W;rw[J]at e;cases e;let d':Data.seq i.toArray _=Data.dict E y:=d;cases d'
  let N:∀{b:ε} {m:π->Option η},S.heap.Ns b m->(iW S.heap H).Ns b m:=λ{b m} #[o,E,y,e,d,r]=>#[o,E,y,B e$ U e d,d,r];let A:K.In (iW S.heap H):=λb o e=>B (Y b o e) (by
   cases q:H b with
   |none=>rfl
   |some u=>
    let W:b=a:=hA b (by rw[q];simp);subst W;rw[hK (by rw[q];simp)]at e;cases e)
  let hM:Mod K M (iW S.heap H):=#[A,N l,#[mb,N c,Q],let #[mc,h1,h2]:=p;#[mc,N h1,h2]];let e0:mI P w K M (iW S.heap H) callerA [] S H:=#[Z,hM,λb o e=>vU e,Od$ Zv _ _,trivial,λb c=>absurd (show b∈([]:List ε) from c) Hy,t,.of_eq hg];refine ML ((F _ A$ N l).run callerA [] S H #[[.ref a],[]] [.ref a] [.ref a] _ _ hr e0 (j S$ .ref a) (.cons Z .nil) (R H hO hS)) λr g h=>?_;cases r with
  |error e=>exact(T H e g h).elim
  |ok fl=>
   cases fl with
   |next=>exact False.elim h
   |brk=>exact False.elim h
   |cont=>exact False.elim h
   |ret u=>
    obtain⟨v,H',os,D,un,G,r',q⟩:=h;let q':v= .bl μ:=q;subst q';obtain rfl:u=HR μ:=r';refine#[Z,OldK.of_keep λb o e=>?_,os,D];cases q:H b with
    |none=>exact un.keep b o e q (by intro z;exact absurd (show b∈([]:List ε) from z) Hy) Hy
    |some u=>
     rcases hO b with z | ⟨ob,xs,z⟩
     .rw[q]at z;cases z
     .let z2:=un.frzs b ob _ z;obtain⟨e1,_⟩:=t b _ z;obtain⟨e2,_⟩:=G b _ z2;rw[e]at e1;cases e1;exact e2
 cases X:K.lookup a with
 |some o=>have e:=Y a o X;rw[J]at e;cases e;refine C (λ_=>ζ) (λ_=>.inl Z) (.inr #[_,i.toArray,_,X,Z,Z,Z,by rw[Ip,L];exact hl,by simpa using rv]) (λb u z=>by let I:(ζ:Option HO)=δ u:=z;cases I) (λb z=>absurd Z z) λz=>absurd Z z
 |none=>
  refine C (λb=>if b=a then δ (.frz { cls:=.type "list",data:=.seq i.toArray }$ .lst$ O.map HW) else ζ) (λb=>?_) (.inl$ .inr #[{ cls:=.type "list",data:=.seq i.toArray },Iw Z]) (λb u z=>?_) (λb z=>?_) λ_=>X
  .by_cases c:b=a
   .exact .inr #[_,_,Iw c]
   .exact .inl$ Iy c
  .by_cases c:b=a
   .let I:=(Iw c).symm.trans z;cases I;subst c;exact#[J,by rw[Ik];exact hl,i,_,rv,J]
   .let I:=(Iy c).symm.trans z;cases I
  .by_cases c:b=a
   .exact c
   .exact absurd (Iy c) z
theorem xQ{l:HL}{n k:Nat}{E:dg->fv->Prop}{d:DefRec}{K:Params->Ω}{CX:dg->oB}{sp:dg->Sp}{x:π}
  (O:l.most=δ n) (r:n<=υ) (t:d.params.defaults=[]) (P:bu k callerA)
  (Q:∀(w:dg) (h:fv),E w h->(K w.params).In h)
  (F:∀(w:dg) (m:π->Option η) (p:ε) (h:fv),(K w.params).In h->h.Ns Ψ m->m d.name=δ (.ref p)->
   ∃y:bm,(∀(s:θ) (u:η),BindsTo s y #[[u],[]] [(x,u)])/\
    ∀B:fv,(K w.params).In B->B.Ns Ψ m->ak l.prog w (K w.params) m B (CX w) k p y [x] (sp w))
  (z:∀(w:dg) (H:Hp) (a:ε) (N:List Int),N.length<=n->Ac H->aG (K w.params) H a (N.map HW)->sp w [.ref a] H (λv _=>v= .bl μ) λ_ _ _=>False)
  (A:∀(w:dg) (H:Hp) (s:θ) (e:η) (C:θ),CX w [] H s (λ_ _ _=>False) e C->False):
  PySem.W.WalkO q L XP E l.row.toRowW d [] (λf I=>PySem.call f I):=by
 refine Att.attach_call O t λw J S m mb p o pm cd R a I N G Y ho hd U D j i c X=>?_;let M:=Q w _ Y;obtain⟨y,hb,hF⟩:=F w m p _ M G.T.g D;exact rF M G.T.g G.T.b G.T.builtins G.T.nolimit X j i (IB c r) P hF hb (λH hO hS=>z w H a N c hO hS) λH e C=>A w H S e C
def cn(s:ey)(j:Nat):ey:=match s with
 | .ClassDef _ _ _ b _ _ _ _ _ _ _=>b.getD j (.Pass #[0,0,0,0])
 |_=>.Pass #[0,0,0,0]
def bM(s:ey):Arguments:=match s with
 | .FunctionDef _ a _ _ _ _ _ _ _ _=>a
 |_=>{ posonlyargs:=[],args:=[],vararg:=ζ,kwonlyargs:=[],kw_defaults:=[],kwarg:=ζ,defaults:=[] }
def bf(s:ey):List ey:=match s with
 | .FunctionDef _ _ b _ _ _ _ _ _ _=>b
 |_=>[]
def ae(s:ey):sB:=match s with
 | .FunctionDef _ _ _ _ _ _ S _ _ _=>S
 |_=>{ kind:=.function,names:=[],isGenerator:=ν,isCoroutine:=ν }
abbrev aD:oB:=λ_ _ _ _ _ _=>False
abbrev E0:XK:=λ_ _ _=>False
theorem bN{X:Cx}:dy aD X E0:=λ_ _ _ _ _ _ _ h=>h.elim
structure aK(K:Ω)(x qual:π)(st:ey)(f:ε)(fd:bm):Prop where
 ex:∃(oc:η) (od:Option ε) (kV doc pm:η) (an:Option ε) (cdv ct:η) (osl:Array (Option η)),
  fd=HU x qual (bM st) (bf st) (ae st) .none kV doc pm an cdv ct/\K.lookup f=δ #[oc,od,.func fd,osl]/\codeIn K cdv qual=μ
 kp:rs K (.ref f)=μ
section
variable {P:ψ}{w:dg}{K:Ω}{mg:π->Option η}{base:fv}
theorem aK.ok{st:ey}{d:Sp}(F:aK K x a st f i)(S:am N p (ae st))(len:∀v H Q E,d v H Q E->v.length=p.length)
  (b:∀(c:η) (A:ef) (o:List Env) (s:θ) (H:Hp) (v:List V) (Q:VK) (E:XK),bu k (A.deeper$ envOfC a (ae st) s.heap.objs.size f c)->d v H Q E->
   ∃t,lS (fc aD P w K mg base N a (ae st) f c A o s H E).nox (bf st) t/\t { nx:=λ_ j=>Q .non j,rt:=Q } (gn N v) H):ak P w K mg base aD (k+1) f i p d:=by
 obtain⟨m,n,kV,D,r,u,c,C,O,rfl,lk,e⟩:=F.ex;refine yv lk e S len λA o s H v Q E l g=>?_;obtain⟨t,h,q⟩:=b c A o s H v Q E l g;exact#[t,h.nox,q]
theorem aK.binds{st:ey}{p:List π}(F:aK K x q st f b)
  (h:∀(kV d a:η) (A:Option ε) (c C:η) (u:List η),u.length=p.length->bindArgs (HU x q (bM st) (bf st) (ae st) .none kV d a A c C) #[u,[]]=pure (p.zip u)):ay K b p []:=by
 obtain⟨O,e,kV,d,a,A,c,C,o,rfl,lk,H⟩:=F.ex;exact .all$ h kV d a A c C
theorem p8{st:ey}{kV:η}(l:K.lookup f=δ #[O,e,.func$ HU x q (bM st) (bf st) (ae st) .none kV d p a C b,o])
  (c:codeIn K C q=μ) (k:rs K (.ref f)=μ):aK K x q st f (HU x q (bM st) (bf st) (ae st) .none kV d p a C b):=#[#[O,e,kV,d,p,a,C,b,o,Z,l,c],k]
end
theorem jQ(h:bu k A):A.units+1 < cLine:=LP (Pu (by decide:1<=64) _) h.units
section
variable {X:Cx}
theorem pv(i:Nat){x:π}{p:Pos}(H:X.N[i]?=δ x:=by rfl)(a:EX X.env.scope x:=by first |exact ω Z |exact ov (ω Z) |exact ov$ ov Z)(b:(x==("__debug__":π))=ν:=by decide)
  (h:(x==("__classdict__":π))=ν:=by decide):PE X (.Name x p) (aZ i):=BJ H a b h
end
theorem vG{A B:Prop}(h:B):if ν=μ then A else B:=by rw[Iy Iu];exact h
theorem AU{A B:Prop}(h:A):if μ=μ then A else B:=by rw[Iw Z];exact h
theorem bZ{c A B:Prop}[Decidable c](H:c->A)(a:¬c->B):if c then A else B:=by
 by_cases h:c
 .rw[Iw h];exact H h
 .rw[Iy h];exact a h
def af(H h:Hp):Prop:=∀b o,H b=δ o->h b=δ o
theorem af.refl(H:Hp):af H H:=λ_ _ h=>h
theorem af.trans(a:af H d)(b:af d e):af H e:=λc o h=>b c o (a c o h)
theorem af.free(e:af H a)(h:a l=Option.none):H l=Option.none:=by
 cases q:H l with
 |none=>rfl
 |some o=>rw[e l o q]at h;cases h
theorem af.seq{K:Ω}(e:af H b)(h:aG K H a x):aG K b a x:=by
 rcases h with (h | ⟨o,h⟩) |h
 .exact .inl$ .inl$ e _ _ h
 .exact .inl$ .inr #[o,e _ _ h]
 .exact .inr h
section
variable {prog:ψ}{w:dg}{A:ef}{R:Result->θ->Prop}{s:θ}
abbrev yf:η->θ->Prop:=λ_ _=>False
theorem ZH{iter:fr}(I:Nat->θ->Prop)
  (T:∀n s,I n s->ξ (χ prog w) A (pyNext B) (λr S=>match r with
   |none=>R (.ok .next) S
   |some v=>ξ (χ prog w) A (letOwnedTupleGo t B v) (λ_ b=>ξ (χ prog w) A (assign t e v) (λ_ d=>
     ξ (χ prog w) A (forIn l μ λc r=>if r=μ then do let o <- isTrue c e (eval c e);pure (ForInStep.yield o) else pure (ForInStep.yield r)) (λo a=>
      if o=μ then ξ (χ prog w) A (eval E e) (λx g=>
       ξ (χ prog w) A (call (.builtin "list.append") [p,x]) (λ_ i=>∃m,m < n/\I m i) yf g) yf a
      else ∃m,m < n/\I m a) yf d) yf b) yf S) yf s)
  (n:Nat) (h:I n s):
  xa (χ prog w) A (.compLoop (.ListComp E [#[t,iter,l,0]] k C) 0 B p e) R s:=by
 refine codeAny_loop Z I (λn s D=>?_) n h;show ξ _ A ((compTurn (.ListComp E [#[t,iter,l,0]] k C) 0 B p e).onRaise (λx=>do noteFrame x e;theTreesLotGoes x)) _ _ s;refine wpAny_noted ?_;rw[compTurn_list];refine Ih$ Mm$ Ih$ Lj (T n s D) (λr S H=>?_) λ_ _ f=>f.elim;cases r with
 |none=>exact Ij H
 |some v=>
  refine Ih$ Lj H (λ_ b q=>?_) λ_ _ f=>f.elim;refine Ih$ Lj q (λ_ d u=>Ih (Lj u (λo a j=>?_) λ_ _ f=>f.elim)) λ_ _ f=>f.elim;cases o with
  |false=>exact Ij #[Z,j]
  |true=>exact Ih$ Ih$ Lj j (λx g y=>Ih (Lj y (λ_ i z=>Ij (Ij #[Z,z])) λ_ _ f=>f.elim)) λ_ _ f=>f.elim
end
def a9(X:Cx)(s:sB)(M:List π)(c:List (π×ε))(C:ε)(f:List ε)(S:θ)(H:Hp):Cx where
 prog:=X.prog
 w:=X.w
 K:=X.K
 mg:=X.mg
 base:=X.base
 A:=X.A
 N:=M
 s₀:=S
 H₀:=H
 env:=compEnvC s c C X.env
 outer:=X.stack
 stack:=X.stack
 ex:=f
 fn:=λ_=>ν
 calm:=X.calm
 pn:=[]
 xe:=λ_ _=>False
def CV(n:Nat)(I:List Nat)(a:St):St:=xb n ζ++I.map λi=>(a[i]?).getD ζ
structure bp(N:List π)(sc scope:sB)(M:List π)(nT:Nat)(ix:List Nat):Prop where
 cell:∀y∈scope.names,y.2≠ .cell
 kind:scope.kind= .function
 loc:∀y∈scope.names,y.2= .local->scope.names.lookup y.1=δ .local
 fre:∀y∈scope.names,y.2= .free->sc.names.lookup y.1=δ .cell
 nms:M.drop nT=ix.map λi=>N.getD i Str.empty
 len:M.length=nT+ix.length
 vis:∀i∈ix,scope.names.lookup (N.getD i Str.empty)=δ .free
theorem JE{E:Env}(c:E.scope.kind= .function):∀{N:List (π×NameKind)} {y:π},N.lookup y=δ .free->E.kindOf y=δ .cell->
  (N.map λ(n,k)=>if (k==NameKind.free&&E.scope.kind== .function&&E.kindOf n==δ .cell) then (n,NameKind.cell) else (n,k)).lookup y=δ .cell
 | [],_,h,_=>by simp at h
 | (n,k)::r,y,h,b=>by
  let i:=@JE E c r y;show oS y ((if (k==NameKind.free&&E.scope.kind== .function&&E.kindOf n==δ .cell)=μ then (n,NameKind.cell) else (n,k))::_)=_;cases H:y==n with
  |true=>
   simp only[Lo,H]at h;cases h;let e:y=n:=by simpa using H
   subst e;rw[Iw (by rw[c,b];rfl)];simp [Lo]
  |false=>
   simp only[Lo,H]at h;by_cases a:(k==NameKind.free&&E.scope.kind== .function&&E.kindOf n==δ .cell)=μ
   .rw[Iw a];simp only[Lo,H];exact i h b
   .rw[Iy a];simp only[Lo,H];exact i h b
theorem KZ{E:Env}:∀{N:List (π×NameKind)} {y:π} {K:NameKind},
  (N.map λ(n,k)=>if (k==NameKind.free&&E.scope.kind== .function&&E.kindOf n==δ .cell) then (n,NameKind.cell) else (n,k)).lookup y=δ K->
  ∃k,N.lookup y=δ k/\(K=k∨k= .free)
 | [],_,_,h=>by simp at h
 | (n,k)::r,y,K,h=>by
  let i:=@KZ E r y K;let h:oS y ((if (k==NameKind.free&&E.scope.kind== .function&&E.kindOf n==δ .cell)=μ then (n,NameKind.cell) else (n,k))::_)=δ K:=h;cases a:y==n with
  |true=>
   refine#[k,by simp only[Lo,a],?_];by_cases H:(k==NameKind.free&&E.scope.kind== .function&&E.kindOf n==δ .cell)=μ
   .right;simp only[Ly]at H;simpa using H.1.1
   .rw[Iy H]at h;simp only[Lo,a]at h;left;exact(K' h).symm
  |false=>
   let b:oS y (r.map λ(n,k)=>if (k==NameKind.free&&E.scope.kind== .function&&E.kindOf n==δ .cell) then (n,NameKind.cell) else (n,k))=δ K:=by
    by_cases H:(k==NameKind.free&&E.scope.kind== .function&&E.kindOf n==δ .cell)=μ
    .rw[Iw H]at h;simp only[Lo,a]at h;exact h
    .rw[Iy H]at h;simp only[Lo,a]at h;exact h
   obtain⟨c,e,q⟩:=i b;exact#[c,by simp only[Lo,a];exact e,q]
def aU(e:Env):List (π×NameKind)->List (π×ε)->List (π×ε)
 | [],a=>a
 | (n,k)::r,a=>if k== .free then aU e r ((n,(e.cells.lookup n).getD 0)::a) else aU e r a
theorem qg{E:Env}:∀{N:List (π×NameKind)} {acc:List (π×ε)},(∀y∈N,y.2= .free->∃c,E.cells.lookup y.1=δ c)->(∀x c,acc.lookup x=δ c->E.cells.lookup x=δ c)->
  ∀x c,(aU E N acc).lookup x=δ c->E.cells.lookup x=δ c
 | [],_,_,b,x,c,h=>b x c h
 | (n,k)::r,acc,f,b,x,c,h=>by
  unfold aU at h;by_cases g:(k==NameKind.free)=μ
  .rw[Iw g]at h;refine qg (λy H=>f y (IK _ H)) (λX j a=>?_) x c h;obtain⟨C,d⟩:=f (n,k) ID (by simpa using g);let d:E.cells.lookup n=δ C:=d;simp only[Lo]at a;cases i:X==n with
   |true=>
    rw[i]at a;let e:X=n:=by simpa using i
    subst e;rw[d]at a;rw[d];exact a
   |false=>rw[i]at a;exact b _ _ a
  .rw[Iy g]at h;exact qg (λy H=>f y (IK _ H)) b x c h
theorem qI:∀{a:List (π×ε)},(∃c,(x,c)∈a)->∃c,a.lookup x=δ c
 | [],h=>by obtain⟨_,h⟩:=h;cases h
 | (n,c)::r,h=>by
  simp only[Lo];cases H:x==n with
  |true=>exact#[c,Z]
  |false=>
   obtain⟨C,h⟩:=h;rcases Δ.mp h with e |h
   .injection e with E _;subst E;simp at H
   .exact qI #[C,h]
theorem Jd:∀{N:List (π×NameKind)} {a:List (π×ε)},((∃c,(x,c)∈a)∨(x,NameKind.free)∈N)->∃c,(x,c)∈aU E N a
 | [],_,h=>by
  rcases h with h |h
  .exact h
  .cases h
 | (n,k)::r,a,h=>by
  unfold aU;by_cases H:(k==NameKind.free)=μ
  .rw[Iw H];refine Jd ?_;rcases h with ⟨c,h⟩ |h
   .exact .inl #[c,IK _ h]
   .rcases Δ.mp h with e |h
    .injection e with b _;subst b;exact .inl #[_,ID]
    .exact .inr h
  .rw[Iy H];refine Jd ?_;rcases h with h |h
   .exact .inl h
   .rcases Δ.mp h with e |h
    .injection e with _ d;subst d;exact absurd Z H
    .exact .inr h
theorem qN{e:Env}:∀(N:List (π×NameKind)) (A:List (π×ε)),(∀y∈N,y.2= .free->∃c,e.cells.lookup y.1=δ c)->
  (forIn N A (λx r=>match x with | (name,K)=>if (K==NameKind.free)=μ then (do let a <- cellOf e name;pure (ForInStep.yield ((name,a)::r))) else pure (ForInStep.yield r)):Sem (List$ π×ε))=pure (aU e N A)
 | [],A,_=>rfl
 | (n,k)::r,A,b=>by
  let i:=λA=>qN r A λy H=>b y (IK _ H);rw[LV];unfold aU;by_cases h:(k==NameKind.free)=μ
  .obtain⟨C,E⟩:=b (n,k) ID (by simpa using h);let E:e.cells.lookup n=δ C:=E;let d:cellOf e n=pure C:=by unfold cellOf;rw[E]
   rw[Iw h];simp only[h,M4,d,E];exact i _
  .rw[Iy h];simp only[h];exact i _
theorem qP{e:Env}{S:sB}(H:∀y∈S.names,y.2= .free->∃c,e.cells.lookup y.1=δ c):closureFor S e=pure (aU e S.names []):=by let h:=qN S.names [] H;exact LD (λt:Sem (List$ π×ε)=>t >>= λs=>pure s) h
section
variable {X:Cx}{pins:List (ε×pz)}{σ:St}{H:Hp}{s:θ}
theorem Jv(I:aq X pins σ H s)(S:bp X.N X.env.scope a M n i):∀y∈a.names,y.2= .free->∃c,X.env.cells.lookup y.1=δ c:=
 λy h e=>I.ok.has y.1 (.inl$ S.fre y h e)
theorem pJ{g:fv}(I:aq X pins σ H s)(F:∀b∈Y,gN X pins H b)(P:∀b∈Y,b < s.heap.objs.size)
  (S:bp X.N X.env.scope a M n G) (Q:s.heap.objs.size<=C) (O:∀b o,s.heap.get? b=δ o->g.get? b=δ o) (R:g.Ns C m):
  aq (a9 X a M (aU X.env a.names []) C Y s H) [] (CV n G σ) H { s with heap:=g,toks:=tk }:=by
 let sub:∀x c,(aU X.env a.names []).lookup x=δ c->X.env.cells.lookup x=δ c:=qg (Jv I S) (λx c h=>by simp at h);let j:∀x,a.names.lookup x=δ .free->∃c,(aU X.env a.names []).lookup x=δ c:=λx e=>qI (Jd$ .inr$ LK e);let hex:∀x K,(relabel a X.env).names.lookup x=δ K->(K= .cell∨K= .free)->a.names.lookup x=δ .free:=λx K e A=>by
  obtain⟨k,t,q⟩:=KZ e;rcases q with q |q
  .rcases A with z |z
   .exact absurd (q.symm.trans z)$ S.cell (x,k)$ LK t
   .rw[t,<- q,z]
  .rw[t,q]
 refine#[#[I.ok.mod,S.kind,I.ok.glob,I.ok.blt,Q,λx y c h1 h2=>I.ok.inj x y c (sub x c h1) (sub y c h2),λx hx=>?_,λx c hx=>?_,I.ok.hd,I.ok.frames,.inl Z,λb w=>#[λz=>?_,λx c e=>?_],I.bs,IB I.ok.bsz I.sz,λb o e w=>?_,λb w hz=>?_,I.stack,I.stkFree],
  rfl,I.bare,Un.kept O,#[m,R,λk y v t E _=>?_],λx c e=>?_,I.hok.fresh Q,λx c e=>I.freeC x c (sub x c e),λp hp=>absurd (show p∈([]:List (ε×pz)) from hp) Hy,I.hok.kept O,?_]
 .rcases hx with hx |hx
  .exact j x$ hex x _ hx$ .inl Z
  .exact j x$ hex x _ hx$ .inr Z
 .exact absurd (show ν=μ from hx) HA
 .let z':b=C:=z;let:=P b w;rw[z']at this;exact absurd this$ Nat.not_lt.mpr Q
 .exact(F b w).2.2.2.2.1 x c (sub x c e)
 .rcases(F b w).2.2.2.1 with z |z
  .exact I.ok.noex b o e z
  .exact absurd (IE (Iq e)$ IB I.ok.bsz z)$ Lq _
 .rcases Δ.mp (I.stkSub b hz) with z |z
  .exact(F b w).2.1 z
  .exact(F b w).2.2.1 z
 .let E:(CV n G σ)[k]?=δ (δ v):=E;let t:M[k]?=δ y:=t;unfold CV at E;by_cases A:k < n
  .rw[Mf (by simpa using A),O1]at E;simp [A]at E
  .let B:n<=k:=Nt A;rw[LN (by simpa using B),NH,Iv]at E;cases J:G[k - n]? with
   |none=>rw[J]at E;cases E
   |some i=>
    rw[J]at E;let L:(σ[i]?).getD ζ=δ v:=K' E;let V:σ[i]?=δ (δ v):=by
     cases W:σ[i]? with
     |none=>rw[W]at L;cases L
     |some o=>rw[W]at L;exact LD δ L
    let hi:i < X.N.length:=by rw[<- I.len];exact(τ.mp V).1
    let e7:y=X.N.getD i Str.empty:=by
     let q:(M.drop n)[k - n]?=δ y:=by rw[List.getElem?_drop];rw[Pt B];exact t
     rw[S.nms,Iv,J]at q;exact(K' q).symm
    let e8:X.N[i]?=δ y:=by rw[e7,Ii hi,Mz,Ii hi];rfl
    let d:a.names.lookup y=δ .free:=by rw[e7];exact S.vis i$ IA J
    let f:X.env.scope.names.lookup y=δ .cell:=S.fre (y,.free) (LK d) Z;obtain⟨m',_,hl⟩:=I.loc;obtain⟨u,r,l⟩:=hl i y v e8 V (.inr$ .inl f);refine#[u,r,?_];rcases l with ⟨l,_⟩ | ⟨_,c,ec,o,T,U⟩
    .let l:X.env.scope.names.lookup y=δ .local:=l;rw[f]at l;cases l
    .obtain⟨c',D⟩:=j y d;let q:=sub y c' D;rw[ec]at q;cases q;exact .inr #[.inl$ JE I.ok.kind d f,c,D,o,O _ _ T,U]
 .obtain⟨v,o,T,U⟩:=I.cell x c (sub x c e);exact#[v,o,O _ _ T,U]
 .show(CV n G σ).length=M.length;rw[S.len];simp [CV]
theorem aq.track(I:aq X pins σ H s)(f:gN X pins H D)(G:X.s₀.heap.objs.size<=D)(a:aS X.prog X.w (aj H D o) s.heap D o):aq X pins σ (aj H D o) s:=by
 let n:=f.1;let N:∀b u,H b=δ u->b≠D:=λb u e=>jk e n;refine#[I.ok,I.os,I.bare,#[I.base.keep,I.base.slot,λb O e q i=>?_,I.base.there,λb d e=>?_,λb O u e=>?_,λb P e=>?_],I.loc,I.cell,?_,λx c e=>?_,λp h=>?_,λb u e=>?_,I.len]
 .rw[ji$ Iz$ IE (Iq e) G];exact I.base.free b O e q i
 .let q:=I.base.tups b d e;rw[ji$ N _ _ q];exact q
 .let q:=I.base.frzs b O u e;rw[ji$ N _ _ q];exact q
 .obtain⟨m,q⟩:=I.base.tbls b P e;exact#[m,by rw[ji$ N _ _ q];exact q]
 .rw[ji$ IC f.2.1];exact I.free
 .rw[ji$ f.2.2.2.2.1 x c e];exact I.freeC x c e
 .obtain⟨e,q,r⟩:=I.pin p h;exact#[e,by rw[ji$ f.2.2.2.2.2 p h];exact q,r]
 .by_cases g:b=D
  .subst g;rw[jc]at e;cases e;exact a
  .rw[ji g]at e;exact(I.hok b u e).stay (λ_ _ _ q=>q) (λc q=>by rw[ji$ N _ _ q];exact q) λc d q=>by rw[ji$ N _ _ q];exact q
abbrev iJ(u:List η):pz:={ cls:=.type "list",data:=.seq u.toArray u.length }
theorem ZI(u:List η)(y:η):({ cls:=.type "list",data:=.seq (u.toArray.push y) (u.length+1) }:pz)=iJ (u++[y]):=by show({ cls:=.type "list",data:=.seq (u.toArray.push y) (u.length+1) }:pz)={ cls:=.type "list",data:=.seq (u++[y]).toArray (u++[y]).length };rw[Io,Mt,List.push_toArray]
def PF(X:Cx)(i:List fr)(t:TT):Prop:=
 ∀(pins:List (ε×pz)) (s:θ) (σ:St) (H:Hp) (Q:Bool->Hp->Prop),aq X pins σ H s->t σ H Q->
  ξ (χ X.prog X.w) X.A (forIn i μ λc r=>if r=μ then do let o <- isTrue c X.env (eval c X.env);pure (ForInStep.yield o) else pure (ForInStep.yield r)) (TP X pins σ Q) X.xe s
def mv:TT:=λ_ H Q=>Q μ H
theorem zQ:PF X [] mv:=λ_ _ _ H _ I h=>wpAny_tests_nil #[H,I,h]
theorem sy{c:fr}{t:TT}(h:PT X c t):PF X [c] t:=λpins s σ H Q I q=>wpAny_tests_one (h pins s σ H Q I q)
def n8(I:List Nat)(σ:St):St:=I.map λi=>(σ[i]?).getD ζ
def eJ(J:It)(n:Nat)(t:St)(g:TG)(j:TT)(k:TE)(Q:List V->Hp->Prop)(H:Hp):Prop:=
 ∃W:Nat->Nat->List V->Hp->Prop,(∃m,W 0 m [] H)/\∀i m Y H,W i m Y H->
  (J.stop i H/\Q Y H)∨(J.go i H/\Y.length < υ/\∃N:List V->Hp->Prop,(∀c h,N c h->∃M,M < m/\W (i+1) M c h)/\
   ∀x d (e:St),e.length=n->J.yld i H x d->g x (e++t) d λa h=>(∃T:St,T.length=n/\a=T++t)/\j a h λb f=>if b=μ then k a f λy l=>N (Y++[y]) l else N Y f)
theorem K0{iter:fr}
  {RR:η->ε->Result->θ->Prop} 
  (I:aq X pins σ H s) (hc:X.calm=μ) (T:oG X.prog X.w X.K tg J k it tn) (st:tn 0 s.heap) (hf:∀b∈k,gN X pins H b) (S:bp X.N X.env.scope scope M nT ix)
  (hg:∀cl C k s H,PG (a9 X scope M cl C k s H) tg g) (hi:∀cl C k s H,PF (a9 X scope M cl C k s H) i0 tt) (he:∀cl C k s H,PE (a9 X scope M cl C k s H) e0 te)
  (h:eJ J nT (n8 ix σ) g tt te Qf H)
  (h':∀D C Y m t G,(∀b o u,H b=δ (.frz o u)->t b=δ (.frz o u))->t D=ζ->aq X pins σ (aj t D$ .lst Y) G->gN X pins (aj t D$ .lst Y) C->G.heap.Ns C m->Qf Y t->RR (.ref D) C (.ok .next) G):
  ξ (χ X.prog X.w) X.A (newList []) (λacc B=>ξ (χ X.prog X.w) X.A (newFunctionEnv scope X.env.globals (aU X.env scope.names []) [] X.env.qual ζ .none$ δ X.env) (λc0 s0=>
   xa (χ X.prog X.w) X.A (.compStart (.ListComp e0 [#[tg,iter,i0,0]] scope p1) 0 (.ref it) acc { c0 with scope:=relabel scope X.env }) (RR acc c0.locals) s0) E B) E s:=by
 obtain⟨W,⟨m0,w0⟩,t1⟩:=h;let h3:∀b∈k,b < s.heap.objs.size:=λb a=>by obtain⟨o,e,_⟩:=T.obj 0 _ st b a;exact Iq e
 refine I9$ wpAny_newFunctionEnv S.cell (by intro y hy;simp at hy) (λF l f=>?_) S.kind;dsimp only at l f ⊢;generalize h4:s.heap.push { cls:=.type "list",dict:=ζ,data:=.seq ([]:List η).toArray }=H2 at l f ⊢;let hC:H2.objs.size=s.heap.objs.size+1:=by rw[<- h4,Lc]
 let P:s.heap.objs.size≠H2.objs.size:=by rw[hC];exact Iz$ LO _
 let h0:s.heap.objs.size<=H2.objs.size:=by rw[hC];exact LU _
 let b0:∀b,b < s.heap.objs.size->b≠H2.objs.size/\b≠s.heap.objs.size:=λb a=>#[by rw[hC];exact Iz$ Mx a,Iz a];let o1:∀b o,s.heap.get? b=δ o->F.get? b=δ o:=λb o e=>f.extBut b o (b0 b$ Iq e).1 (Il _$ h4▸Il _ e);let h5:F.get? s.heap.objs.size=δ (iJ []):=f.extBut _ _ P (Il _$ h4▸Ir _ Z);let a0:H s.heap.objs.size=ζ:=I.hok.fresh (Im _);let h6:s.heap.objs.size∉hV X.stack:=λa=>(Δ.mp$ I.stkSub _ a).elim (λe=>absurd I.lt (by rw[<- e];exact Lq _)) (I.nofs$ Im _);generalize hD:s.heap.objs.size=D at*;generalize b2:H2.objs.size=C at*;let J0:∀tk,aq (a9 X scope M (aU X.env scope.names []) C k s H) [] (CV nT ix σ) H { s with heap:=F,toks:=tk }:=λtk=>pJ I hf (by rw[hD];exact h3) S (by rw[hD];exact h0) o1 l;let c1:∀x c,(aU X.env scope.names []).lookup x=δ c->c≠D:=λx c e z=>by let sub:=qg (Jv I S) (acc:=[]) (λx c h=>by simp at h) x c e;obtain⟨v,o,ho,_⟩:=I.cell x c sub;let:=Iq ho;rw[z,hD]at this;exact Lq _ this
 let p0:∀{σ0:St} {t:Hp} {G:θ} {U:List η},aq (a9 X scope M (aU X.env scope.names []) C k s H) [] σ0 t G->G.heap.get? D=δ (iJ U)->t D=ζ->
   aq (a9 X scope M (aU X.env scope.names []) C k s H) [(D,iJ U)] σ0 t G:=λ{σ0 t G U} I' e n=>I'.pins_of λp hp=>by
  let ep:p=(D,iJ U):=by simpa using hp
  subst ep;exact#[e,n,P,h6,λv z=>by cases z]
 let L:∀{t:Hp} {U:List η},(∀b∈k,t b=ζ)->∀b∈k,gN (a9 X scope M (aU X.env scope.names []) C k s H) [(D,iJ U)] t b:=λ{t U} hn b a=>
  #[hn b a,((J0 0).ok.exf b a).1,(J0 0).ok.exfs b a,.inl a,((J0 0).ok.exf b a).2,λp hp z=>by
   let ep:p=(D,iJ U):=by simpa [a9] using hp
   rw[ep]at z;let:=h3 b a;rw[<- z]at this;exact Lq _ this]
 let l0:∀B:θ,(∃tk,B={ s with heap:=F,toks:=tk })->
   xa (χ X.prog X.w) X.A (.compLoop (.ListComp e0 [#[tg,iter,i0,0]] scope p1) 0 (.ref it) (.ref D)$ compEnvC scope (aU X.env scope.names []) C X.env) (RR (.ref D) C) B:=by
  rintro B ⟨tk,rfl⟩;refine ZH (λn G=>∃i Y U ts t,ts.length=nT/\aq (a9 X scope M (aU X.env scope.names []) C k s H) [(D,iJ U)] (ts++n8 ix σ) t G/\aw Y U/\Y.length<=υ/\tn i G.heap/\(∀b∈k,t b=ζ)/\W i n Y t) ?_ m0
   #[0,[],[],xb nT ζ,H,NH,p0 (J0 tk) h5 a0,.nil,Is _,T.keep _ _ _ st λb a o e=>o1 b o e,λb a=>(hf b a).1,w0]
  rintro n s1 ⟨i,Y,U,ts,Q,a1,I1,rv,hz,s7,f0,w1⟩;rcases t1 i n Y Q w1 with ⟨stop,q⟩ | ⟨go,a2,N,hN,step⟩
  .refine aL (T.done (a9 X scope M (aU X.env scope.names []) C k s H) Z Z Z hc i _ s1 _ Q yf I1 (L f0) s7 stop) λr s2 j=>?_;obtain⟨hr,I2⟩:=j;subst hr;let IO:aq X pins σ Q s2:=I.call' (ch:=k) I2.os I2.base I2.hok I2.bare λb a=>#[(hf b a).2.2.2.1,(hf b a).2.1,(hf b a).2.2.2.2.1,(hf b a).2.2.2.2.2];let pD:=I2.pin (D,iJ U) (by simp [a9]);let h8:Q D=ζ:=pD.2.1;let fD:gN X pins Q D:=by rw[<- hD];exact I.fpOk (Im _) (by rw[hD];exact h8)
   let IT:aq X pins σ (aj Q D$ .lst Y) s2:=IO.track fD (by rw[<- hD];exact I.sz) #[hz,U,U.length,rv,pD.1];obtain⟨mC,a3,_⟩:=I2.loc;let a4:Q C=ζ:=I2.free;exact h' D C Y mC Q s2 I2.base.frzs h8 IT (I.fpOk (by rw[hD];exact h0) (by rw[ji$ IC P];exact a4)) a3 q
  .refine aL (T.item (a9 X scope M (aU X.env scope.names []) C k s H) Z Z Z hc i _ s1 _ Q yf I1 (L f0) s7 go) λr s2 j=>?_;obtain⟨u,hr,h2⟩:=j;subst hr;refine aL h2 λ_ s3 j=>?_;obtain⟨x,H3,I3,r3,y3,O,f1⟩:=j;let a':=I3.pinned (L f1) (T.obj _ _ O);refine aL (hg _ _ _ _ _ _ s3 _ H3 x u _ a' r3$ step x H3 ts a1 y3) λ_ s4 j=>?_;obtain⟨σ1,H4,I4,⟨t0,h1,e4⟩,q4⟩:=j;subst e4;refine aL (hi _ _ _ _ _ _ s4 _ H4 _ I4 q4) λb s5 j=>?_;obtain⟨H5,I5,q5⟩:=j;cases b with
   |false=>obtain⟨m',hm,w'⟩:∃m',m' < n/\W (i+1) m' Y H5:=hN _ _ q5;refine#[m',hm,i+1,Y,U,t0,H5,h1,I5.unpinned,rv,hz,T.keep _ _ _ O λb a o e=>(I5.pin (b,o)$ IG _$ IG _$ zf a e).1,λb a=>?_,w'];obtain⟨o,e,d⟩:=T.obj _ _ O b a;exact(I5.pin (b,o)$ IG _$ IG _$ zf a e).2.1
   |true=>
    refine aL (he _ _ _ _ _ _ s5 _ H5 _ I5 q5) λv s6 j=>?_;obtain⟨y,H6,I6,r6,q6⟩:=j;obtain⟨m',hm,w'⟩:=hN _ _ q6;let pD:=I6.pin (D,iJ U) (IG _$ Lw _ ID);let hl:=rv.length;let R:∀b∈k,∀o,s3.heap.get? b=δ o->s6.heap.get? b=δ o:=λb a o e=>(I6.pin (b,o)$ IG _$ IG _$ zf a e).1;let V:∀b∈k,H6 b=ζ:=λb a=>by obtain⟨o,e,d⟩:=T.obj _ _ O b a;exact(I6.pin (b,o)$ IG _$ IG _$ zf a e).2.1
    refine append_at (hsz:=by rw[Ip,<- hl];exact hz) pD.1 λh7 sb b1=>?_;let I7:aq (a9 X scope M (aU X.env scope.names []) C k s H) [] (t0++n8 ix σ) H6 { s6 with heap:=h7 }:=
     (I6.pins_of (pins':=[]) λp hp=>absurd hp Hy).turned (t':=s6.toks) (it:=D) (λb o a e=>(sb.2 b a).trans e) pD.2.1 P (.inr (by show s.heap.objs.size<=D;rw[hD];exact Im _)) c1 λp hp=>absurd (show p∈([]:List (ε×pz)) from hp) Hy
    refine#[m',hm,i+1,Y++[y],U++[v],t0,H6,h1,p0 I7 (b1.trans$ LD δ$ ZI U v) pD.2.1,rv.append$ .cons r6 .nil,by rw[Io,Mt];exact a2,
     T.keep _ _ _ (T.keep _ _ _ O R) λb a o e=>(sb.2 b λz=>?_).trans e,V,w']
    let:=h3 b a;rw[z]at this;exact Lq _ this
 exact codeAny_compStart_list (l0 _ #[_,Z])$ T.self _ 0 _ _ _ (T.keep _ _ _ st λb a o e=>o1 b o e)$ l0 _ #[_,Z]
def uj(w:TI)(n:Nat)(i:List Nat)(g:TG)(t:TT)(T:TE):TE:=λσ H Q=>w σ H λJ a=>eJ J n (n8 i σ) g t T (λy h=>∀p,h p=ζ->Q (.ref p) (aj h p$ .lst y)) a
theorem zg{t E iter:fr}{i:List fr}{a:sB}{p:Pos}{M:List π}{k:Nat}{l:List Nat}{W:TI}{g:TG}{r:TT}{u:TE}(v:X.calm=μ)(y:PI X t iter W)(S:bp X.N X.env.scope a M k l)
  (z:∀c C f s H,PG (a9 X a M c C f s H) t g) (B:∀c C f s H,PF (a9 X a M c C f s H) i r) (G:∀c C f s H,PE (a9 X a M c C f s H) E u)
  (K:∀x,foldedSetIterable iter X.env x=pure x:=by intro _;rfl):
  PE X (.ListComp E [#[t,iter,i,0]] a p) (uj W k l g r u):=by
 intro pins s σ H Q I h;rw[eval_ListComp];refine Pn (use:=ζ) Z K (qP$ Jv I S) S.kind S.loc$ aL (y pins s σ H _ I h) λxv s1 L=>aL L λO s2 P=>?_;obtain⟨it,f,tn,J,H2,e,U,T,d,V,R⟩:=P;subst e;refine K0 (RR:=λj C=>compPost (χ X.prog X.w) X.A X.xe ζ (EP X pins σ Q) j C) U v T d V S z B G R ?_;intro D C ys m H' Y _ n I' F ns q;exact#[m,ns,λh' sb=>#[.ref D,_,I'.turned (t':=Y.toks) (λb o hb e=>(sb.2 b hb).trans e) F.1 F.2.1 F.2.2.2.1 F.2.2.2.2.1 F.2.2.2.2.2,Z,q D n]]
theorem Y4{t E iter:fr}{d:List fr}{c:sB}{p P f:Pos}{y:π}{i:Nat}{M:List π}{U:Nat}{V:List Nat}{W:TI}{g:TG}{Y:TT}{te:TE}(hN:X.N.Nodup)(hy:X.N[i]?=δ y)(hx:oC X.env.scope y)
  (hc:X.calm=μ) (hI:PI X t iter W) (S:bp X.N X.env.scope c M U V)
  (hg:∀l C j s H,PG (a9 X c M l C j s H) t g) (hi:∀l C j s H,PF (a9 X c M l C j s H) d Y) (he:∀l C j s H,PE (a9 X c M l C j s H) E te)
  (r:swapsWith (.ListComp E [#[t,iter,d,0]] c p) (δ$ .Name y P) f.line X.env=pure μ:=by rfl)
  (hf:X.fn y=μ∨X.env.scope.names.lookup y=δ .local:=by first |exact .inl Z |exact .inr Z |assumption)
  (hs:∀x,foldedSetIterable iter X.env x=pure x:=by intro _;rfl):
  PS X (.Assign [.Name y P] (.ListComp E [#[t,iter,d,0]] c p) f) (λD σ H=>uj W U V g Y te σ H λv H1=>D.nx (σ.set i$ δ v) H1):=by
 intro pins s σ H D I h;rw[exec_Assign_Name_used _ _ _ _ r];refine Ih$ Mm$ Ih ?_;show ξ _ X.A (do let _ <- comprehension (.ListComp E [#[t,iter,d,0]] c p) c X.env _ (newList []) ν (eval iter X.env) (δ$ assign (.Name y P) X.env)) _ _ s;refine Ih (aL (Pn (use:=δ (assign (.Name y P) X.env)) (Q:=λ_ k=>SP X pins D .next k) Z hs (qP$ Jv I S) S.kind S.loc
  (aL (hI pins s σ H _ I h) λxv s1 h1=>aL h1 λi0 s2 h2=>?_)) λ_ k hq=>Ij (Ij hq))
 obtain⟨it,j,tn,J,H2,e,I2,T,u,f2,R⟩:=h2;subst e;refine K0 (RR:=λB C=>compPost (χ X.prog X.w) X.A X.xe (δ$ assign (.Name y P) X.env) (λ_ k=>SP X pins D .next k) B C) I2 hc T u f2 S hg hi he R ?_;intro Dd C ys m H' k _ n I' F ns q;show ξ _ X.A (assign (.Name y P) X.env$ .ref Dd) _ _ k;refine RQ$ QB I' hN hy hx (v:=.ref Dd) Z (λG K hh=>?_) hf;obtain⟨a,sb,ha⟩:=hh;let L:C≠a:=by
  rcases ha with z |z
  .rw[z];exact F.2.1
  .exact IC$ F.2.2.2.2.1 _ _ z
 exact#[m,ns.sameBut sb L,λh' O=>#[_,_,K.turned (t':=G.toks) (λb o hb e=>(O.2 b hb).trans e) F.1 F.2.1 F.2.2.2.1 F.2.2.2.2.1 F.2.2.2.2.2,q Dd n]]
end
section
variable {X:Cx}
def CW(i j:Int):Prop:=0 < j/\j<=1000000000000000000
theorem Jw:gp X (binaryOp .FloorDiv) (rI CW λi j=>.int (i / j)):=Fb λi j _ _ _ _ _ h q=>by
 let b:(0:Int) < j:=h.1;let c:j<=1000000000000000000:=h.2;refine floordiv_int Hz (by rw[Int.fdiv_eq_ediv_of_nonneg i Hz];exact q)$ .inl$ PyProof.noPylong_of_log2 ?_;let H:j.natAbs≠0:=by omega
 let a:j.natAbs < 2 ^ 60:=by omega
 let d:j.natAbs.log2 < 60:=(Nat.log2_lt H).mpr a;omega
theorem qh:∀{Y:List π} {U:List η},aw (Y.map HV) U->StrsAre U Y
 | [],_,.nil=>.nil
 |y::r,_,.cons (b:=u) h t=>by obtain⟨T,e⟩:∃T,u=FC y T:=h;subst e;exact .cons y T$ qh t
theorem Xb:ES X "str.join" (λx a H Q=>∃(z:π) (p:ε) (y:List π),x= .str z/\a=[.ref p]/\aG X.K H p (y.map HV)/\z.length<=16/\(y.map (·.length)).sum+y.length<=1048576/\Q (.str$ Txt.join z y) H):=by intro P s l H x a v U Q I r R h;obtain⟨z,p,y,rfl,rfl,b,c,d,q⟩:=h;obtain⟨u,rfl,e⟩:=eB R;cases e;obtain⟨t,rfl⟩:=r;obtain⟨i,f,g,j⟩:=I.list b;exact join_listW g.isList (by simpa using qh f) c d λT k=>#[.str _,H,I.tok k,#[_,Z],q]
def pN:fr->Option V
 | .Constant (.str x) _ _=>δ (.str x)
 | .Constant (.int i) _ _=>δ (.int i)
 |_=>ζ
theorem BF(h:pN e=δ v):PE X e (tC v):=by
 cases e with
 |Constant c j p=>
  cases c with
  |str x=>cases h;exact jj
  |int i=>cases h;exact jf
  |_=>cases h
 |_=>cases h
theorem t9(h:pN e=δ v):Θ (e::a) E=(ν,eval e E)::Θ a E:=by
 cases e with
 |Constant c j p=>rfl
 |_=>cases h
def rC(e:fr):Bool:=(pN e).isSome
def pM(e:fr):V:=(pN e).getD .non
theorem Xc:∀{E:List fr},E.all rC=μ->PA X E (λ_ H Q=>Q (E.map pM) H)
 | [],_=>jb
 |e::E,h=>by
  rw[OY,Ly]at h;obtain⟨v,a⟩:=FA.mp (show(pN e).isSome=μ from h.1);let b:pM e=v:=by unfold pM;rw[a];rfl
  rw[La,b];exact ja (BF a) (Xc h.2)$ t9 a
theorem ZJ{E:List fr}(h:E.all rC=μ):(E.map pM).all cX=μ:=by
 rw[Rc]at h ⊢;intro v H;obtain⟨e,a,rfl⟩:=cJ.mp H;let q:=h e a;unfold rC at q;unfold pM;cases e with
 |Constant c j p=>
  cases c with
  |str x=>rfl
  |int i=>rfl
  |_=>exact absurd q Iu
 |_=>exact absurd q Iu
def EE(t:TS):TS:=λD b H=>∃R:St->Hp->Prop,t { D with nx:=R } b H/\∀a h,R a h->D.nx a h
theorem jZ{st:ey}{t:TS}(h:PS X st t):PS X st (EE t):=by
 intro p s b H D I c;obtain⟨R,d,e⟩:=c;refine aL (h p s b H _ I d) λf S q=>?_;cases f with
 |next=>obtain⟨a,g,i,q⟩:=q;exact#[a,g,i,e _ _ q]
 |brk=>exact q
 |cont=>exact q
 |ret v=>exact q
theorem rJ{t:St}(h:t.length=1):∃v,t=[v]:=by
 cases t with
 |nil=>cases h
 |cons v r=>
  cases r with
  |nil=>exact#[v,Z]
  |cons _ _=>cases h
theorem XV{lo:Int}{t:TE}{Q:List V->Hp->Prop}(Pv:Nat->List V->Hp->Prop)(g:Pv 0 [] H)(j:n<=υ)(b:∀i Y h,Pv i Y h->Y.length<=i)
  (k:∀i Y h,i < n->Pv i Y h->t (δ (.int$ lo+i)::c) h λy d=>Pv (i+1) (Y++[y]) d) (l:∀Y h,Pv n Y h->Q Y h):
  eJ (uY lo n) 1 c (bG 0) mv t Q H:=by
 refine#[λi m Y h=>m=n - i/\i<=n/\Pv i Y h,#[n,Hy,Is _,g],?_];rintro i m Y h ⟨rfl,q,p⟩;by_cases a:i < n
 .refine .inr #[a,LP (b i Y h p)$ IE a j,Pv$ i+1,λo d P=>#[n - (i+1),Hz,Z,a,P],λx d T f y=>?_];obtain⟨e,y⟩:=y;subst e y;obtain⟨v,rfl⟩:=rJ f;exact#[#[[δ _],Z,Z],k i Y _ a p]
 .let e:i=n:=by omega
  subst e;exact .inl #[Im _,l Y h p]
end
section
variable {κ:Type}[DecidableEq κ]
def cg(K:List (κ×V))(k:κ):Option V:=(K.find? λa=>decide (a.1=k)).map (·.2)
def ax(K:List (κ×V))(k:κ)(v:V):List (κ×V):=
 if (K.any λa=>decide (a.1=k))=μ then K.map (λa=>if a.1=k then (a.1,v) else a) else K++[(k,v)]
theorem kj{p:κ×V}(e:p.1=k):cg (p::r) k=δ p.2:=by simp [cg,Lb,e]
theorem kl{p:κ×V}(e:¬p.1=k):cg (p::r) k=cg r k:=by simp [cg,Lb,e]
theorem Jx(k:κ):∀K:List (κ×V),(K.any λa=>decide (a.1=k))=(cg K k).isSome
 | []=>rfl
 |p::r=>by
  rw[Nh];by_cases e:p.1=k
  .simp only[kj e,IW e,RY,Option.isSome_some]
  .rw[kl e,II e,Bool.false_or];exact Jx k r
theorem Xw(k j:κ)(y:V):∀K:List (κ×V),cg (K.map λa=>if a.1=k then (a.1,y) else a) j=(cg K j).map λx=>if j=k then y else x
 | []=>rfl
 |p::r=>by
  let i:=Xw k j y r;rw[La];by_cases h:p.1=k
  .rw[Iw h];by_cases e:p.1=j
   .rw[kj (p:=(p.1,y)) e,kj e,Nr,Iw$ e.symm.trans h]
   .rw[kl (p:=(p.1,y)) e,kl e,i]
  .rw[Iy h];by_cases e:p.1=j
   .rw[kj (p:=p) e,kj e,Nr,Iy (λz=>h (e.trans z))]
   .rw[kl (p:=p) e,kl e,i]
theorem QJ(k j:κ)(y:V):∀K:List (κ×V),cg K k=ζ->cg (K++[(k,y)]) j=if j=k then δ y else cg K j
 | [],_=>by
  by_cases e:k=j
  .rw[Iw e.symm];exact kj (p:=(k,y)) e
  .rw[Iy (λz=>e z.symm)];exact kl (p:=(k,y)) e
 |p::r,h=>by
  rw[List.cons_append];let H:¬p.1=k:=λz=>by rw[kj z]at h;cases h
  rw[kl H]at h;let i:=QJ k j y r h;by_cases e:p.1=j
  .rw[kj e,kj e,Iy (λz=>H (e.trans z))]
  .rw[kl e,kl e,i]
theorem qx(K:List (κ×V))(k j:κ)(y:V):cg (ax K k y) j=if j=k then δ y else cg K j:=by
 unfold ax;by_cases a:(K.any λb=>decide (b.1=k))=μ
 .rw[Iw a,Xw];rw[Jx]at a;by_cases e:j=k
  .obtain⟨x,h⟩:=FA.mp a;rw[Iw e,e,h,Nr,Iw Z]
  .rw[Iy e];cases cg K j with
   |none=>rfl
   |some x=>rw[Nr,Iy e]
 .rw[Iy a];refine QJ k j y K ?_;rw[Jx]at a;cases q:cg K k with
  |none=>rfl
  |some x=>rw[q]at a;exact(a Z).elim
theorem qH(K:List (κ×V))(k:κ)(v:V):(ax K k v).length<=K.length+1:=by
 unfold ax;split
 .rw[Ik];omega
 .rw[Io,IL,M0];omega
theorem dR.isSome_eq(r:dR o u):o.isSome=u.isSome:=by
 cases o with
 |none=>cases u with
  |none=>rfl
  |some _=>exact(show False from r).elim
 |some _=>cases u with
  |none=>exact(show False from r).elim
  |some _=>rfl
theorem dR.getD(r:dR o u)(R:aB d D):aB (o.getD d) (u.getD D):=by
 cases o with
 |none=>cases u with
  |none=>exact R
  |some _=>exact(show False from r).elim
 |some _=>cases u with
  |none=>exact(show False from r).elim
  |some _=>exact r
theorem KV.val(r:KV a v)(k:κ):dR (cg a k) (valueAt v k):=by
 unfold KV at r;induction r with
 |nil=>exact True.intro
 | @cons p q P Q h t i=>
  obtain⟨H,c⟩:=h;by_cases e:p.1=k
  .let E:q.1=k:=H.symm.trans e;let b:valueAt (q::Q) k=δ q.2:=by simp [valueAt,Lb,E]
   rw[kj e,b];exact c
  .let E:¬q.1=k:=λz=>e (H.trans z);let b:valueAt (q::Q) k=valueAt Q k:=by simp [valueAt,Lb,E]
   rw[kl e,b];exact i
theorem KV.any(r:KV a v)(k:κ):(a.any λK=>decide (K.1=k))=v.any λK=>decide (K.1=k):=by
 unfold KV at r;induction r with
 |nil=>rfl
 |cons h t i=>rw[Nh,Nh,i,h.1]
theorem KV.repl(r:KV a v)(k:κ)(R:aB y u):
  KV (a.map λK=>if K.1=k then (K.1,y) else K) (v.map λK=>if K.1=k then (K.1,u) else K):=by
 unfold KV at r ⊢;induction r with
 |nil=>exact .nil
 | @cons p q P Q h t i=>
  rw[La,La];refine .cons ?_ i;obtain⟨H,b⟩:=h;by_cases e:p.1=k
  .rw[Iw e,Iw$ H.symm.trans e];exact#[H,R]
  .rw[Iy e,Iy (λz=>e (H.trans z))];exact#[H,b]
theorem KV.put(r:KV a v)(k:κ)(R:aB y u):KV (ax a k y) (stored v k u):=by
 unfold ax stored;rw[r.any k];by_cases e:(v.any λK=>decide (K.1=k))=μ
 .rw[Iw e,Iw e];exact r.repl k R
 .rw[Iy e,Iy e];exact Paired.snoc r #[Z,R]
theorem KV.length(r:KV k v):k.length=v.length:=Paired.length r
end
theorem Kr{P:ψ}(r:aB (kV k) u):(aO P w).is k u=μ:=by
 cases k with
 |inl i=>obtain⟨t,e⟩:=(show ∃t,u=FW i t from r);subst e;exact XT P w i t
 |inr x=>obtain⟨t,e⟩:=(show ∃t,u=FC x t from r);subst e;exact XU P w x t
theorem QK{P:ψ}:∀{K:List bq} {u:List η},aw (K.map kV) u->ItemsAre (aO P w) K u
 | [],_,r=>by rw[O4]at r;cases r;exact .nil
 |k::K,_,r=>by
  rw[La]at r;cases r with
  |cons h t=>exact .cons (Kr h) (QK t)
abbrev KT(H:Hp):List (List bq×V)->List (List bq×ε×η)->Prop:=Paired λp q=>p.1=q.1/\H q.2.1=δ (.tup$ p.1.map kV)/\aB p.2 q.2.2
theorem KT.val(r:KT H a x)(k:List bq):dR (cg a k) ((atKey x k).map (·.2)):=by
 induction r with
 |nil=>exact True.intro
 | @cons p q P Q h t i=>
  obtain⟨c,_,d⟩:=h;by_cases e:p.1=k
  .let E:q.1=k:=c.symm.trans e;let b:atKey (q::Q) k=δ q.2:=by simp [atKey,Lb,E]
   rw[kj e,b];exact d
  .let E:¬q.1=k:=λz=>e (c.trans z);let b:atKey (q::Q) k=atKey Q k:=by simp [atKey,Lb,E]
   rw[kl e,b];exact i
theorem KT.repl(r:KT H b x)(k:List bq)(R:aB y u):
  KT H (b.map λK=>if K.1=k then (K.1,y) else K) (x.map$ putAt k u):=by
 induction r with
 |nil=>exact .nil
 | @cons p q P Q h t i=>
  rw[La,La];refine .cons ?_ i;obtain⟨a,c,d⟩:=h;unfold putAt;by_cases e:p.1=k
  .rw[Iw e,Iw$ a.symm.trans e];exact#[a,c,R]
  .rw[Iy e,Iy (λz=>e (a.trans z))];exact#[a,c,d]
theorem KT.put(r:KT H a x)(k:List bq)(h:H b=δ (.tup$ k.map kV))(R:aB y u):
  KT H (ax a k y) (storedH x k b u):=by
 let e:(a.any λK=>decide (K.1=k))=(atKey x k).isSome:=by rw[Jx,(r.val k).isSome_eq,Pq]
 unfold ax storedH;rw[e];by_cases q:(atKey x k).isSome=μ
 .rw[Iw q,Iw q];exact r.repl k R
 .rw[Iy q,Iy q];exact Paired.snoc r #[Z,h,R]
theorem KT.keeps{h:Hp}(r:KT H k x)(a:∀b y,H b=δ (.tup y)->h b=δ (.tup y)):KT h k x:=
 Paired.mapP r λ_ _ z=>#[z.1,a _ _ z.2.1,z.2.2]
section
variable {P:ψ}{w:dg}{H:Hp}{h:fv}{a:ε}
theorem yP(o:eK P w H h)(e:Rd H a u):aS P w H h a u:=e.ok o
theorem Ks(o:eK P w H h)(e:Rd H a (.dK k)):k.length<=υ/\(a==sysModules)=ν/\∃v,KV k v/\h.DictOf (aO P w) a v:=
 show aS P w H h a (.dK k) from yP o e
theorem YT(o:eK P w H h)(e:H a=δ (.dK k)):k.length<=υ/\(a==sysModules)=ν/\∃v,KV k v/\h.DictOf (aO P w) a v:=Ks o (.inl e)
theorem KB{k:List bq}(O:eK P w H h)(e:H a=δ (.tup$ k.map kV)):(tupleKind$ aO P w).is h k a:=by obtain⟨_,i,r,o,b,c,n,d⟩:=(show aS P w H h a (.tup$ k.map kV) from O a _ e);exact#[o,i.toArray,n,b,c,d,by simpa using QK r]
theorem Qx(O:eK P w H h)(e:Rd H a (.dT k)):k.length<=υ/\(a==sysModules)=ν/\
  ∃X,KT H k X/\h.DictOfH (tupleKind$ aO P w) a X:=by
 obtain⟨z,y,X,r,o,E,c,d,f,g,i,j⟩:=(show aS P w H h a (.dT k) from yP O e);refine#[z,y,X,r,o,E,c,d,f,g,i,λx hx=>?_,j];let all:∀{l:List (List bq×V)} {m:List (List bq×ε×η)},KT H l m->∀x∈m,(tupleKind$ aO P w).is h x.1 x.2.1:=by
  intro l m q;induction q with
  |nil=>intro x hx;exact nomatch hx
  | @cons p q n Q b t I=>
   intro x hx;rcases Δ.mp hx with e |hx
   .subst e;exact KB O (by rw[<- b.1];exact b.2.1)
   .exact I x hx
 exact all r x hx
theorem Dj(o:eK P w H h)(e:H a=δ (.dT k)):k.length<=υ/\(a==sysModules)=ν/\
  ∃x,KT H k x/\h.DictOfH (tupleKind$ aO P w) a x:=Qx o (.inl e)
end
def a6(H:Hp)(a:ε)(y:V)(r:Option V):Prop:=
 (∃K k,Rd H a (.dK K)/\y=kV k/\r=cg K k)∨∃K k b,Rd H a (.dT K)/\y= .ref b/\H b=δ (.tup$ k.map kV)/\r=cg K k
def dU(H:Hp)(a:ε)(y v:V)(h:Hp):Prop:=
 (∃K k,H a=δ (.dK K)/\y=kV k/\K.length < υ/\h=aj H a (.dK$ ax K k v))∨
 ∃K k b,H a=δ (.dT K)/\y= .ref b/\H b=δ (.tup$ k.map kV)/\K.length < υ/\h=aj H a (.dT$ ax K k v)
theorem a6.k{H:Hp}{k:bq}(e:H a=δ (.dK b)):a6 H a (kV k) (cg b k):=.inl #[b,k,.inl e,Z,Z]
theorem dU.k{H:Hp}{k:bq}(e:H a=δ (.dK b))(h:b.length < υ):dU H a (kV k) v (aj H a$ .dK$ ax b k v):=.inl #[b,k,e,Z,h,Z]
section
variable {X:Cx}{pins:List (ε×pz)}{σ:St}{H:Hp}{s:θ}{a:ε}{y v:V}{u r:η}{o:Option V}{A:ef}{E:η->θ->Prop}
theorem aq.big(I:aq X pins σ H s):sysModules < s.heap.objs.size:=by let h:Ψ < s.heap.objs.size:=(I.mod.glob.keeps I.bk).lt;exact Sl HA h
theorem ZK{Q:η->θ->Prop}(m:A.units+1 < cLine)(I:aq X pins σ H s)(g:a6 H a y (δ v))(j:aB y u)(h:∀W S,aq X pins σ H S->aB v W->Q W S):
  ξ (χ X.prog X.w) A (getItem (.ref a) u) Q E s:=by
 rcases g with ⟨K,k,e,d,l⟩ | ⟨K,k,b,e,d,n,l⟩
 .subst d;obtain⟨z,q,t,R,D⟩:=Ks I.hok e;obtain⟨W,f,c⟩:=dR.some_of (v:=v) (o:=valueAt t k) (by rw[l];exact R.val k);exact wpAny_getItem_of (Kr j) D.mapOf f$ h W _ (I.tok _) c
 .subst d;cases (show u=Ξ b from j);obtain⟨z,q,x,R,D⟩:=Qx I.hok e;obtain⟨W,f,c⟩:=dR.some_of (v:=v) (o:=(atKey x k).map (·.2)) (by rw[l];exact R.val k);obtain⟨p,B,i⟩:=fy.mp f;refine wpAny_getItem_heap (Nj m) (KB I.hok n) D B ?_;rw[i];exact h W _ (I.tok _) c
theorem FE{Q:η->θ->Prop}(i:A.units+1 < cLine)(I:aq X pins σ H s)(g:a6 H a y o)(f:aB y u)(h:∀S,aq X pins σ H S->Q (.bool o.isSome) S):
  ξ (χ X.prog X.w) A (compareOp .In u$ .ref a) Q E s:=by
 rcases g with ⟨K,k,e,c,l⟩ | ⟨K,k,b,e,c,j,l⟩
 .subst c;obtain⟨z,d,m,R,D⟩:=Ks I.hok e;refine wpAny_in_of (Kr f) d D.mapOf ?_;rw[<- (R.val k).isSome_eq,<- l];exact h _$ I.tok _
 .subst c;cases (show u=Ξ b from f);obtain⟨z,d,x,R,D⟩:=Qx I.hok e;refine wpAny_in_heap (Nj i) (KB I.hok j) d D ?_;let q:=(R.val k).isSome_eq;rw[Pq]at q;rw[<- q,<- l];exact h _$ I.tok _
theorem Xd(I:aq X pins σ H s)(m:C2 (H a))(c:kw a s.heap h)(d:∃q,h.get? a=δ q)(n:aS X.prog X.w (aj H a O) h a O):
  aq X pins σ (aj H a O) { s with heap:=h,toks:=t }:=
 I.write (x:=a) (e:=a) m (.inl Z) (λb q f z=>(c.2 b f).trans z) d n
theorem Q3{P:ψ}{h:fv}{k:List (bq×V)}(z:k.length<=υ)(c:(a==sysModules)=ν)(R:KV k b)(d:h.DictOf (aO P w) a b):
  aS P w e h a (.dK k):=#[z,c,b,R,d]
theorem ZL{Q:Unit->θ->Prop}(J:A.units+1 < cLine)(I:aq X pins σ H s)(g:dU H a y v L)(x:aB y u)(B:aB v r)(h:∀S,aq X pins σ L S->Q () S):
  ξ (χ X.prog X.w) A (setItem (.ref a) u r) Q E s:=by
 rcases g with ⟨K,k,e,i,l,j⟩ | ⟨K,k,b,e,i,C,l,j⟩
 .subst i j;obtain⟨z,m,M,R,D⟩:=YT I.hok e;let n:M.length<=υ:=by rw[<- R.length];exact z
  let p:(ax K k v).length<=υ:=by let:=qH K k v;omega
  refine wpAny_setItem_pairs (hsz:=n) (Kr x) D λF d t=>h _ ?_;let N:∃q,F.get? a=δ q:=let #[q,_,_,f,_]:=d;#[q,f]
  exact Xd I (by rw[e];exact True.intro) t N$ Q3 p m (R.put k B) d
 .subst i j;cases (show u=Ξ b from x);obtain⟨z,m,O,R,D⟩:=Dj I.hok e;let n:O.length<=υ:=by rw[<- Paired.length R];exact z
  let p:(ax K k v).length<=υ:=by let:=qH K k v;omega
  refine wpAny_setItem_heap (hsz:=n) (Nj J) (KB I.hok C) D λF d t=>h _ ?_;obtain⟨q,P,T,f,U,W,Y,_,h5⟩:=d;refine Xd I (by rw[e];exact True.intro) t #[q,f] #[p,m,_,(R.put k C B).keeps λc ys G=>?_,q,P,T,f,U,W,Y,h5];rw[ji$ jE G e (λz=>nomatch z)];exact G
end
def C3(i:fr):Prop:=∀o I,subscripted i ν o I=operate [o,I] (getItem o I)
theorem xJ{id:String}
  (k:typeLookup (.type T) "__getitem__"=pure (δ$ .builtin id)) (l:C3 a)
  (h:ξ (χ p w) A (eval v e) (λo b=>ξ (χ p w) A (eval a e) (λi S=>S.TypeIs o T/\ξ (χ p w) A (getItem o i) Q E S) E b) E s):
  ξ (χ p w) A (eval (.Subscript v a m) e) Q E s:=by
 refine RL$ Lj h (λo b d=>Lj d (λi S H=>?_) λ_ _ x=>x) λ_ _ x=>x;obtain⟨j,H⟩:=H;unfold subscriptTail;refine Ih ?_;rw[getitemInPython_of_ne j.not_modules];refine Ih$ LY j k ?_;let f:ξ (χ p w) A (subscripted a ν o i) (λr c=>ξ (χ p w) A (letTemporaryGo v o r >>= λ_=>pure r) Q E c) E S:=by rw[l o i];exact wpAny_operating$ Lj H (λr c g=>Ih (wpAny_letTemporaryGo$ Ij g)) λ_ _ x=>x
 first
  |exact Ij (Ih f)
  |exact Ih (Ij (Ih f))
  |exact Ih f
theorem XX{X:Cx}(I:aq X p c H s)(g:a6 H a y o):s.TypeIs (.ref a) "dict":=by
 rcases g with ⟨K,k,e,_,_⟩ | ⟨K,k,b,e,_,_,_⟩
 .obtain⟨_,_,v,_,d⟩:=Ks I.hok e;exact d.typeIs
 .obtain⟨_,_,x,_,d⟩:=Qx I.hok e;exact d.typeIs
inductive uk(Q:VK)(x y:V)(b:Hp):Prop
 |mk(a v:_)(_:x= .ref a)(_:a6 b a y (δ v))(_:Q v b)
def EA(t T:TE):TE:=λa H Q=>t a H λx h=>T a h (uk Q x)
inductive yX(Q:VK)(y x:V)(b:Hp):Prop
 |mk(a o:_)(_:x= .ref a)(_:a6 b a y o)(_:Q (.bl o.isSome) b)
def Gj(t T:TE):TE:=λa H Q=>t a H λy h=>T a h (yX Q y)
inductive sP(D:a7)(d:St)(v x y:V)(b:Hp):Prop
 |mk(a c:_)(_:x= .ref a)(_:dU b a y v c)(_:D.nx d c)
def sO(t T b:TE):TS:=λD a H=>b a H λv h=>t a h λx c=>T a c (sP D a v x)
section
variable {X:Cx}{o i e value:fr}{pos pos' tpos:Pos}{td ty tv:TE}
theorem ke(d:X.A.units+1 < cLine)(f:PE X o td)(j:PE X i ty)(k:C3 i):PE X (.Subscript o i pos) (EA td ty):=by intro p s b H Q I h;refine xJ PySem.F.slot_dict_getitem.lookup k$ aL (f p s b H _ I h) λu S #[x,l,m,R,q]=>aL (j p S b l _ m q) λC D z=>?_;obtain⟨y,n,c,t,a,v,E,g,w⟩:=z;subst E;obtain rfl:u=Ξ a:=R;exact#[XX c g,ZK d c g t λW G B r=>#[v,n,B,r,w]]
theorem BC(c:X.A.units+1 < cLine)(d:PE X i ty)(f:PE X o td):PC X .In i o (Gj ty td):=by intro p s b H Q I h;refine aL (d p s b H _ I h) λv S #[y,j,k,r,q]=>aL (f p S b j _ k q) λu w z=>?_;obtain⟨x,l,m,R,a,O,E,g,n⟩:=z;subst E;obtain rfl:u=Ξ a:=R;exact FE c m g r λB t=>#[.bl O.isSome,l,t,Z,n]
theorem kf(c:X.A.units+1 < cLine)(d:PE X o td)(f:PE X i ty)(j:PE X value tv)(k:swapsWith value (δ$ .Subscript o i pos') pos.line X.env=pure ν):
  PS X (.Assign [.Subscript o i pos'] value pos) (sO td ty tv):=by
 intro p s b H D I h;refine wpAny_Assign_Subscript (aL (j p s b H _ I h) λr S #[v,l,m,R,q]=>aL (d p S b l _ m q) λu n #[x,t,w,B,Q]=>aL (f p n b t _ w Q) λL M z=>?_) k;obtain⟨y,N,C,E,a,F,G,g,J⟩:=z;subst G;obtain rfl:u=Ξ a:=B;exact ZL c C g E R λO K=>#[b,F,K,J]
end
theorem Xx{P:ψ}(h:fv)(a:sysModules < h.objs.size):aS P w H (h.push { cls:=.type "dict",data:=.dict (ι []) }) h.objs.size (.dK []):=
 #[Is _,beq_eq_false_iff_ne.mpr$ IC$ Iz a,[],.nil,O7 h]
def Cw:TE:=λ_ H Q=>∀p,H p=ζ->Q (.ref p) (aj H p$ .dK [])
section
variable {X:Cx}{pos:Pos}
theorem Jy:PE X (.Dict [] [] pos) Cw:=λp s b H Q I h=>
 wpAny_Dict_empty #[.ref s.heap.objs.size,_,I.laid (a:=s.heap.objs.size) (o:=.dK []) (t':=s.toks) (λ_ _ q=>Il _ q) (Im _)$ Xx s.heap I.big,Z,h _$ I.hok.fresh$ Im _]
end
def nH:List (TE×TE)->St->Hp->(List (V×V)->Hp->Prop)->Prop
 | [],_,H,Q=>Q [] H
 | (t,T)::r,a,H,Q=>t a H λx h=>T a h λy b=>nH r a b λp c=>Q ((x,y)::p) c
abbrev VV:List (V×V)->List (η×η)->Prop:=Paired λp q=>aB p.1 q.1/\aB p.2 q.2
def EU(X:Cx)(P:Pos)(k:List (Option fr))(v:List fr)(t:List (TE×TE)):Prop:=
 ∀(p:List (ε×pz)) (s:θ) (a:St) (H:Hp) (Q:List (V×V)->Hp->Prop),aq X p a H s->nH t a H Q->
  ξ (χ X.prog X.w) X.A (evalPairs$ pairTrees k v X.env P) (λc S=>∃b h,aq X p a h S/\VV b c/\Q b h) X.xe s
theorem wJ{X:Cx}{p:Pos}:EU X p [] [] []:=λP s a H Q I h=>pairTrees_nil_walk #[[],H,I,.nil,h]
theorem zU{X:Cx}{P:Pos}{k v:fr}{K:List (Option fr)}{V:List fr}{T b:TE}{t:List (TE×TE)}(c:PE X k T)(d:PE X v b)(e:EU X P K V t):
  EU X P (δ k::K) (v::V) ((T,b)::t):=λp s a H Q I h=>
 pairTrees_cons_walk (aL (c p s a H _ I h) λu S #[x,f,i,R,q]=>aL (d p S a f _ i q) λW g #[y,j,l,m,n]=>
  aL (e p g a j _ l n) λB C #[o,w,z,r,A]=>#[(x,y)::o,w,z,.cons #[R,m] r,A])
def bV(k m:List (bq×V)):List (bq×V):=m.foldl (λa K=>ax a K.1 K.2) k
theorem KV.merge:∀{m:List (bq×V)} {R:List (bq×η)} {k:List (bq×V)} {v:List (bq×η)},KV m R->KV k v->KV (bV k m) (merged v R):=by
 intro m R k v r;unfold KV at r;induction r generalizing k v with
 |nil=>intro q;exact q
 | @cons p q P Q h t i=>
  intro a;let e:KV (ax k p.1 p.2) (stored v q.1 q.2):=by let:=a.put p.1 h.2;rw[<- h.1];exact this
  exact i e
theorem zS:∀(m k:List (bq×V)),(bV k m).length<=k.length+m.length
 | [],k=>by show k.length<=k.length+0;omega
 |p::r,k=>by let h:=zS r (ax k p.1 p.2);let H:=qH k p.1 p.2;show(bV (ax k p.1 p.2) r).length<=_;rw[IL];omega
theorem K2{P:ψ}{w:dg}:∀{k:List (bq×V)} {W:List (η×η)},VV (k.map λK=>(kV K.1,K.2)) W->∃R,Carries (aO P w) W R/\KV k R
 | [],_,r=>by rw[O4]at r;cases r;exact#[[],True.intro,.nil]
 |p::k,_,r=>by
  rw[La]at r;cases r with
  | @cons a b A d h t=>obtain⟨R,c,q⟩:=K2 (P:=P) (w:=w) t;obtain⟨e,B⟩:=b;exact#[(p.1,B)::R,#[Kr h.1,Z,c],.cons #[Z,h.2] q]
def EB(t:List (TE×TE)):TE:=λa H Q=>∀p,H p=ζ->nH t a (aj H p$ .dK []) λP h=>h p=δ (.dK [])/\∃k:List (bq×V),P=k.map (λK=>(kV K.1,K.2))/\k.length<=15/\Q (.ref p) (aj h p$ .dK$ bV [] k)
theorem wF{X:Cx}{p:Pos}{k:List (Option fr)}{v:List fr}{t:List (TE×TE)}(h:EU X p k v t)(b:k.all (·.isSome)=μ)(j:k.length=v.length)(l:k≠[])
  (f:k.length<=15):PE X (.Dict k v p) (EB t):=by
 intro d s m H Q I q;let n:=I.hok.fresh (Im s.heap.objs.size);let u:=I.laid (a:=s.heap.objs.size) (o:=.dK []) (h':=s.heap.push { cls:=.type "dict",data:=.dict (ι []) }) (t':=s.toks) (λ_ _ q=>Il _ q) (Im _) (Xx s.heap I.big);refine wpAny_Dict_walk (knd:=aO X.prog X.w) b j l f$ aL (h d _ m _ _ u$ q _ n) λW S g=>?_;obtain⟨N,O,i,r,e,K,E,lk,x⟩:=g;subst E;obtain⟨R,c,y⟩:=K2 (P:=X.prog) (w:=X.w) r;obtain⟨z,A,V,B,C⟩:=YT i.hok e;cases B;refine#[R,c,C,λh' D F=>#[.ref s.heap.objs.size,_,?_,Z,x]];let G:(bV [] K).length<=υ:=by let J:=zS K [];rw[M0]at J;rw[Nx];omega
 let L:∃q,h'.get? s.heap.objs.size=δ q:=let #[q,_,_,M,_]:=D;#[q,M]
 exact Xd i (by rw[e];exact True.intro) F L$ Q3 G A (y.merge .nil) D
structure M2(X:Cx)(o:fr)(m:π)(apos:Pos)(e f:fr)(cpos:Pos):Prop where
 base:attributeBase o m X.env (eval o X.env)=eval o X.env
 few:((hY cpos$ Θ [e,f] X.env).all (λx=>!x.1)&&(backToKw cpos$ keywordEach [] X.env).all (λx=>x.1.isSome)
  &&decide (([e,f]:List fr).length+([]:List Keyword).length+(if ([]:List Keyword).isEmpty then 0 else 1) < 30))=μ
 line:(apos.endLine==cpos.line)=μ
 trees:hY cpos (Θ [e,f] X.env)=[(ν,eval e X.env),(ν,eval f X.env)]
def Gs(H:Hp)(a:ε):Prop:=(∃k,Rd H a$ .dK k)∨∃k,Rd H a (.dT k)
theorem AT{X:Cx}(I:aq X p g H s)(d:Gs H a):
  s.TypeIs (.ref a) "dict"/\(∀b,Ξ a= .ref b->∃o,s.heap.get? b=δ o/\o.dict=ζ)/\(a==sysModules)=ν:=by
 rcases d with ⟨k,e⟩ | ⟨k,e⟩
 .obtain⟨_,h,v,_,D⟩:=Ks I.hok e;refine#[D.typeIs,λb q=>?_,h];cases q;obtain⟨o,_,_,c,f,_⟩:=D;exact#[o,c,f.2.1]
 .obtain⟨_,h,x,_,D⟩:=Qx I.hok e;refine#[D.typeIs,λb q=>?_,h];cases q;obtain⟨o,_,_,c,f,_⟩:=D;exact#[o,c,f.2.1]
section
variable {X:Cx}{pins:List (ε×pz)}{σ:St}{H:Hp}{s:θ}{a:ε}{y d:V}{u r:η}{o:Option V}{A:ef}{E:η->θ->Prop}
theorem Ar{Q:η->θ->Prop}(m:A.units+1 < cLine)(I:aq X pins σ H s)(g:a6 H a y o)(i:aB y u)(j:aB d r)(h:∀W S,aq X pins σ H S->aB (o.getD d) W->Q W S):
  ξ (χ X.prog X.w) A (call (.builtin "dict.get") [.ref a,u,r]) Q E s:=by
 rcases g with ⟨K,k,e,c,l⟩ | ⟨K,k,b,e,c,n,l⟩
 .subst c;obtain⟨z,f,v,R,D⟩:=Ks I.hok e;refine call_meetsIn Nq D.typeIs OK (OA _ _ _) (meets_dict_get_default (aO X.prog X.w) a (Kr i) f r) #[_,D.mapOf,h _ _ (I.tok _) ?_];rw[l];exact(R.val k).getD j
 .subst c;cases (show u=Ξ b from i);obtain⟨z,f,x,R,D⟩:=Qx I.hok e;refine call_meetsIn Nq D.typeIs OK (OA _ _ _) (meetsH_dict_get_default (tupleKind$ aO X.prog X.w) a b f r) #[Nj m,k,x,KB I.hok n,D,h _ _ (I.tok _) ?_];rw[l];exact(R.val k).getD j
end
inductive ou(d c:TE)(e:St)(Q:VK)(x:V)(b:Hp):Prop
 |mk(a:_)(_:x= .ref a)(_:Gs b a)(_:d e b λy H2=>c e H2 λz H3=>∃o,a6 H3 a y o/\Q (o.getD z) H3)
def Cu(t T b:TE):TE:=λa H Q=>t a H (ou T b a Q)
section
variable {X:Cx}{o e f:fr}{apos cpos:Pos}{td ty tx:TE}
theorem qy(j:X.A.units+1 < cLine)(k:PE X o td)(l:PE X e ty)(n:PE X f tx)(m:M2 X o "get" apos e f cpos):PE X (.Call (.Attribute o "get" apos) [e,f] [] cpos) (Cu td ty tx):=by
 intro p s b H Q I h;refine wpAny_Call_method m.base m.few m.line PySem.F.plainAttrs_dict Nq PySem.F.type_dict_get$ aL (k p s b H _ I h) λu S c=>?_;obtain⟨x,q,i,R,a,E,d,t⟩:=c;subst E;obtain rfl:u=Ξ a:=R;obtain⟨T,v,_⟩:=AT i d;refine#[T,v,?_];rw[m.trees];refine Nu Z (Pf (LB (aL (l p S b q _ i t) λO w #[y,B,C,D,G]=>
  LB (aL (n p w b B _ C G) λP U #[z,J,K,L,V,g,M]=>Mh ?_))))
 exact Ar j K g D L λW Y N r=>#[_,J,N,r,M]
end
section
variable {X:Cx}{pins:List (ε×pz)}{σ:St}{H:Hp}{s:θ}{a:ε}{kvs:List (bq×V)}{A:ef}{E:η->θ->Prop}
theorem pP{Q:η->θ->Prop}(I:aq X pins σ H s)(e:Rd H a (.dK kvs))(h:∀p S,H p=ζ->aq X pins σ (aj H p$ .dK kvs) S->Q (.ref p) S):ξ (χ X.prog X.w) A (call (.type "dict") [.ref a]) Q E s:=by obtain⟨z,f,v,r,D⟩:=Ks I.hok e;refine kt_call_dict f D (by rw[<- r.length];exact z) λi d g=>?_;refine h _ _ (I.hok.fresh$ Im _)$ I.laid (a:=s.heap.objs.size) (o:=.dK kvs) (t':=s.toks) (λb q c=>?_) (Im _)$ Q3 z (beq_eq_false_iff_ne.mpr$ IC$ Iz I.big) r d;exact(g.2 b$ Iz$ Iq c).trans (Il _ c)
end
section
variable {X:Cx}{pins:List (ε×pz)}{σ:St}{H:Hp}{s:θ}
theorem KV.get{a:Type}:∀{K:List (a×V)} {c:List (a×η)} {i:Nat} {k:a} {x:V},KV K c->K[i]?=δ (k,x)->∃v,c[i]?=δ (k,v)/\aB x v
 |_,_,_,_,_,.nil,e=>by simp at e
 |_,_,0,k,x,.cons (b:=q) r _,e=>by simp at e;subst e;obtain⟨R,d⟩:=r;obtain⟨g,Q⟩:=q;cases R;exact#[Q,Z,d]
 |_,_,i+1,k,x,.cons _ t,e=>by obtain⟨v,h,f⟩:=KV.get (i:=i) t (by simpa using e);exact#[v,by simpa using h,f]
theorem ZM:dS X (.type "dict") (λx H Q=>∃a k,x=[.ref a]/\H a=δ (.dK k)/\∀p,H p=ζ->Q (.ref p) (aj H p$ .dK k)):=by intro pins s σ H x U Q I r h;obtain⟨a,k,rfl,b,q⟩:=h;obtain⟨u,rfl,R⟩:=eB r;cases R;exact pP I (.inl b) λp S n i=>#[.ref p,_,i,Z,q p n]
theorem J4{a:Type}[DecidableEq a]{k:a}{y:η}:∀{K:List (a×η)},(K.map (·.1)).Nodup->(k,y)∈K->valueAt K k=δ y
 | [],_,h=>nomatch h
 | (j,z)::r,n,h=>by
  unfold valueAt;rw[La,NC]at n;rcases Δ.mp h with e |h
  .cases e;simp [Lb]
  .let b:¬j=k:=λe=>n.1 (by rw[e];exact cJ.mpr #[_,h,Z]);rw[Lb];simp only[b,decide_false];exact J4 n.2 h
theorem Xy{a:Type}[DecidableEq a]{A:ef}{s:θ}{K:List (a×η)}:∀{l:List (a×η)},(∀p∈l,∃y,valueAt K p.1=δ y/\SeqAt.EqAt A s p.2 y μ)->PySem.W.KeqHits A s K l μ
 | [],_=>.nil
 | (k,v)::r,h=>by obtain⟨y,c,d⟩:=h (k,v) ID;exact .hit (e:=μ) (b:=μ) c d$ Xy λp f=>h p (IK _ f)
theorem Bw(o:X.A.units < cLine):gp X (compareOp .Eq) (λx y H Q=>∃a b k,x= .ref a/\y= .ref b/\H a=δ (.dK k)/\H b=δ (.dK k)/\(∀p∈k,∃i,p.2= .int i)/\Q (.bl μ) H):=by
 intro pins s σ H x y v u Q I t w h;obtain⟨a,b,k,rfl,rfl,z,B,C,q⟩:=h;cases t;cases w;obtain⟨z1,M,V,R,E⟩:=YT I.hok z;obtain⟨z2,F,vb,d,D⟩:=YT I.hok B;let L:=R.length;let G:=d.length;obtain⟨_,_,_,_,_,_,_,_,N⟩:=id D;refine PySem.W.keq_eq (r:=μ) M F E D o (λ_=>Xy λp J=>?_) ?_
 .obtain⟨i,K,e⟩:=List.getElem_of_mem J;let c:i < k.length:=by omega
  let f:k[i]?=δ (k[i].1,k[i].2):=Ii c;obtain⟨O,g,j⟩:=R.get f;obtain⟨v2,P,l⟩:=d.get f;let S:p=(k[i].1,O):=by
   let:V[i]?=δ p:=by rw[Ii K,e]
   rw[this]at g;exact K' g
  subst S;obtain⟨n,T⟩:=C _ (ME c);rw[T]at j l;obtain⟨U,rfl⟩:=j;obtain⟨Y,rfl⟩:=l;refine#[_,J4 N$ IA P,?_];obtain⟨e',m,h2⟩:=HT.eqAt_int X.A.in1 s n U n Y;rw[h2.mpr Z]at m;exact m
 .rw[<- L,<- G,MV];exact#[.bl μ,H,I,Z,q]
theorem rN:ES X "str.index" (λx a H Q=>∃(z y:π) (i:Nat) (r:List Nat),x= .str z/\a=[.str y]/\Builtin.Str.occurrences z y 0 z.length 1=i::r/\Q (.int i) H):=by intro pins s σ H x a v U Q I R b h;obtain⟨z,y,i,r,rfl,rfl,c,q⟩:=h;obtain⟨u,rfl,T,rfl⟩:=eB b;obtain⟨t,rfl⟩:=R;exact SC.index c #[.int i,H,I.tok _,#[_,Z],q]
end
section
open PySem.W PySem.Calls Builtin Builtin.ObjectAttr
variable {prog:ψ}{w:dg}{A:ef}{E:η->θ->Prop}{s:θ}{K:Ω}{x C:ε}{ox:pz}{od:Option pz}{name:π}
structure pG(K:Ω)(C:ε):Prop where
 ga:findIn K (.ref C) "__getattribute__"=δ (δ$ .builtin "BaseException.__getattribute__")
 gh:findIn K (.ref C) "__getattr__"=δ ζ
 sa:findIn K (.ref C) "__setattr__"=δ (δ$ .builtin "object.__setattr__")
 cl:findIn K (.ref C) "__class__"=δ (δ$ .builtin "object.__class__")
 gt:specialIn K (.builtin "object.__class__") "__get__"=δ (δ$ .builtin "getset_descriptor.__get__")
 tk:takesIn K (.builtin "object.__class__")=δ μ
 mb:mroIn K C (.type "BaseException")=δ μ
 mo:mroIn K C (.type "object")=δ μ
 hd:hasDictIn K C=μ
abbrev oI:List η:=[.type "ValueError",.type "Exception",.type "BaseException",.type "object"]
end
section
open PySem.W PySem.Calls
variable {prog:ψ}{w:dg}{A:ef}{E:η->θ->Prop}{R:Result->θ->Prop}{K:Ω}{h:fv}{g:Array GenState}{d:Drawn}{t:Nat}{os:OsState}{C B:ε}
theorem ZN(q:excIn K C oI "ValueError.__new__"=μ):(∃p q N r f a s sub u c D k i j m o,K.lookup C=δ (excClassObj p q C N r f a s sub u c D k i j m o "ValueError.__new__")/\tailIn K oI f=μ/\nsOkIn K N=μ/\nsIn K N "__init__"=δ ζ):=by
 unfold excIn at q;split at q
 .rename_i D z S F
  split at q
  .rename_i O f k i j m n o x y
   simp only[Ly,beq_iff_eq,PZ]at q;obtain⟨⟨⟨⟨⟨rfl,rfl⟩,H⟩,G⟩,b⟩,e⟩:=q;obtain⟨p,r,M,I,Q,J,s,sub,u,c,L⟩:=z;dsimp only at x H b e;subst x H;let v:S=(ι [k,i,j,m,δ$ .builtin "ValueError.__new__",o]):=by obtain⟨l⟩:=S;simp only at y;rw[y]
   subst v;exact#[p,Q,I,r,f,J,s,sub,u,c,D,k,i,j,m,o,F,G,b,e]
  .cases q
 .cases q
end
theorem aS.obj{P:ψ}{a:ε}(x:aS P w H h a o):∃u,h.get? a=δ u:=by
 cases o with
 |lst X=>obtain⟨_,_,_,_,e⟩:=x;exact#[_,e]
 |tup X=>obtain⟨_,_,_,o,e,_⟩:=x;exact#[_,e]
 |dK k=>obtain⟨_,_,_,_,o,_,_,e,_⟩:=x;exact#[_,e]
 |dT k=>obtain⟨_,_,_,_,o,_,_,e,_⟩:=x;exact#[_,e]
 |set S n=>obtain⟨o,_,_,_,e,_⟩:=x;exact#[_,e]
 |ins C d F=>obtain⟨_,_,_,e,_⟩:=x;exact#[_,e]
 |own y=>obtain⟨_,e⟩:=x;exact#[_,e]
 |xd F=>obtain⟨_,⟨_,_,_,e,_⟩,_⟩:=x;exact#[_,e]
 |rng lo b=>obtain⟨_,_,_,e⟩:=x;exact#[_,e]
 |frz O u=>obtain⟨e,_⟩:=x;exact#[_,e]
 |tbl p=>exact#[_,(show h.get? a=δ _ from x)]
 |met f y=>exact#[_,(show h.get? a=δ _ from x)]
 |ext c=>obtain⟨_,⟨_,e⟩,_⟩:=x;exact#[_,e]
theorem aq.laidN{X:Cx}{h':fv}{a:ε}{o:HO}{t':Nat}(I:aq X p g H s)(k:∀b u,s.heap.get? b=δ u->h'.get? b=δ u)(d:s.heap.get? a=ζ)(N:aS X.prog X.w (aj H a o) h' a o):
  H a=ζ/\aq X p g (aj H a o) { s with heap:=h',toks:=t' }:=by
 let i:∀b u,s.heap.get? b=δ u->b≠a:=λb u q z=>by rw[z,d]at q;cases q
 let h:H a=ζ:=by
  cases q:H a with
  |none=>rfl
  |some u=>obtain⟨U,e⟩:=(I.hok a u q).obj;rw[d]at e;cases e
 refine#[h,I.un ?_ ?_]
 .exact { keep:=λb u q _ _ _=>k b u q,slot:=λb u q _ _ _=>#[u.slots,k b u q],free:=λb u q n _=>by rw[ji$ i b u q];exact n,there:=λb u q _=>#[u,k b u q],tups:=λb x q=>by rw[ji$ jk q h];exact q,frzs:=λb u x q=>by rw[ji$ jk q h];exact q,tbls:=λb P q=>#[(ι []),by rw[ji$ jk q h,q];simp] }
 .intro b u e;by_cases f:b=a
  .subst f;rw[jc]at e;cases e;exact N
  .rw[ji f]at e;exact(I.hok b u e).stay (λc v _ q=>k c v q) (λc q=>by rw[ji$ jk q h];exact q) λc x q=>by rw[ji$ jk q h];exact q
def ya(C:ε)(d:Option ε)(x:ε):HO:=.ext λh=>∃o,h.get? x=δ o/\o.cls= .ref C/\notCls o=μ/\o.dict=d/\∃v,o.data= .fields v/\v[1]?=δ .none
theorem AB{P:ψ}{h:fv}(e:h.get? x=δ o)(a:o.cls= .ref C)(b:notCls o=μ)(c:o.dict=d)(f:∃v,o.data= .fields v/\v[1]?=δ .none):aS P w H h x (ya C d x):=
 #[#[o,e,a,b,c,f],#[o,e],λg i #[O,E,q] k=>#[O,k O E,q]]
def xN(C:ε):TE:=λa H Q=>∀x,H x=ζ->Q (.ref x) (aj H x$ ya C ζ x)
section
variable {X:Cx}{CX:oB}{k:Nat}{f C:ε}{fd:bm}{ps:List π}{sp:Sp}{E:XK}{x m g:π}{p pos pos':Pos}{e o value:fr}{es:List fr}{ta tv:TE}{t:TA}
theorem QL(M:excIn X.K C oI "ValueError.__new__"=μ)(l:rs X.K (.ref C)=μ)(n:Gl X x)(r:X.mg x=δ (.ref C))(c:(x==("__debug__":π))=ν:=by decide):
  PE X (.Call (.Name x p) [] [] pos) (xN C):=by
 intro P s D H Q I h;refine Lk$ zu I n r ?_ c;refine O3 I.kIn l ?_;obtain⟨G,q,N,J,L,j,S,sub,O,u,R,U,V,Y,k3,k5,v,w,b,i⟩:=ZN M;let y:=I.kIn _ _ v;obtain⟨hp,g,d,T,os⟩:=s;refine wpAny_call_exc_subT PySem.F.excBase_ValueError (PySem.W.tail_of_in I.kIn w) y (.of_isNs$ PySem.W.isNs_of_in I.kIn b) (PySem.W.nsMap_none_of_in I.kIn b i) (λh' e m=>?_)$ Is _;obtain⟨t,z,_,_⟩:=m.there;obtain⟨A,B⟩:=I.laidN (a:=e) (h':=h') (o:=ya C ζ e) (t':=T) m.keeps m.new (AB z Z Z Z #[_,Z,Z]);exact#[.ref e,_,B,Z,h e A]
end
section
variable {M:Model}{A:ef}{E:η->θ->Prop}{s:θ}
structure dh(fl:η)(hV:List ε)(x:ε)(ox:pz)(h h':fv):Prop where
 ex:∃T oT ts,h.objs.size<=T/\h'.get? x=δ (mT (·.setIfInBounds 1 (.ref T)) ox)/\h'.get? T=δ oT/\oT.data= .fields ts/\ts[3]?=δ fl
 keep:∀b o,b∉hV->b≠x->h.get? b=δ o->h'.get? b=δ o
 slot:∀b o,b≠x->h.get? b=δ o->∃sl,h'.get? b=δ { o with slots:=sl }
theorem QM{Q:Unit->θ->Prop}
  (t:A.frames=δ (d::O)) (F:s.heap.FunFrames G (d::O)) (N:d.frame=δ L)
  (I:s.heap.get? x=δ u) (v:u.data= .fields J) (w:1 < J.size)
  (h:∀K,dh (rawInt L) ((d::O).filterMap (·.frame)) x u s.heap K->Q () { s with heap:=K }):
  ξ M A (do let a <- frameOf d;let p <- entryPlaceOf L q;let b <- EntryCells.newEntry f a .none (rawInt L) .none p;setField (.ref x) 1 b) Q E s:=by
 let y:x∉(d::O).filterMap (·.frame):=λP=>by obtain⟨_,o,r,z⟩:=F.mem P;rw[I]at r;injection r with r;subst r;exact z J v
 refine Ih$ wpAny_frameOf_fun t F N λH c=>?_;refine Ih$ wpAny_entryPlaceOf λp B=>?_;unfold EntryCells.newEntry newFields;refine Ih$ I9 ?_$ B.sizeOk5 _ _ _ _ _;let g:H.get? x=δ u:=(c.2.1 x y).trans I;let i:=Il (h:=H) { cls:=.type "traceback",dict:=ζ,data:=.fields ([f,.ref L,.none,rawInt L,.none]++(if p.isEmpty then xb 6 dr else p)).toArray } g;refine Le i v w$ h _ ?_;let C:H.objs.size≠x:=Lh (Iq g);let j:=IV v (·.setIfInBounds 1 (Ξ H.objs.size));let l:=IX (mT (·.setIfInBounds 1 (Ξ H.objs.size))) i (Lu j);let k:∀b o,b≠x->H.get? b=δ o->((H.push { cls:=.type "traceback",dict:=ζ,data:=.fields ([f,.ref L,.none,rawInt L,.none]++(if p.isEmpty then xb 6 dr else p)).toArray }).update x$ mT (·.setIfInBounds 1 (Ξ H.objs.size))).get? b=δ o:=λb o D e=>by rw[IJ _ _$ IC D];exact Il _ e
 let m:=(IJ (H.push { cls:=.type "traceback",dict:=ζ,data:=.fields ([f,.ref L,.none,rawInt L,.none]++(if p.isEmpty then xb 6 dr else p)).toArray })
  (mT (·.setIfInBounds 1 (Ξ H.objs.size))) (IC C)).trans (Ir H Z)
 refine#[#[H.objs.size,_,_,Od c.1.symm,l,m,Z,Hy],λb o D n e=>k b o n ((c.2.1 b D).trans e),λb o n e=>?_];obtain⟨S,R⟩:=c.2.2 b o e;exact#[S,k b _ n R]
theorem Ys{Q:Unit->θ->Prop}
  (H:A.frames=δ (e::o)) (i:s.heap.FunFrames b (e::o)) (a:e.frame=δ L)
  (c:s.heap.get? x=δ O) (d:O.data= .fields v) (f:v[1]?=δ .none)
  (h:∀g,dh (rawInt L) ((e::o).filterMap (·.frame)) x O s.heap g->Q () { s with heap:=g }):
  ξ M A (noteFrame (.ref x) e) Q E s:=by
 unfold noteFrame;simp only[a];refine Ih$ IS c d f ?_;rw[Iy HA];exact QM H i a c d (bU.mp f).1 h
theorem AZ{hV:List ε}{Q:Unit->θ->Prop}(N:dh C hV x O H s.heap)(j:H.get? x=δ O)(v:O.data= .fields w)(k:1 < w.size)
  (h:∀p,dh .none hV x O H p->Q () { s with heap:=p }):ξ M A (setFlight (.ref x) ζ) Q E s:=by
 obtain⟨T,D,F,c,r,t,g,y⟩:=N.ex;let l:=IV v (·.setIfInBounds 1 (Ξ T));let m:T≠x:=λz=>absurd (IE (Iq j) (by rw[<- z];exact c)) (Lq _);unfold setFlight;refine Ih$ IS r l (x:=.ref T) (by simp [k]) ?_;rw[Iw (show(Ξ T != dr)=μ from by simp)];let i:=(bU.mp y).1;refine Le t g i$ h _ ?_;let a:=IV g (·.setIfInBounds 3 ((ζ:Option ε).elim dr λf=>rawInt f));let n:=IX (mT (·.setIfInBounds 3 ((ζ:Option ε).elim dr λf=>rawInt f))) t (Lu a);let u:∀b o,H.get? b=δ o->T≠b:=λb o e z=>absurd (IE (Iq e) (by rw[<- z];exact c)) (Lq _);refine#[#[T,_,_,c,by rw[IJ _ _ m];exact r,n,a,by simp [i]],λb o B d e=>?_,λb o d e=>?_]
 .rw[IJ _ _$ u b o e];exact N.keep b o B d e
 .obtain⟨S,q⟩:=N.slot b o d e;exact#[S,by rw[IJ _ _$ u b o e];exact q]
theorem XY{base:fv}{Q:Unit->θ->Prop}
  (a:A.frames=δ (e::o)) (f:s.heap.FunFrames base (e::o)) (g:e.frame=δ L)
  (b:s.heap.get? x=δ O) (c:O.data= .fields v) (d:v[1]?=δ .none)
  (h:∀H,dh .none ((e::o).filterMap (·.frame)) x O s.heap H->Q () { s with heap:=H }):
  ξ M A (leaving e$ .ref x) Q E s:=by
 unfold leaving;exact Ih$ Ys a f g b c d λH N=>AZ (s:={ s with heap:=H }) N b c (bU.mp d).1 h
end
section
variable {M:Model}{A:ef}{E:η->θ->Prop}{s:θ}
abbrev dX(T:ε)(h:fv):fv:=h.update T (mT (·.setIfInBounds 3 dr))
theorem QN{base:fv}{Q:Unit->θ->Prop}
  (f:A.frames=δ (e::O)) (w:s.heap.FunFrames base (e::O)) (j:e.frame=δ L)
  (k:s.heap.get? x=δ l) (m:l.data= .fields v) (p:v[1]?=δ (.ref T)) (g:T≠x) (i:s.heap.get? T=δ y) (c:y.data= .fields t) (r:t[3]?=δ .none)
  (h:∀u,dh (rawInt L) ((e::O).filterMap (·.frame)) x l (dX T s.heap) u->Q () { s with heap:=u }):
  ξ M A (noteFrame (.ref x) e) Q E s:=by
 unfold noteFrame;simp only[j];refine Ih$ IS k m p ?_;rw[Iw (show(Ξ T != dr)=μ from by simp)];refine Ih$ IS i c r ?_;rw[Iy (show ¬((dr==rawInt L)=μ) from by simp [rawInt])];refine Ih$ Le i c (bU.mp r).1 ?_;let a:∀b,b≠T->(dX T s.heap).get? b=s.heap.get? b:=λb H=>IJ _ _ (IC H);let n:∀b o,s.heap.get? b=δ o->(∀v,o.data≠ .fields v)->b≠T:=λb o H d q=>by rw[q,i]at H;injection H with H;subst H;exact d t c
 exact QM (s:={ s with heap:=dX T s.heap }) f (w.of_keeps λb o H d=>#[o,(a b$ n b o H d).trans H,Z]) j ((a x$ IC g).trans k) m (bU.mp p).1 h
theorem Yt{base:fv}{Q:Unit->θ->Prop}
  (b:A.frames=δ (e::o)) (i:s.heap.FunFrames base (e::o)) (j:e.frame=δ L)
  (d:s.heap.get? x=δ O) (f:O.data= .fields v) (g:v[1]?=δ (.ref T)) (H:T≠x) (k:s.heap.get? T=δ l) (c:l.data= .fields t) (m:t[3]?=δ .none)
  (h:∀a,dh .none ((e::o).filterMap (·.frame)) x O (dX T s.heap) a->Q () { s with heap:=a }):
  ξ M A (leaving e$ .ref x) Q E s:=by
 unfold leaving;exact Ih$ QN b i j d f g H k c m λa N=>AZ (s:={ s with heap:=a }) N ((IJ _ _ H).trans d) f (bU.mp g).1 h
end
def gI(C:ε)(d:Option ε)(T x:ε):HO:=.ext λh=>∃o v,h.get? x=δ o/\o.cls= .ref C/\notCls o=μ/\o.dict=d/\o.data= .fields v/\v[1]?=δ (.ref T)
def fb(T:ε):HO:=.ext λh=>∃o t,h.get? T=δ o/\o.data= .fields t/\t[3]?=δ .none
theorem CC{P:ψ}{h:fv}(e:h.get? x=δ o)(c:o.cls= .ref C)(f:notCls o=μ)(g:o.dict=d)(i:o.data= .fields a)(b:a[1]?=δ (.ref T)):aS P w H h x (gI C d T x):=
 #[#[o,a,e,c,f,g,i,b],#[o,e],λb j #[O,v,E,q] k=>#[O,v,k O E,q]]
theorem uA{P:ψ}{h:fv}(e:h.get? T=δ o)(b:o.data= .fields a)(c:a[3]?=δ .none):aS P w H h T (fb T):=
 #[#[o,a,e,b,c],#[o,e],λd f #[O,t,E,q] k=>#[O,t,k O E,q]]
def eZ(P:ψ)(w:dg):oB:=λo H s E e S=>∃x C d T h,e= .ref x/\S.os=s.os/\AllBare S.gens/\Un (hV o) [] H h s.heap S.heap/\eK P w h S.heap/\
 h x=δ (gI C d T x)/\h T=δ (fb T)/\T≠x/\E (.ref C) d h
section
variable {X:Cx}{pins:List (ε×pz)}{σ:St}{H:Hp}{s:θ}{x C:ε}{d:Option ε}
theorem dh.hok{fl:η}(I:aq X pins σ H s)(g:H x=δ (.ext M))(P:s.heap.get? x=δ o)(B:o.cls= .ref C)(D:o.dict=d)(j:o.data= .fields E)(k:1 < E.size)(l:∀b∈G,H b=ζ)
  (N:dh .none G x o s.heap J):∃T,H T=ζ/\T≠x/\s.heap.objs.size<=T/\eK X.prog X.w (aj (aj H T$ fb T) x$ gI C d T x) J:=by
 obtain⟨T,Q,R,h,m,F,n,p⟩:=N.ex;let i:H T=ζ:=I.hok.fresh h;let r:T≠x:=IC (jk g i);let a:=IV j (·.setIfInBounds 1 (Ξ T));refine#[T,i,r,h,λb u e=>?_];by_cases t:b=x
 .subst t;rw[jc]at e;cases e;refine CC m ((MX _ _).trans B) ?_ ?_ a (by simp [k])
  .unfold notCls;rw[a]
  .obtain⟨S,U,O,K⟩:=o;simp only at j;subst j;exact D
 .rw[ji t]at e;by_cases f:b=T
  .subst f;rw[jc]at e;cases e;exact uA F n p
  .rw[ji f]at e;refine(I.hok b u e).stay (λc v A q=>?_) (λc q=>?_) λc V q=>?_
   .let y:c≠x:=by
     rcases A with z |z
     .rw[z];exact t
     .exact jE z g (by intro q;cases q)
    refine N.keep c v (λL=>?_) y q;let:=l c L;rcases A with z |z
    .rw[z,e]at this;cases this
    .rw[z]at this;cases this
   .rw[ji$ jE q g (by intro z;cases z),ji$ jk q i];exact q
   .rw[ji$ jE q g (by intro z;cases z),ji$ jk q i];exact q
theorem dh.un{h':fv}(I:aq X pins σ H s)(hex:X.ex=[])(j:H x=δ (.ext k))(l:H T=ζ)(c:s.heap.objs.size<=T)(f:∀b∈p,b∈X.fs∨X.s₀.heap.objs.size<=b)
  (N:dh .none p x y s.heap h'):Un X.fs [] X.H₀ (aj (aj H T$ fb T) x$ gI C d T x) X.s₀.heap h':=by
 let g:∀b,H b=ζ->b≠x:=λb e z=>by rw[z,j]at e;cases e
 let r:∀b o,X.s₀.heap.get? b=δ o->b≠T:=λb o e=>Iz (IE (Iq e)$ IB I.sz c);let a:∀b:ε,b∉X.ex:=λb z=>by rw[hex]at z;cases z
 let t:∀b,H b=ζ->b≠T->aj (aj H T$ fb T) x (gI C d T x) b=ζ:=λb e z=>by rw[ji$ g b e,ji z];exact e
 let U:∀b u,H b=δ u->(∀k,u≠ .ext k)->aj (aj H T$ fb T) x (gI C d T x) b=δ u:=λb u e z=>by rw[ji (λq=>by rw[q,j]at e;cases e;exact z _ Z),ji$ jk e l];exact e
 refine#[λb o e n h _=>?_,λb o e n h _=>?_,λb o e n _=>?_,λb o e _=>?_,λb v e=>U b _ (I.base.tups b v e) (by intro _ q;cases q),λb o u e=>U b _ (I.base.frzs b o u e) (by intro _ q;cases q),λb P e=>?_]
 .refine N.keep b o (λz=>?_) (g b$ I.base.free b o e n$ a b)$ I.base.keep b o e n h$ a b;rcases f b z with q |q
  .exact h q
  .exact absurd (IE (Iq e) q)$ Lq _
 .obtain⟨w,q⟩:=I.base.slot b o e n h (a b);obtain⟨S,Q⟩:=N.slot b _ (g b$ I.base.free b o e n$ a b) q;exact#[S,Q]
 .exact t b (I.base.free b o e n$ a b)$ r b o e
 .obtain⟨O,q⟩:=I.base.there b o e (a b);by_cases h:b=x
  .obtain⟨A,_,_,_,i,_⟩:=N.ex;exact#[_,by rw[h];exact i]
  .obtain⟨w,Q⟩:=N.slot b O h q;exact#[_,Q]
 .obtain⟨m,q⟩:=I.base.tbls b P e;exact#[m,U b _ q (by intro _ q;cases q)]
end
section
variable {P:ψ}{w:dg}{K:Ω}{mg:π->Option η}{base:fv}{N:List π}{qual:π}{scope:sB}{f:ε}{cd:η}{A:ef}{outer:List Env}{s₀:θ}{H₀:Hp}{E:XK}
variable {pins:List (ε×pz)}{σ:St}{H:Hp}{s:θ}{x C:ε}{d:Option ε}
theorem uM(I:aq (fc (eZ P w) P w K mg base N qual scope f cd A outer s₀ H₀ E) pins σ H s)(c:H x=δ (ya C d x))
  (h:∀T,H T=ζ->E (.ref C) d (aj (aj H T$ fb T) x$ gI C d T x)):(fc (eZ P w) P w K mg base N qual scope f cd A outer s₀ H₀ E).xe (.ref x) s:=by
 obtain⟨⟨O,l,q,t,r,v,m,n⟩,_⟩:=I.hok x _ c;let g:=(bU.mp n).1;refine XY (base:=base) I.ok.frames I.stack Z l m n λy o=>?_;obtain⟨T,p,a,i,j⟩:=o.hok (C:=C) (d:=d) (fl:=.none) I c l q r m g λb k=>I.stkFree b k;let u:=o.un (C:=C) (d:=d) I Z c p i λb k=>by
  rcases Δ.mp (I.stkSub b k) with e |e
  .exact .inr (by rw[e];exact I.ok.above)
  .exact .inl e
 exact#[x,C,d,T,_,Z,I.os,I.bare,u,j,jc,by rw[ji a,jc],a,h T p]
theorem aq.cleared{X:Cx}(I:aq X pins σ H s)(c:H T=δ (fb T))(i:s.heap.get? T=δ O)(j:O.data= .fields t)(k:t[3]?=δ .none):aq X pins σ H { s with heap:=dX T s.heap }:=by
 let h:=IV j (·.setIfInBounds 3 dr);let g:=IX (mT (·.setIfInBounds 3 dr)) i (Lu h);let:=I.write (x:=T) (e:=T) (o:=fb T) (h':=dX T s.heap) (t':=s.toks) (by rw[c];exact True.intro) (.inl Z) (λb u a q=>(IJ _ _$ IC a).trans q) #[_,g] (uA g h (by simp [(bU.mp k).1]));let l:aj H T (fb T)=H:=by
  funext b;by_cases a:b=T
  .rw[a,jc,c]
  .rw[ji a]
 rw[l]at this;exact this
theorem xS(I:aq (fc (eZ P w) P w K mg base N qual scope f cd A outer s₀ H₀ E) pins σ H s)(g:H x=δ (gI C d T x))(n:H T=δ (fb T))(c:T≠x)
  (h:∀t,H t=ζ->E (.ref C) d (aj (aj H t$ fb t) x$ gI C d t x)):(fc (eZ P w) P w K mg base N qual scope f cd A outer s₀ H₀ E).xe (.ref x) s:=by
 obtain⟨⟨O,V,o,D,G,F,p,q⟩,_⟩:=I.hok x _ g;obtain⟨⟨J,L,r,u,v⟩,_⟩:=I.hok T _ n;let i:=(bU.mp q).1;let y:=I.cleared n r u v;refine Yt (base:=base) I.ok.frames I.stack Z o p q c r u v λM z=>?_;let j:(dX T s.heap).get? x=δ O:=(IJ _ _ c).trans o;obtain⟨t,B,a,k,l⟩:=dh.hok (C:=C) (d:=d) (fl:=.none) y g j D F p i (λb m=>I.stkFree b m) z;let U:=dh.un (C:=C) (d:=d) y Z g B k (λb m=>by
  rcases Δ.mp (I.stkSub b m) with e |e
  .exact .inr (by rw[e];exact I.ok.above)
  .exact .inl e) z
 exact#[x,C,d,t,_,Z,I.os,I.bare,U,l,jc,by rw[ji a,jc],a,h t B]
theorem wD{j:XK}(m:∀x C d T t a,a x=δ (gI C d T x)->a T=δ (fb T)->a t=ζ->j (.ref C) d a->E (.ref C) d (aj (aj a t$ fb t) x$ gI C d t x)):
  dy (eZ P w) (fc (eZ P w) P w K mg base N qual scope f cd A outer s₀ H₀ E) j:=by
 intro pins σ H s e S I h;obtain⟨x,C,d,T,a,rfl,os,B,u,c,k,l,i,n⟩:=h;obtain⟨p,g,D,q,o⟩:=S;obtain rfl:o=s.os:=os;let r:=I.call (h':=p) (g':=g) (d':=D) (t':=q) (ch:=[]) u c B (λb z=>absurd z Hy);exact xS r k l i λt v=>m x C d T t a k l v n
end
section
open PySem.W
variable {prog:ψ}{w:dg}{A:ef}{E:η->θ->Prop}{K:Ω}{x C:ε}{ox:pz}{vs:Array η}{env:Env}
theorem Yu{ev:Sem η}(e:A.handled=ζ)
  (h:ξ (χ prog w) A ev (λv S=>∃x C ox vs,v= .ref x/\K.In S.heap/\pG K C/\typeIn K (.ref C)=δ (.type "type")/\S.heap.get? x=δ ox/\ox.cls= .ref C/\ox.data= .fields vs/\vs[1]?=δ .none/\E (.ref x) S) E s):
  ξ (χ prog w) A (raiseStmt env (δ ev) ζ) Q E s:=by
 unfold raiseStmt;refine Ih$ Lj h (λv S a=>?_) λ_ _ z=>z;obtain⟨x,C,ox,vs,rfl,X,f,i,b,j,c,m,n⟩:=a;obtain⟨H,g,d,T,os⟩:=S;let L:Looks (χ prog w) H (typeOf$ .ref x) (.ref C):=j▸(Ro b).andThen .now;let l:Looks (χ prog w) H (isType$ .ref x) ν:=by intro y B D F k q;unfold isType loadHead;refine Ih$ NZ (k _ _ b) ?_;rw[c];exact Ij q
 let _L:=N4 (M:=χ prog w) X f.mb;let o:=PQ (M:=χ prog w) X i;let p:Looks (χ prog w) H (isInstance (.ref x)$ .type "BaseException") μ:=L.andThen _L;let r:Looks (χ prog w) H (isExcClass$ .ref x) ν:=by unfold isExcClass;exact l.andThen .now
 let t:Looks (χ prog w) H (raisedInstance$ .ref x) (.ref x):=by unfold raisedInstance;exact L.andThen$ o.andThen (by rw[Iw HA];exact .now)
 let u:Looks (χ prog w) H (excFromValue (.ref x) "exceptions must derive from BaseException") (.ref x):=by unfold excFromValue;exact r.andThen (by rw[Iy HA];exact p.andThen (by rw[Iw Z];exact .now))
 refine Ih$ Ij ?_;refine Ih$ IM$ u.at ?_;dsimp only;refine Ih$ l.at ?_;rw[Iy HA];refine Ih$ t.at ?_;unfold setFlight;refine Ih$ Ih$ IS b c m ?_;rw[Iy HA];exact Ij$ wpAny_raiseNew_none e n
end
def yb(X:Cx)(W:ε->ε->Option ε->Hp->Prop):Prop:=∀(p:List (ε×pz)) (a:St) (H:Hp) (s:θ) (x C:ε) (d:Option ε),aq X p a H s->H x=δ (ya C d x)->W x C d H->X.xe (.ref x) s
theorem QO{P:ψ}{K:Ω}:
  yb (fc (eZ P w) P w K m b N q s f g A o a c E) (λx C d H=>∀T,H T=ζ->E (.ref C) d (aj (aj H T$ fb T) x$ gI C d T x)):=
 λ_ _ _ _ _ _ _ I e h=>uM I e h
inductive nZ(K:Ω)(b:ε->ε->Option ε->Hp->Prop)(v:V)(a:Hp):Prop
 |mk(x C d:_)(_:v= .ref x)(_:a x=δ (ya C d x))(_:pG K C)(_:typeIn K (.ref C)=δ (.type "type"))(_:b x C d a)
def BV(K:Ω)(t:TE)(W:ε->ε->Option ε->Hp->Prop):TS:=λ_u0 a H=>t a H (nZ K W)
theorem Xz{X:Cx}{e:fr}{t:TE}{P:Pos}{W:ε->ε->Option ε->Hp->Prop}(f:X.calm=μ)(F:yb X W)(g:PE X e t):PS X (.Raise (δ e) ζ P) (BV X.K t W):=by intro p s b H D I h;rw[arm_exec_Raise];refine Ih$ Mm ?_;refine Yu (K:=X.K) (ev:=do let v <- eval e X.env;standAt P;pure v) (I.ok.hd f)$ Ih$ aL (g p s b H _ I h) λu S a=>Ih (Mm$ Ij ?_);obtain⟨v,j,i,r,x,C,d,ev,c,k,l,q⟩:=a;subst ev;obtain rfl:u=Ξ x:=r;obtain⟨⟨o,m,n,z,A,V,w,y⟩,_⟩:=i.hok x _ c;exact#[x,C,o,V,Z,i.kIn,k,l,m,n,w,y,F p b j S x C d i c q]
section
variable {X:Cx}{pins:List (ε×pz)}{σ:St}{H:Hp}{s:θ}{x C:ε}{d:Option ε}
theorem aq.noted{t':Nat}(I:aq X pins σ H s)(a:H x=δ (.ext l))(p:s.heap.get? x=δ O)(r:O.cls= .ref C)(t:O.dict=d)(v:O.data= .fields w)(c:1 < w.size)
  (N:dh .none (hV X.stack) x O s.heap y):∃T,H T=ζ/\T≠x/\aq X pins σ (aj (aj H T$ fb T) x$ gI C d T x) { s with heap:=y,toks:=t' }:=by
 obtain⟨T,m,f,g,i⟩:=dh.hok (C:=C) (d:=d) (fl:=.none) I a p r t v c (λb h=>I.stkFree b h) N;let j:∀b,H b=ζ->b≠x:=λb e z=>by rw[z,a]at e;cases e
 let U:∀b u,H b=δ u->(∀l,u≠ .ext l)->aj (aj H T$ fb T) x (gI C d T x) b=δ u:=λb u e z=>by rw[ji (λq=>by rw[q,a]at e;cases e;exact z _ Z),ji$ jk e m];exact e
 refine#[T,m,f,I.call (g':=s.gens) (d':=s.drawn) (ch:=[]) ?_ i I.bare (λb z=>absurd z Hy)];refine#[λb o e n h _=>N.keep b o h (j b n) e,λb o e n _ _=>N.slot b o (j b n) e,λb o e n _=>?_,λb o e _=>?_,λb A e=>U b _ e (by intro _ q;cases q),λb o u e=>U b _ e (by intro _ q;cases q),λb P e=>#[(ι []),by rw[U b _ e (by intro _ q;cases q)];simp]]
 .rw[ji$ j b n,ji$ Iz$ IE (Iq e) g];exact n
 .by_cases h:b=x
  .obtain⟨B,_,_,_,k,_⟩:=N.ex;exact#[_,by rw[h];exact k]
  .obtain⟨S,q⟩:=N.slot b o h e;exact#[_,q]
end
abbrev Cx.mark(X:Cx)(e:η)(xe:η->θ->Prop):Cx:={ X with A:=X.A.mark (δ e),calm:=ν,xe:=xe }
theorem aq.mark{X:Cx}(I:aq X p a H s)(e:η)(x:η->θ->Prop):aq (X.mark e x) p a H s:=
 #[#[I.ok.mod,I.ok.kind,I.ok.glob,I.ok.blt,I.ok.above,I.ok.inj,I.ok.has,I.ok.cab,(λz=>nomatch (show ν=μ from z)),I.ok.frames,I.ok.stk,I.ok.exf,I.ok.bs,I.ok.bsz,I.ok.noex,I.ok.exfs,I.ok.funs,I.ok.frf],I.os,I.bare,I.base,I.loc,I.cell,I.free,I.freeC,I.pin,I.hok,I.len]
theorem aq.unmark{X:Cx}(o:X.Ok)(I:aq (X.mark e x) p a H s):aq X p a H s:=
 #[o,I.os,I.bare,I.base,I.loc,I.cell,I.free,I.freeC,I.pin,I.hok,I.len]
section
open PySem.W
theorem qQ{K:Ω}(X:K.In h)(a:h.get? x=δ o)(b:o.cls= .ref C)(H:clsIn K B≠ζ)(tB:typeIn K (.ref B)=δ (.type "type"))(m:mroIn K B (.type "BaseException")=δ μ)(c:mroIn K C (.ref B)=δ μ):
  Looks M h (excMatches (.ref x)$ .ref B) μ:=by
 let L:Looks M h (typeOf$ .ref x) (.ref C):=b▸(Ro a).andThen .now;let l:=PQ (M:=M) X tB;let _L:Looks M h (isInstance (.ref B)$ .type "tuple") ν:=l.andThen (Rz tc_notTuple);let d:Looks M h (isType$ .ref B) μ:=by
  unfold clsIn at H;split at H
  .rename_i e
   intro A Q E s k q;unfold isType loadHead;exact Ih$ NZ (k _ _$ X _ _ e)$ Ij q
  .exact absurd Z H
 let f:Looks M h (isExcClass$ .ref B) μ:=by unfold isExcClass;exact d.andThen (by rw[Iw Z];exact N4 X m)
 let g:=N4 (M:=M) X c;intro A Q E s k q;unfold excMatches;refine Ih$ _L A _ E s k ?_;rw[Iy HA];refine Ih$ Ij ?_;dsimp only;refine Ih ?_;rw[LV];refine Ih$ Ih$ f A _ E s k ?_;simp only[MJ,Ix,LC];refine Ij ?_;dsimp only;rw[MD];refine Ij ?_;refine Ih$ L A _ E s k ?_;refine Ih ?_;rw[LV];refine Ih$ Ih$ g A _ E s k ?_;simp only[M4];refine Ij$ Ij ?_;exact Ij q
end
abbrev XR:=ε->ε->Option ε->ε->Hp->Prop
def XW(X:Cx)(p:List (ε×pz))(a:St)(R:XR)(e:η)(s:θ):Prop:=
 ∃x C d T H,e= .ref x/\aq X p a H s/\H x=δ (gI C d T x)/\H T=δ (fb T)/\T≠x/\R x C d T H
abbrev CT:=St->Hp->VK->XR->Prop
abbrev Fq:=a7->XR->St->Hp->Prop
def ET(X:Cx)(e:fr)(t:CT):Prop:=
 ∀(p:List (ε×pz)) (s:θ) (a:St) (H:Hp) (Q:VK) (R:XR),aq X p a H s->t a H Q R->ξ (χ X.prog X.w) X.A (eval e X.env) (EP X p a Q) (XW X p a R) s
def Gx(X:Cx)(st:ey)(t:Fq):Prop:=
 ∀(p:List (ε×pz)) (s:θ) (a:St) (H:Hp) (D:a7) (R:XR),aq X p a H s->t D R a H->ξ (χ X.prog X.w) X.A (exec st X.env) (SP X p D) (XW X p a R) s
def GX(R:XR):XK:=λc d H=>∀x C T,c= .ref C->H x=δ (gI C d T x)->H T=δ (fb T)->T≠x->R x C d T H
def Cr(s:Sp)(d:List V)(t:TA):CT:=λa H Q R=>t a H λv h=>s (v++d) h Q (GX R)
section
variable {X:Cx}{k:Nat}{f:ε}{fd:bm}{ps:List π}{sp:Sp}{dvs:List V}{ds:List η}{x:π}{p pos:Pos}{e:fr}{es:List fr}{t:TA}{te:CT}
theorem su(F:ak X.prog X.w X.K X.mg X.base (eZ X.prog X.w) k f fd ps sp)(y:bu k X.A)(D:Gl X x)(E:X.mg x=δ (.ref f))(G:rs X.K (.ref f)=μ)(J:ay X.K fd ps ds)(L:aw dvs ds)
  (M:PA X.nox (e::es) t) (g:(x==("__debug__":π))=ν:=by decide) (N:Θ (e::es) X.env=(ν,eval e X.env)::Θ es X.env:=by rfl) (j:(hY pos$ Θ es X.env).any (·.1)=ν:=by rfl):
  ET X (.Call (.Name x p) (e::es) [] pos) (Cr sp dvs t):=by
 intro P s O H Q R I h;refine Lk$ zu I D E ?_ g;refine Ol (h₀:=X.base) I.ok.mod.kin G (Lj (M pos P s O H _ (I.wish _) h) (λU S #[v,W,i,r,q]=>#[i.kIn,?_]) λ_ _ z=>z.elim) N j;let i:=i.unwish;let m:aw (v++dvs) (U++ds):=r.append L;let Y:(U++ds).length=ps.length:=by rw[<- m.length];exact F.len _ _ _ _ q
 refine Pb$ ML (F.run X.A X.stack S W #[U,[]] (U++ds) (v++dvs) Q (GX R) y i.env0 (J S U i.kIn Y) m q) λr s' a=>?_;cases r with
 |error e=>obtain⟨x,C,d,T,H',rfl,os,B,un,l,n,o,c,hw⟩:=a;exact#[x,C,d,T,H',Z,i.call' os un l B (λb z=>absurd z Hy),n,o,c,hw x C T Z n o c]
 |ok fl=>
  cases fl with
  |ret u=>exact i.after a
  |next=>exact False.elim a
  |brk=>exact False.elim a
  |cont=>exact False.elim a
theorem wN{i:Nat}{y:π}{P:Pos}(d:X.N.Nodup)(g:X.N[i]?=δ y)(j:oC X.env.scope y)(l:ET X e te)(m:swapsWith e (δ$ .Name y P) pos.line X.env=pure ν:=by rfl)(n:X.fn y=μ∨X.env.scope.names.lookup y=δ .local:=by first |exact .inl Z |exact .inr Z |assumption):
  Gx X (.Assign [.Name y P] e pos) (λD R b H=>te b H (λv c=>D.nx (b.set i$ δ v) c) R):=by
 intro a s b H D R I h;refine RS (aL (l a s b H _ R I h) λv S z=>?_) m;obtain⟨y,c,o,r,q⟩:=z;exact zb o d g j r (λw u=>#[_,c,u,q]) n
end
theorem aK.ok1{P:ψ}{K:Ω}{st:ey}{a:Sp}(F:aK K x q st f g)(S:am N p (ae st))(len:∀v H Q E,a v H Q E->v.length=p.length)
  (h:∀(c:η) (A:ef) (o:List Env) (s:θ) (H:Hp) (v:List V) (Q:VK) (E:XK),bu k (A.deeper$ envOfC q (ae st) s.heap.objs.size f c)->a v H Q E->
   ∃t,lS (fc (eZ P w) P w K m b N q (ae st) f c A o s H E) (bf st) t/\t { nx:=λ_ i=>Q .non i,rt:=Q } (gn N v) H):ak P w K m b (eZ P w) (k+1) f g p a:=by
 obtain⟨l,n,kV,D,r,u,c,C,O,rfl,lk,d⟩:=F.ex;exact yv lk d S len λA o s H v Q E j e=>h c A o s H v Q E j e
end _L
namespace _L
open PySem PySem.Spec PyProof.Rows PySem.SeqAt
def pT(x y:List V):Bool:=(ru$ min x.length y.length).all (λj=>mH (x.getD j .non) (y.getD j .non))&&x.length==y.length
section
variable {X:Cx}
theorem ZO(r:aw x i)(R:aw y I)(f:x.all cX=μ)(F:y.all cX=μ)(j:Nat)(c:j < i.toArray.size)(d:j < I.toArray.size):EqAt A s i.toArray[j] I.toArray[j] (mH (x.getD j .non)$ y.getD j .non):=by
 let L:=r.length;let p:=R.length;let H:j < x.length:=by simp at c;omega
 let h:j < y.length:=by simp at d;omega
 let a:x[j]?=δ x[j]:=Ii H;let b:y[j]?=δ y[j]:=Ii h;obtain⟨u,q,g⟩:=r.get a;obtain⟨U,Q,k⟩:=R.get b;let l:=List.all_eq_true.mp f _ (ME H);let m:=List.all_eq_true.mp F _ (ME h);let E:i.toArray[j]=u:=by obtain⟨_,e⟩:=τ.mp q;simpa using e
 let n:I.toArray[j]=U:=by obtain⟨_,e⟩:=τ.mp Q;simpa using e
 let G:x.getD j .non=x[j]:=by rw[Mz,a];rfl
 let o:y.getD j .non=y[j]:=by rw[Mz,b];rfl
 rw[E,n,G,o];exact pS g k l m
theorem Bx(f:X.A.units < cLine):gp X (compareOp .Eq) (λx y H Q=>∃a b c Y,x= .ref a/\y= .ref b/\aC X.K H a c/\aC X.K H b Y/\c.all cX=μ/\Y.all cX=μ/\Q (.bl$ pT c Y) H):=by
 intro p s z H x y v u Q I g k h;obtain⟨a,b,c,Y,rfl,rfl,l,m,F,n,q⟩:=h;cases g;cases k;obtain⟨i,r,P,_⟩:=I.tuple l;obtain⟨d,R,o,_⟩:=I.tuple m;refine eq_tupleAt (e:=λj=>mH (c.getD j .non) (Y.getD j .non)) (show s.heap.IsTuple a i.toArray from P) (show s.heap.IsTuple b d.toArray from o) f (λj t w=>ZO r R F n j t w) ?_;let e:((ru$ min i.toArray.size d.toArray.size).all (λj=>mH (c.getD j .non) (Y.getD j .non))&&i.toArray.size==d.toArray.size)=pT c Y:=by unfold pT;rw[Ip,Ip,<- r.length,<- R.length]
 rw[e];exact#[.bl _,H,I,Z,q]
end
end _L
namespace _L
open PySem PySem.Spec PyProof.Rows
section
variable {prog:ψ}{w:dg}{A:ef}{E:η->θ->Prop}{s:θ}
theorem Yv{Q:Nat->θ->Prop}(H:n≠0)(h:∀i d,i < n->Q i { s with drawn:=d }):ξ (χ prog w) A (choose a n) Q E s:=by intro Γ p _;show Sem.wp _ Γ (.choose a n .pure) _ _ p s;rw[Sem.wp_choose];exact#[H,h _ _$ SW _$ Nat.pos_of_ne_zero H]
theorem XZ{α:Type}:∀(n:Nat) (xs:List α) (s:θ) {Q:List α->θ->Prop},xs.length=n->(∀ys d,ys.Perm xs->Q ys { s with drawn:=d })->
  ξ (χ prog w) A (drawOrder n xs) Q E s:=by
 intro n;induction n with
 |zero=>
  intro xs s Q hl h;cases xs with
  |nil=>unfold drawOrder;exact Ij$ h [] s.drawn .rfl
  |cons _ _=>cases hl
 |succ n ih=>
  intro xs s Q hl h;cases xs with
  |nil=>cases hl
  |cons x r=>unfold drawOrder;refine Ih$ Yv Hy λi d hi=>?_;let hg:(x::r)[i]?=δ ((x::r)[i]'hi):=Ii hi;rw[hg];dsimp only;refine Ih$ ih _ _ (by rw[OB hi,hl];rfl) λys d' hp=>Ij (h _ d' ?_);refine(List.Perm.cons _ hp).trans ?_;rw[Oe];refine List.perm_middle.symm.trans ?_;rw[O5,Pe]
end
def lQ:η->π
 | .str x _=>x
 |_=>#[(ι [])]
theorem Qm(t:SetTable)(n:Nat):(t.orStandIn n).led=t.led:=by
 unfold SetTable.orStandIn;split
 .rfl
 .rfl
theorem Yw(t:SetTable)(e:Array (Int×η))(h:Int)(x:η):(layNew t e h x).2.1.led=t.led:=by
 unfold layNew;split
 .exact Qm _ _
 .rfl
theorem Xi(t:SetTable)(E:Array (Int×η))(n:Nat):(relayAll t E n).2.1.led=t.led:=by
 unfold relayAll;split
 .rename_i T o e
  unfold SetTable.relaid SetTable.laid at e;cases h:SetTable.layClean (SetTable.sizeAbove n - 1) (E.map (·.1)) with
  |none=>rw[h]at e;cases e
  |some O=>rw[h]at e;cases e;dsimp only;split<;>rfl
 .rfl
theorem K9(t:SetTable)(E:Array (Int×η))(n:Nat)(H:t.plain=ν):(relayAll t E n).2.1.plain=ν:=by
 unfold relayAll;split
 .rename_i T o e
  unfold SetTable.relaid SetTable.laid at e;cases h:SetTable.layClean (SetTable.sizeAbove n - 1) (E.map (·.1)) with
  |none=>rw[h]at e;cases e
  |some O=>
   rw[h]at e;cases e;dsimp only;split
   .exact H
   .rfl
 .rfl
def cQ(p:ψ)(w:dg)(h:fv)(a:ε)(L:List π):Prop:=
 ∃o E b t,h.get? a=δ o/\o.ExactSet/\o.data= .set E b t/\ElemsOf (eT p w) E.toList/\(E.toList.map λe=>lQ e.2).Perm L/\L.Nodup
  /\E.size < scanBound/\t.fits E.size=μ/\t.led=!(w.params.followText "set-order")/\(t.plain=ν∨E.size=0)
theorem cQ.at{H:fv}{a:ε}(x:cQ p w h a L)(e:∀o,h.get? a=δ o->H.get? a=δ o):cQ p w H a L:=
 let #[o,E,b,t,c,r]:=x;#[o,E,b,t,e o c,r]
section
variable {prog:ψ}{w:dg}{A:ef}{E:η->θ->Prop}{s:θ}
theorem J5{a:Array (Int×η)}(b:ElemsOf (eT prog w) a.toList)(x:π):
  (a.toList.findIdx? (λe=>(eT prog w).is x e.2)=ζ↔¬x∈a.toList.map λe=>lQ e.2):=by
 rw[List.findIdx?_eq_none_iff];constructor
 .intro h m;obtain⟨e,H,f⟩:=cJ.mp m;obtain⟨⟨k,g,_⟩,_⟩:=b e H;obtain⟨t,c⟩:=MZ g;let q:=h e H;rw[c]at f q;let d:k=x:=f;subst d;let Q:(eT prog w).is k (.str k t)=μ:=strKind_is prog w k t;rw[Q]at q;cases q
 .intro h e H;cases q:(eT prog w).is x e.2 with
  |false=>rfl
  |true=>obtain⟨t,c⟩:=MZ q;exact absurd (cJ.mpr #[e,H,by rw[c];rfl]) h
theorem J6{b:Array (Int×η)}{T:SetTable}(d:s.heap.get? a=δ o)(f:o.ExactSet)(h:o.data= .set p c t)
  (g:ElemsOf (eT prog w) b.toList) (i:(b.toList.map λe=>lQ e.2).Perm L) (j:L.Nodup) (k:b.size < scanBound) (l:T.fits b.size=μ)
  (m:T.led=!(w.params.followText "set-order")) (n:T.plain=ν):
  (s.heap.update a$ Fa b T).get? a=δ { o with data:=.set b (c+1) T }/\cQ prog w (s.heap.update a$ Fa b T) a L:=by
 let H:(s.heap.update a$ Fa b T).get? a=δ { o with data:=.set b (c+1) T }:=by let q:=IX (Fa b T) d (by rw[putSet_of b T h];rfl);rwa [putSet_of b T h]at q
 exact#[H,_,b,c+1,T,H,f,Z,g,i,j,k,l,m,.inl n]
theorem X0{Q : Bool -> θ -> Prop}(hS : cQ prog w s.heap a L)(room : L.length + 1 < scanBound)
    (h : ∀ b R l, kw a s.heap R -> cQ prog w R a (if x ∈ L then L else L ++ [x]) -> s.toks <= l -> Q b { s with heap := R, toks := l }) :
    ξ (χ prog w) A (setAdd a$ .str x f) Q E s := by
  obtain ⟨o, g, ep, t, n, U, u, H, v, B, hb, V, X, Y⟩ := hS;let d : (eT prog w).is x (.str x f) = μ := strKind_is prog w x f;let C : g.size = L.length := by rw [<- v.length_eq, Ik, IP]
  unfold setAdd;refine IM$ Ih ((eT prog w).pyHash (k := x) d ?_);unfold setAddHashed setAddHashedIn;refine IM$ Ih$ LX (s := { s with toks := s.toks + 1 }) n u V ?_;dsimp only;rw [byScan_of Z hb H];simp only [↓reduceIte];unfold setAddByScan;refine Ih$ Ih$ Mg$ Ih$ wpAny_setScan_of (knd := eT prog w) d n u V H ?_;cases hr : List.findIdx? (λe => (eT prog w).is x e.2) g.toList with
  | some j =>
    dsimp only;let D : x ∈ L := by refine Decidable.byContradiction λhn => ?_;let q := (J5 (prog := prog) (w := w) H x).mpr λm => hn (v.mem_iff.mp m);rw [q] at hr; cases hr
    let q := h ν s.heap (s.toks + 1) (OP a s.heap) (by rw [Iw D]; exact #[o, g, ep, t, n, U, u, H, v, B, hb, V, X, Y]) (LU _);exact Ij$ Ij q
  | none =>
    dsimp only;let D : ¬ x ∈ L :=λm => (J5 (prog := prog) (w := w) H x).mp hr (v.mem_iff.mpr m);let W : ∀ (b : Bool) {S : θ} {Q' : Unit -> θ -> Prop}, Q' () S -> ξ (χ prog w) A (match b with | true => rule "set.scan.the-table-gave-way" | false => pure ()) Q' E S := by
      intro b S Q' hq;cases b
      · exact Ij hq
      · exact Mg hq
    let p := layNew_perm t g ((eT prog w).hash x) (.str x f);let M := layNew_fits t g ((eT prog w).hash x) (.str x f);let O := Yw t g ((eT prog w).hash x) (.str x f);generalize layNew t g ((eT prog w).hash x) (.str x f) = N at p M O ⊢;obtain ⟨c, t1, w0, g4⟩ := N;dsimp only at p M O ⊢;rw [PH] at p;let F : ElemsOf (eT prog w) c.toList := (H.push d Z).perm p;let P : (c.toList.map λe => lQ e.2).Perm (L ++ [x]) := by refine (p.map _).trans ?_;rw [IN];exact v.append_right _
    let G : (L ++ [x]).Nodup := List.nodup_append.mpr #[B, by simp,λy hy z hz e => by rw [NW] at hz; subst hz; subst e; exact D hy];let gZ : c.size = g.size + 1 := by rw [<- IP, p.length_eq, Io, IP]; rfl
    let b1 : c.size < scanBound := by rw [gZ, C]; exact room
    refine Ih$ W _ ?_;let i : ∀ T : SetTable, T.fits c.size = μ -> T.led = t.led -> T.plain = ν ->
        ξ (χ prog w) A (do
          storeSet a c T
          if (!w0 && T.tooFull) = μ then do
              (match (relayAll T c$ SetTable.grown c.size).2.2 with | true => rule "set.scan.the-table-gave-way" | false => pure ())
              storeSet a (relayAll T c$ SetTable.grown c.size).1 (relayAll T c$ SetTable.grown c.size).2.1
              pure (δ μ)
            else pure (δ μ)) (λr s' => r = δ μ /\ Q μ s') E { s with toks := s.toks + 1 } := by
      intro T g1 g2 g3;refine Ih$ RP (s := { s with toks := s.toks + 1 }) n u ?_$ Ny b1;obtain ⟨o1, S1⟩ := J6 (s := s) (prog := prog) (w := w) n U u F P G b1 g1 (g2.trans X) g3;let I := LQ s.heap a (Fa c T);split
      · have J := relayAll_perm T c (SetTable.grown c.size)
        let f2 := relayAll_fits T c (SetTable.grown c.size);let l2 := Xi T c (SetTable.grown c.size);let q2 := K9 T c (SetTable.grown c.size) g3;generalize relayAll T c (SetTable.grown c.size) = Z at J f2 l2 q2 ⊢;obtain ⟨K, t3, g0⟩ := Z;dsimp only at J f2 l2 q2 ⊢;let bK : K.size = c.size := by rw [<- IP, J.length_eq, IP]
        let b2 : K.size < scanBound := by rw [bK]; exact b1
        refine Ih$ W _$ Ih$ RP (s := { s with heap := s.heap.update a (Fa c T), toks := s.toks + 1 }) o1 Z ?_$ Ny b2;obtain ⟨_, S2⟩ := J6 (s := { s with heap := s.heap.update a (Fa c T) }) (prog := prog) (w := w) o1 U Z (F.perm J) ((J.map _).trans P) G b2 f2 (l2.trans$ g2.trans X) q2;exact Ij #[Z, h μ _ _ (I.trans$ LQ _ a _) (by rw [Iy D]; exact S2) (LU _)]
      · exact Ij #[Z, h μ _ _ I (by rw [Iy D]; exact S1) (LU _)]
    split
    · rename_i tp
      refine Ih ?_;rw [hashByValue_scannable 8 (x := .str x f) Z];refine Ij ?_;let e0 : plainKind (.str x f) = ν := rfl;rw [e0];simp only [Ix, ↓reduceIte];refine Lj (i { t1 with plain := ν } (SetTable.fits_plain_off M) O Z) (λr s' q => ?_) λ_ _ z => z;obtain ⟨rfl, q⟩ := q;exact Ij q
    · rename_i tp
      refine Ih$ Ij ?_;simp only [↓reduceIte];refine Lj (i t1 M O (by simpa using tp)) (λr s' q => ?_) λ_ _ z => z;obtain ⟨rfl, q⟩ := q;exact Ij q
end
def bh(w:dg):pz:={ cls:=.type "set",dict:=ζ,data:=.set (ι []) 0 (.fresh 0 0 (!(w.params.followText "set-order"))) }
section
variable {prog:ψ}{w:dg}{A:ef}{E:η->θ->Prop}{s:θ}
theorem X1{h:fv}(e:h.get? a=δ (bh w)):cQ prog w h a []:=
 #[_,(ι []),0,_,e,#[Z,Z,Z],Z,λ_ z=>by simp at z,Hy,NN,(by decide:(0:Nat) < scanBound),Z,Z,.inr Z]
theorem Qn(a:η){G:η->θ->Prop}(h:G (.ref s.heap.objs.size) { s with heap:=s.heap.push (bh w) }):
  xa (χ prog w) A (.call (.builtin "set.__new__") #[[.type "set",a],[]]) (wants G E) s:=by
 refine O0 ?_;show ξ _ A.in1 (do checkBuiltinCall "set.__new__" _;again (.builtin "set.__new__" _)) _ _ s;refine Ih$ NY (PySem.F.newCall_set_1 a)$ Ij #[Mn OX _,LH PySem.F.entry_set_new ?_];rw[Ld OX];unfold nz.«set.__new__» Builtin.Frozenset.newClass;let o:=sub_set_self;obtain⟨H,g,d,t,os⟩:=s;dsimp only;wp_walk;refine MK$ Ij ?_;dsimp only;simp only[newObj];exact Ih$ wpAny_alloc$ Ij$ Ij h
end
theorem StrsAre.at':∀{V:List η} {s:List π},StrsAre V s->∀(i:Nat) (v:η),V[i]?=δ v->∃x t,s[i]?=δ x/\v= .str x t
 |_,_,.nil,i,v,h=>by simp at h
 |_,_,.cons y t r,0,v,h=>by simp at h;exact#[y,t,Z,h.symm]
 |_,_,.cons y t r,i+1,v,h=>by simp only[List.getElem?_cons_succ]at h;obtain⟨x,T,e,E⟩:=StrsAre.at' r i v h;exact#[x,T,by simpa using e,E]
theorem StrsAre.len:∀{v:List η} {s:List π},StrsAre v s->s.length=v.length
 |_,_,.nil=>rfl
 |_,_,.cons _ _ r=>by simp [StrsAre.len r]
theorem j5:Slot "set_iterator" "__next__" "set_iterator.__next__":=by
 refine .of (owner:="set_iterator") (n:="__next__") ?_ Hw Hw Hw ?_ ?_
 .rw[LF,J'];kernel_rfl
 .first |exact .inl Hw |exact .inr Hw
 .rw[LW];kernel_rfl
theorem qm:Slot "set_iterator" "__iter__" "set_iterator.__iter__":=by
 refine .of (owner:="set_iterator") (n:="__iter__") ?_ Hw Hw Hw ?_ ?_
 .rw[LF,J'];kernel_rfl
 .first |exact .inl Hw |exact .inr Hw
 .rw[LW];kernel_rfl
theorem JS:entryFor table "set_iterator.__next__"=δ nz.«set_iterator.__next__»:=NK (by kernel_rfl)
theorem JT:entryFor table "set_iterator.__iter__"=δ nz.«dict_keyiterator.__iter__»:=by refine N6 (id':="dict_keyiterator.__iter__") ?_ Z Hw ?_<;>kernel_rfl
theorem Kb:entryFor table "set.__iter__"=δ nz.«frozenset.__iter__»:=by refine N6 (id':="frozenset.__iter__") ?_ Z Hw ?_<;>kernel_rfl
theorem Kc(a:η):argsOk "set_iterator.__next__" #[[a],[]]:=by unfold argsOk;kernel_rfl
theorem Kd(a:η):argsOk "set_iterator.__iter__" #[[a],[]]:=by unfold argsOk;kernel_rfl
def ci(h:fv)(I:ε)(f:η)(i:Nat)(S:ε)(n e:Nat):Prop:=
 ∃o,h.get? I=δ o/\o.cls= .type "set_iterator"/\o.data= .fields (ι [f,.int i 0,.ref S,.int n 0,.int e 0])
theorem ci.at{H:fv}{S:ε}(x:ci h I f i S n E)(e:∀o,h.get? I=δ o->H.get? I=δ o):ci H I f i S n E:=
 let #[o,a,r]:=x;#[o,e o a,r]
theorem ci.is{s:θ}{S:ε}(x:ci s.heap I f i S n e):s.TypeIs (.ref I) "set_iterator":=let #[o,h,H,_]:=x;#[o,h,H]
section
variable {prog:ψ}{w:dg}{A:ef}{E:η->θ->Prop}{s:θ}
theorem Kg{c:Type}{Q:c->θ->Prop}(d:A.handled=ζ)
  (h:∀H e,(∀b o,s.heap.get? b=δ o->H.get? b=δ o)->Shared.TypeIs { s with heap:=H } e "StopIteration"->E e { s with heap:=H }):
  ξ (χ prog w) A (do raiseNew (<- newExc (.type "StopIteration") []):Sem c) Q E s:=by
 refine Ih ?_;simp only[newExc,newTuple];refine Ih$ I9 ?_ (by size_fits);refine Ih (m:=firstArgMember _ _)$ NY (a:=dr) ?_ ?_
 .first |rfl | (simp only[firstArgMember];rfl)
 refine I9 ?_ (by size_fits);simp only[raiseNew];refine Ih$ wpAny_handled ?_;rw[d];refine Ih$ Ij$ wpAny_throw$ h _ _ (λb o e=>Il _ (Il _ e)) ?_;exact#[_,Ir _ Z,Z]
theorem Kh{S:ε}(H:ci s.heap I f i S n c)
  (h:ξ (χ prog w) A.in1 (nz.«set_iterator.__next__» #[[.ref I],[]]) (λF a=>∃v,F= .done (.ret v)/\Q (δ v) a) (λe a=>a.TypeIs e "StopIteration"/\Q ζ a) s):
  ξ (χ prog w) A (pyNext$ .ref I) Q E s:=by
 unfold pyNext;refine Ih$ MT$ IY (name:=Str.ofString "__next__") H.is j5$ I0 j5 H.is JS ?_$ Kc _;refine Lj h (λF a q=>?_) λe a q=>?_
 .obtain⟨v,e,q⟩:=q;exact#[v,e,Ij q]
 .exact Ih$ Mr (T:="StopIteration") (b:=μ) q.1 N5$ Ij q.2
theorem QP{I:ε}{f:η}{i:Nat}{S:ε}{n a:Nat}{o:pz}{v:Array η}(H:s.heap.get? I=δ o)(b:o.cls= .type "set_iterator")(h:o.data= .fields v)(k:Nat)(x:η)
  (e:v.setIfInBounds k x=(ι [f,.int i 0,.ref S,.int n 0,.int a 0])):ci (s.heap.update I$ mT (·.setIfInBounds k x)) I f i S n a:=
 #[_,IX _ H$ Lu$ IV h _,(MX ..).trans b,by rw[IV h,e]]
theorem Yx{I S P:ε}{i:Nat}{O j:pz}{e:Array (Int×η)}{a:Nat}{t:SetTable}{k:Array η}{c p:Nat}{hx:Int}{x:η}{Q:Option η->θ->Prop}
  (h:ci s.heap I (.ref P) i S e.size a) (l:s.heap.get? S=δ O) (H:O.data= .set e a t) (m:t.fits e.size=μ) (n:s.heap.get? P=δ j) (b:j.data= .seq k c)
  (q:k[i]?=δ (.int p 0)) (r:e[p]?=δ (hx,x)) (u:∀d,ci d I (.ref P) (i+1) S e.size a->kw I s.heap d->Q (δ x) { s with heap:=d }):
  ξ (χ prog w) A (pyNext$ .ref I) Q E s:=by
 refine Kh h ?_;obtain⟨o,f,v,g⟩:=h;show ξ _ _ (fieldsOf (.ref I) >>= _) _ _ s;refine Ih$ N0 f g ?_;dsimp only;refine Ih$ MP l H m ?_;simp only[Mp,Ix,↓reduceIte];refine Ih$ Ls n b ?_;simp only[Lv,q];unfold setNextDrawn;refine Ih$ Ih$ LX l H m ?_;simp only[Mp,Ix,↓reduceIte,r];refine Ij ?_;refine Ih$ Le f g Hy$ Ij #[x,Z,u _ ?_$ LQ ..];exact QP f v g _ _ (by simp [rawInt])
theorem Qa(q:A.handled=ζ){I S P:ε}{i:Nat}{O l:pz}{d:Array (Int×η)}{m:Nat}{t:SetTable}{p:Array η}{c:Nat}{Q:Option η->θ->Prop}
  (h:ci s.heap I (.ref P) i S d.size m) (r:s.heap.get? S=δ O) (f:O.data= .set d m t) (u:t.fits d.size=μ) (v:s.heap.get? P=δ l) (g:l.data= .seq p c)
  (x:p[i]?=ζ) (y:∀H,(∀b o,b≠I->s.heap.get? b=δ o->H.get? b=δ o)->Q ζ { s with heap:=H }):
  ξ (χ prog w) A (pyNext$ .ref I) Q E s:=by
 refine Kh h ?_;obtain⟨o,j,B,a⟩:=h;show ξ _ _ (fieldsOf (.ref I) >>= _) _ _ s;refine Ih$ N0 j a ?_;dsimp only;refine Ih$ MP r f u ?_;simp only[Mp,Ix,↓reduceIte];refine Ih$ Ls v g ?_;simp only[Lv,x];refine Ih$ Le j a Hy ?_;refine Ih$ Le (IX _ j$ Lu$ IV a _) (IV a _) Hy ?_;refine Kg (s:={ s with heap:=_ }) (by simpa using q) λH e k T=>#[T,y H λb o n z=>k b o ?_];exact(IJ _ _$ IC n).trans ((IJ _ _$ IC n).trans z)
end
section
variable {prog:ψ}{w:dg}{A:ef}{E:η->θ->Prop}{s:θ}
theorem QQ{I S:ε}{i j nx:Nat}{O:pz}{e:Array (Int×η)}{a:Nat}{t:SetTable}{x:η}{Q:Option η->θ->Prop}
  (h:ci s.heap I (.int j 0) i S e.size a) (f:s.heap.get? S=δ O) (b:O.data= .set e a t) (k:t.fits e.size=μ)
  (l:∀(q:Option (η×Nat)->θ->Prop) m,q (δ (x,nx)) s->ξ (χ prog w) A.in1 (setNext S j i a) q m s)
  (n:∀c,ci c I (.int nx 0) (i+1) S e.size a->kw I s.heap c->Q (δ x) { s with heap:=c }):
  ξ (χ prog w) A (pyNext$ .ref I) Q E s:=by
 refine Kh h ?_;obtain⟨o,d,p,H⟩:=h;show ξ _ _ (fieldsOf (.ref I) >>= _) _ _ s;refine Ih$ N0 d H ?_;dsimp only;refine Ih$ MP f b k ?_;simp only[Mp,Ix,↓reduceIte];simp only[Lv];refine Ih$ l _ _ ?_;dsimp only;refine Ih$ Le d H Hy ?_;let g:=IX (mT (·.setIfInBounds 0 (rawInt nx))) d (Lu$ IV H _);let D:=IV H (·.setIfInBounds 0 (rawInt nx));refine Ih$ Le g D Hy$ Ij #[x,Z,n _ ?_ ((LQ ..).trans$ LQ ..)];exact QP (s:={ s with heap:=_ }) g ((MX ..).trans p) D _ _ (by simp [rawInt])
theorem qR(l:A.handled=ζ){I S:ε}{i j:Nat}{O:pz}{a:Array (Int×η)}{c:Nat}{t:SetTable}{Q:Option η->θ->Prop}
  (h:ci s.heap I (.int j 0) i S a.size c) (m:s.heap.get? S=δ O) (d:O.data= .set a c t) (n:t.fits a.size=μ)
  (p:∀(q:Option (η×Nat)->θ->Prop) r,q ζ s->ξ (χ prog w) A.in1 (setNext S j i c) q r s)
  (u:∀H,(∀b o,b≠I->s.heap.get? b=δ o->H.get? b=δ o)->Q ζ { s with heap:=H }):
  ξ (χ prog w) A (pyNext$ .ref I) Q E s:=by
 refine Kh h ?_;obtain⟨o,f,y,g⟩:=h;show ξ _ _ (fieldsOf (.ref I) >>= _) _ _ s;refine Ih$ N0 f g ?_;dsimp only;refine Ih$ MP m d n ?_;simp only[Mp,Ix,↓reduceIte];simp only[Lv];refine Ih$ p _ _ ?_;dsimp only;refine Ih$ Le f g Hy ?_;refine Kg (s:={ s with heap:=_ }) (by simpa using l) λH e k T=>#[T,u H λb o v x=>k b o ?_];exact(IJ _ _$ IC v).trans x
theorem JF(a:w.params.followText "set-order"=μ){S:ε}(b:s.heap.get? S=δ o)(H:o.data= .set c d t)
  (f:t.fits c.size=μ) {Q:Option (η×Nat)->θ->Prop} (h:Q (((pickOrder (w.params.setOrder S d) c)[i]?).map λe=>(e.2,j)) s):
  ξ (χ prog w) A (setNext S j i d) Q E s:=by
 unfold setNext;refine Ih$ LX b H f ?_;dsimp only;unfold setsByText;refine Ih$ Ih$ MK$ Ij ?_;dsimp only;rw[show(χ prog w).w.params.followText "set-order"=_ from a];simp only[↓reduceIte,Mp,Ix];unfold setWalk;refine Ih$ Ih$ LX b H f ?_;dsimp only;unfold setsByText;refine Ih$ Ih$ MK$ Ij ?_;dsimp only;rw[show(χ prog w).w.params.followText "set-order"=_ from a];simp only[↓reduceIte];exact Ih$ MK$ Ij$ Ij h
theorem J7(a:w.params.followText "set-order"=ν){S:ε}(b:s.heap.get? S=δ o)(H:o.data= .set e c t)
  (d:t.fits e.size=μ) (f:t.led=μ) (l:e.size<=1) {Q:Option (η×Nat)->θ->Prop}
  (h:Q (match e[SetTable.below t.place j]?,t.place[SetTable.below t.place j]? with |some (_,x),δ k=>δ (x,k+1) |_,_=>ζ) s):
  ξ (χ prog w) A (setNext S j i c) Q E s:=by
 unfold setNext;refine Ih$ LX b H d ?_;dsimp only;unfold setsByText;refine Ih$ Ih$ MK$ Ij ?_;dsimp only;rw[show(χ prog w).w.params.followText "set-order"=_ from a];simp only[Ix,↓reduceIte];split
 .rename_i z
  let g:(!t.plain&&decide (e.size > 1))=μ:=z;simp only[Ly,decide_eq_true_eq]at g;omega
 .refine Ih ?_;show ξ _ _ (if (!t.led&&!e.isEmpty)=μ then _ else _) _ _ _;rw[f];simp only[MJ,RF,Ix,↓reduceIte];exact Ij$ Ij h
end
theorem X2{a:Type}(f:Nat->Nat):∀(n k:Nat) (l:List a) (o:Array a),l.length=n->(pickOrder.go f n k l o).toList.Perm (o.toList++l):=by
 intro n;induction n with
 |zero=>intro k l o h;rw[List.length_eq_zero_iff.mp h];unfold pickOrder.go;simp
 |succ n i=>intro k l o h;unfold pickOrder.go;let H:f k % l.length < l.length:=SW _ Hz;rw[Ii H];dsimp only;refine(i _ _ _ (by rw[OB H,h];rfl)).trans ?_;rw[PH,LA,List.singleton_append];refine List.Perm.append_left _ ?_;rw[Oe];refine List.perm_middle.symm.trans ?_;rw[O5,Pe]
theorem kn{a:Type}(f:Nat->Nat)(x:Array a):(pickOrder f x).toList.Perm x.toList:=by let h:=X2 f x.size 0 x.toList (ι []) (IP ..);simpa [pickOrder] using h
theorem XA{a:Type}(x:Array a)(d:a):(ru x.size).map (λp=>(x[p]?).getD d)=x.toList:=by
 refine List.ext_getElem Hy λi b h=>?_;let H:i < x.size:=by simpa using h
 simp [H]
def mJ(ord:List (Int×η))(i:Nat)(v:η):Prop:=∃e,ord[i]?=δ e/\v=e.2
section
variable {prog:ψ}{w:dg}{A:ef}{E:η->θ->Prop}{s:θ}
theorem Je{S:ε}(H:ci s.heap I f i S n e){Q:η->θ->Prop}(h:Q (.ref I) s):ξ (χ prog w) A (pyIter$ .ref I) Q E s:=by refine Ou H.is qm$ I0 qm H.is JT ?_$ Kd _;show ξ _ _ (ret$ .ref I) _ _ s;exact Ij #[_,Z,"set_iterator",_,H.is,j5.lookup,h]
theorem Yy(D:A.handled=ζ)(I S P:ε)(l:S≠I)(m:P≠I){O oP:pz}{y:List Nat}{c:Nat}(f:O.data= .set d G t)
  (u:t.fits d.size=μ) (g:oP.data= .seq (y.map λ(i:Nat)=>rawInt i).toArray c) (n:y.Perm (ru d.size)):
  WalksS prog w A I [I,S,P] [I] (λa b=>b=a) d.size (mJ$ y.map λp=>(d[p]?).getD (0,.none))
   (λi s=>ci s.heap I (.ref P) i S d.size G/\s.heap.get? S=δ O/\s.heap.get? P=δ oP) where
 sub:=λb H=>by simp at H;simp [H]
 grefl:=λ_=>Z
 gtrans:=λ_ _ _ F J=>J.trans F
 frame:=λi s v T st _ k=>#[st.1.at λo e=>k I Hy o e,k S Hy _ st.2.1,k P Hy _ st.2.2]
 item:=λi s Q E K st j=>by
  let B:y.length=d.size:=by rw[n.length_eq,Oa]
  let h:i < y.length:=by omega
  let C:y[i] < d.size:=List.mem_range.mp (n.mem_iff.mp$ ME h);refine Yx (p:=y[i]) (hx:=(d[y[i]]).1) (x:=(d[y[i]]).2) st.1 st.2.1 f u st.2.2 g (by simp [h,rawInt]) (by simp [C]) λv q r=>?_;refine j _ _ #[d[y[i]],by simp [h,C],Z] #[q,?_,?_] #[λb o H e=>?_,Z,Z,Z,Im _]
  .rw[r.2 S l];exact st.2.1
  .rw[r.2 P m];exact st.2.2
  .rw[r.2 b (λz=>H (by simp [z]))];exact e
 done:=λs Q E st j=>by
  let B:y.length=d.size:=by rw[n.length_eq,Oa]
  refine Qa D st.1 st.2.1 f u st.2.2 g (by simp [B]) λv k=>j _ #[λb o H e=>k b o (λz=>H (by simp [z])) e,Z,Z,Z,Im _]
 self:=λ_ _ _ _ st j=>Je st.1 j
theorem ZP(r:A.handled=ζ)(m:w.params.followText "set-order"=μ)(I S:ε)(l:S≠I){O:pz}(h:O.data= .set c d t)
  (j:t.fits c.size=μ):
  WalksS prog w A I [I,S] [I] (λa b=>b=a) c.size (mJ (pickOrder (w.params.setOrder S d) c).toList)
   (λi s=>ci s.heap I (.int (0:Nat) 0) i S c.size d/\s.heap.get? S=δ O) where
 sub:=λb H=>by simp at H;simp [H]
 grefl:=λ_=>Z
 gtrans:=λ_ _ _ u v=>v.trans u
 frame:=λi s n T st _ k=>#[st.1.at λo e=>k I Hy o e,k S Hy _ st.2]
 item:=λi s Q E D st f=>by
  let y:(pickOrder (w.params.setOrder S d) c).size=c.size:=by rw[<- IP,(kn _ _).length_eq,IP]
  let g:i < (pickOrder (w.params.setOrder S d) c).size:=by omega
  refine QQ (x:=(pickOrder (w.params.setOrder S d) c)[i].2) (nx:=0) st.1 st.2 h j (λB C q=>JF m st.2 h j (by rw[Me g];exact q)) λn q p=>?_;refine f _ _ #[(pickOrder (w.params.setOrder S d) c)[i],by rw[Ma];exact Me g,Z] #[q,?_] #[λb o H e=>?_,Z,Z,Z,Im _]
  .rw[p.2 S l];exact st.2
  .rw[p.2 b (λz=>H (by simp [z]))];exact e
 done:=λs Q E st f=>by
  let y:(pickOrder (w.params.setOrder S d) c).size=c.size:=by rw[<- IP,(kn _ _).length_eq,IP]
  refine qR r st.1 st.2 h j (λB C q=>JF m st.2 h j (by rw[Nv Hz];exact q)) λn k=>f _ #[λb o H e=>k b o (λz=>H (by simp [z])) e,Z,Z,Z,Im _]
 self:=λ_ _ _ _ st f=>Je st.1 f
theorem Yz(p:Nat):SetTable.below (ι [p]) 0=0:=by simp [SetTable.below,SetTable.below.go]
theorem YA(p:Nat):SetTable.below (ι [p]) (p+1)=1:=by simp [SetTable.below,SetTable.below.go]
theorem uH(G:A.handled=ζ)(u:w.params.followText "set-order"=ν)(I S:ε)(n:S≠I){O:pz}(h:O.data= .set c L t)
  (g:t.fits c.size=μ) (v:t.led=μ) (y:c.size<=1):
  WalksS prog w A I [I,S] [I] (λa b=>b=a) c.size (mJ c.toList)
   (λi s=>(∃j:Nat,ci s.heap I (.int j 0) i S c.size L/\(i=0->j=0)/\(i=1->∃p,t.place=(ι [p])/\j=p+1))/\s.heap.get? S=δ O) where
 sub:=λb d=>by simp at d;simp [d]
 grefl:=λ_=>Z
 gtrans:=λ_ _ _ K M=>M.trans K
 frame:=λi s B W st _ k=>#[let #[j,a,r]:=st.1;#[j,a.at λo e=>k I Hy o e,r],k S Hy _ st.2]
 item:=λi s Q E X st l=>by
  obtain⟨⟨j,H,J,C⟩,f⟩:=st;let N:i=0:=by omega
  subst N;cases J Z;let D:c.size=1:=by omega
  let P:t.place.size=1:=by simp only[SetTable.fits,Ly,beq_iff_eq]at g;omega
  obtain⟨p,m⟩:=Array.size_eq_one_iff.mp P;refine QQ (x:=(c[0]'Hz).2) (nx:=p+1) H f h g (λR T q=>J7 u f h g v y (by rw[m,Yz,Me Hz];exact q)) λB q F=>?_;refine l _ _ #[c[0]'Hz,by rw[Ma];exact Me Hz,Z] #[#[_,q,λz=>by omega,λ_=>#[p,m,Z]],?_] #[λb o d e=>?_,Z,Z,Z,Im _]
  .rw[F.2 S n];exact f
  .rw[F.2 b (λz=>d (by simp [z]))];exact e
 done:=λs Q E st l=>by
  obtain⟨⟨j,H,J,C⟩,f⟩:=st;refine qR G H f h g (λR T q=>J7 u f h g v y ?_) λB k=>l _ #[λb o d e=>k b o (λz=>d (by simp [z])) e,Z,Z,Z,Im _];by_cases z:c.size=0
  .rw[Nv (show c.size<=_ by omega)];exact q
  .let D:c.size=1:=by omega
   obtain⟨p,U,V⟩:=C D;subst V;rw[U,YA,Nv (show c.size<=1 by omega)];exact q
 self:=λ_ _ _ _ st l=>let #[#[_,a,_],_]:=st;Je a l
end
theorem qk{prog:ψ}{w:dg}(h:ElemsOf (eT prog w) E)(i:Nat)(v:η)(b:mJ E i v):∃x t,(E.map λe=>lQ e.2)[i]?=δ x/\v= .str x t:=by obtain⟨e,H,rfl⟩:=b;obtain⟨⟨k,c,_⟩,_⟩:=h e (IA H);obtain⟨t,a⟩:=MZ c;exact#[k,t,by rw[Iv,H];show δ (lQ e.2)=_;rw[a];rfl,a]
def Af(p:ψ)(w:dg)(s c:θ)(S I:ε)(L:List π):Prop:=
 ∃(f:List ε) (d:List π) (P:Nat->η->Prop) (St:Nat->θ->Prop),(∀b o,s.heap.get? b=δ o->c.heap.get? b=δ o)/\c.gens=s.gens/\c.os=s.os/\s.toks<=c.toks/\
  s.heap.objs.size<=I/\I < c.heap.objs.size/\c.TypeIs (.ref I) "set_iterator"/\(∀b∈f,b=S∨s.heap.objs.size<=b)/\(∀A:ef,A.handled=ζ->WalksS p w A I f [I] (λa b=>b=a) d.length P St)/\St 0 c/\
  (∀i v,P i v->∃x t,d[i]?=δ x/\v= .str x t)/\d.Perm L
section
variable {prog:ψ}{w:dg}{A:ef}{E:η->θ->Prop}{s:θ}
theorem YB{S:ε}(V:cQ prog w s.heap S L){Q:η->θ->Prop}(h:∀f I,Af prog w s f S I L->Q (.ref I) f):ξ (χ prog w) A (pyIter$ .ref S) Q E s:=by
 obtain⟨o,a,x,t,H,W,m,n,M,X,r,u,Y,N⟩:=V;let P:s.TypeIs (.ref S) "set":=#[o,H,W.1];let v:S < s.heap.objs.size:=Iq H;refine Ou P OV$ I0 OV P Kb ?_$ PySem.F.args_set_iter_1 _;unfold nz.«frozenset.__iter__»;show ξ _ _ (Builtin.Frozenset.sizeOf S >>= _) _ _ s;unfold Builtin.Frozenset.sizeOf;refine Ih$ Ih$ MP H m u$ Ij ?_;unfold setDrawn;refine Ih$ Ih$ LX H m u ?_;dsimp only;unfold setsByText;refine Ih$ Ih$ MK$ Ij$ Ij ?_;split
 .rename_i z
  let B:(!(w.params.followText "set-order")&&(!t.plain&&decide (a.size > 1)))=μ:=z;simp only[Ly,decide_eq_true_eq]at B;refine Ih$ XZ a.size (ru a.size) s Hy λy d G=>?_;let C:y.length=a.size:=by rw[G.length_eq,Oa]
  let O:((y.map λ(i:Nat)=>rawInt i).length)<=υ:=by rw[Ik,C];exact Ny r
  refine Ih$ O9 (s:={ s with drawn:=d }) ?_ O;refine Ih ?_;unfold setEpoch;refine Ih$ LX (Il _ H) m u$ Ij ?_;refine Ih$ I9$ Ij #[_,Z,"set_iterator",_,#[_,Ir _ Z,Z],j5.lookup,h _ _ ?_];generalize J:s.heap.push { cls:=.type "tuple",data:=.seq (y.map λ(i:Nat)=>rawInt i).toArray }=g;let R:g.objs.size=s.heap.objs.size+1:=by rw[<- J,Lc]
  let gP:g.get? s.heap.objs.size=δ { cls:=.type "tuple",data:=.seq (y.map λ(i:Nat)=>rawInt i).toArray }:=by rw[<- J];exact Ir _ Z
  let gS:g.get? S=δ o:=by rw[<- J];exact Il _ H
  refine#[[g.objs.size,S,s.heap.objs.size],(y.map λp=>(a[p]?).getD (0,.none)).map λe=>lQ e.2,mJ$ y.map λp=>(a[p]?).getD (0,.none),
   (λi f=>ci f.heap g.objs.size (.ref s.heap.objs.size) i S a.size x/\f.heap.get? S=δ o/\f.heap.get? s.heap.objs.size=δ { cls:=.type "tuple",data:=.seq (y.map λ(i:Nat)=>rawInt i).toArray }),λb o e=>?_,Z,Z,Im _,?_,?_,#[_,Ir _ Z,Z],λb r=>?_,
   λT D=>?_,#[#[_,Ir _ Z,Z,Z],Il _ gS,Il _ gP],?_,?_]
  .exact Il _ (by rw[<- J];exact Il _ e)
  .show s.heap.objs.size<=g.objs.size;omega
  .show g.objs.size < (g.push _).objs.size;rw[Lc];exact LO _
  .simp only[LJ,IF,NF]at r;rcases r with e |e |e
   .subst e;exact .inr Hz
   .exact .inl e
   .rw[e];exact .inr (Im _)
  .let q:=Yy (prog:=prog) (w:=w) D g.objs.size S s.heap.objs.size (Iz (by rw[R];exact Mx v)) (Iz (by rw[R];exact LO _)) m u (oP:={ cls:=.type "tuple",data:=.seq (y.map λ(i:Nat)=>rawInt i).toArray }) (c:=0) Z G;simpa [C] using q
  .refine qk (prog:=prog) (w:=w)$ n.perm ?_;let q:=G.map λp=>(a[p]?).getD ((0:Int),dr);rwa [XA]at q
  .let q:=G.map λp=>(a[p]?).getD ((0:Int),dr);rw[XA]at q;exact(q.map _).trans M
 .rename_i z
  let B:¬(!(w.params.followText "set-order")&&(!t.plain&&decide (a.size > 1)))=μ:=z;refine Ih$ Ij ?_;refine Ih ?_;unfold setEpoch;refine Ih$ LX H m u$ Ij ?_;refine Ih$ I9$ Ij #[_,Z,"set_iterator",_,#[_,Ir _ Z,Z],j5.lookup,h _ _ ?_];let k:∀b∈[s.heap.objs.size,S],b=S∨s.heap.objs.size<=b:=λb r=>by
   simp only[LJ,IF,NF]at r;rcases r with e |e
   .subst e;exact .inr (Im _)
   .exact .inl e
  let l:∀U:pz,s.heap.objs.size < (s.heap.push U).objs.size:=λU=>by rw[Lc];exact LO _
  cases K:w.params.followText "set-order" with
  |true=>
   let pl:(pickOrder (w.params.setOrder S x) a).toList.length=a.size:=by rw[(kn _ _).length_eq,IP]
   refine#[[s.heap.objs.size,S],(pickOrder (w.params.setOrder S x) a).toList.map λe=>lQ e.2,mJ (pickOrder (w.params.setOrder S x) a).toList,
    (λi f=>ci f.heap s.heap.objs.size (.int (0:Nat) 0) i S a.size x/\f.heap.get? S=δ o),λb o e=>Il _ e,Z,Z,Im _,Im _,l _,#[_,Ir _ Z,Z],k,
    λT D=>?_,#[#[_,Ir _ Z,Z,Z],Il _ H],?_,?_]
   .let q:=ZP (prog:=prog) (w:=w) D K s.heap.objs.size S (Iz v) m u;rw[Ik,pl];exact q
   .exact qk (prog:=prog) (w:=w)$ n.perm$ kn _ _
   .exact((kn _ _).map _).trans M
  |false=>
   let hs:a.size<=1:=by
    rw[K]at B;rcases N with e |e
    .rw[e]at B;simp at B;exact B
    .omega
   refine#[[s.heap.objs.size,S],a.toList.map λe=>lQ e.2,mJ a.toList,
    (λi f=>(∃j:Nat,ci f.heap s.heap.objs.size (.int j 0) i S a.size x/\(i=0->j=0)/\(i=1->∃p,t.place=(ι [p])/\j=p+1))/\f.heap.get? S=δ o),λb o e=>Il _ e,Z,Z,Im _,Im _,l _,#[_,Ir _ Z,Z],k,
    λT D=>?_,#[#[0,#[_,Ir _ Z,Z,Z],λ_=>Z,λz=>by cases z],Il _ H],?_,?_]
   .let q:=uH (prog:=prog) (w:=w) D K s.heap.objs.size S (Iz v) m u (by rw[Y,K];rfl) hs;rw[Ik,IP];exact q
   .exact qk (prog:=prog) (w:=w) n
   .exact M
theorem qU:∀(V:List η) (S:List π),V.length=S.length->(∀(i:Nat) (v:η),V[i]?=δ v->∃x t,S[i]?=δ x/\v=FC x t)->StrsAre V S
 | [],[],_,_=>.nil
 | [],_::_,h,_=>by cases h
 |_::_,[],h,_=>by cases h
 |v::V,y::S,h,k=>by obtain⟨x,t,e,rfl⟩:=k 0 v Z;cases e;exact .cons y t$ qU V S (by simpa using h) λi u H=>k (i+1) u (by simpa using H)
theorem Qo{S:ε}(hh:A.handled=ζ)(y:cQ prog w s.heap S L){Q:List η->θ->Prop}
  (h:∀a V g,s.heap.objs.size<=a.heap.objs.size->(∀b o,s.heap.get? b=δ o->a.heap.get? b=δ o)->a.gens=s.gens->a.os=s.os->s.toks<=a.toks->StrsAre V g->g.Perm L->Q V a):ξ (χ prog w) A (collect$ .ref S) Q E s:=by
 let n:L.length < scanBound:=by obtain⟨o,es,ep,t,j,M,hd,h0,u,h1,k,hf,hl,h2⟩:=y;rw[<- u.length_eq,Ik,IP];exact k
 unfold collect;refine Ih$ O8$ LH Og ?_;rw[Ld Of];show ξ _ A.in1 (newList [] >>= λl=>again (.builtin "list.__iadd__" #[[l,.ref S],[]])) _ _ s;refine Ih$ I9$ Ij #[Mn MG _,LH Oz ?_];rw[Ld MG];show ξ _ A.in1 (nI (.ref s.heap.objs.size) (.ref S)$ .ref s.heap.objs.size) _ _ _;unfold nI;let p:S < s.heap.objs.size:=by obtain⟨o,_,_,_,j,_⟩:=y;exact Iq j
 generalize x:s.heap.push { cls:=.type "list",data:=.seq ([]:List η).toArray }=H;let gl:H.get? s.heap.objs.size=δ { cls:=.type "list",data:=.seq ([]:List η).toArray }:=by rw[<- x];exact Ir _ Z
 let R:cQ prog w H S L:=y.at λo e=>by rw[<- x];exact Il _ e
 let gk:∀b o,s.heap.get? b=δ o->H.get? b=δ o:=λb o e=>by rw[<- x];exact Il _ e
 let T:Shared.TypeIs { s with heap:=H } (.ref S) "set":=by obtain⟨o,_,_,_,j,M,_⟩:=R;exact#[o,j,M.1]
 refine Ih$ Mb T ?_;let n1:gb (.ref s.heap.objs.size) (.ref S)=ν:=by simp only[gb,beq_eq_false_iff_ne];exact Lh p
 let n2:(mu "set"==mu "list")=ν:=by decide
 let n3:(mu "set"==mu "tuple")=ν:=by decide
 simp only[n1,n2,n3,OZ,Ix,LC];refine Ih$ YB (s:={ s with heap:=H }) R λr I B=>?_;obtain⟨fp,g,P,St,K,kg,ko,kt,C,h3,h4,D,W,st,hv,u⟩:=B;let G:H.objs.size=s.heap.objs.size+1:=by rw[<- x,Lc]
 let f:r.TypeIs (.ref S) "set":=by obtain⟨o,j,hc⟩:=T;exact#[o,K _ _ j,hc]
 refine Ih$ IM ?_;unfold xD;refine Ih$ LY f PySem.F.slot_set_len.lookup ?_
 wp_delta
 refine Ih$ Mr (b:=μ) f sub_set_self ?_;show ξ _ A.in1 (typeOf (Ξ S) >>= _) _ _ _;refine Ih$ Mb f$ Ij ?_;rw[Iw HA];refine Ih$ Mg ?_;let U:=K _ _ gl;refine Ih ?_;show ξ _ A.in1 (updateSeq s.heap.objs.size (·.push .none) >>= λ_=>updateSeq s.heap.objs.size (·.pop)) _ _ _;refine Ih$ NP U Z ?_;let X:=IX (rm (·.push dr)) U Z;refine NP X Z ?_;let g3:=IX (rm (·.pop)) X Z;let N:¬s.heap.objs.size∈fp:=λm=>by
  rcases D _ m with e |e
  .exact absurd p (by rw[<- e];exact Lq _)
  .let e':H.objs.size<=s.heap.objs.size:=e;omega
 let O:∀b o,b≠s.heap.objs.size->r.heap.get? b=δ o->((r.heap.update s.heap.objs.size$ rm (·.push dr)).update s.heap.objs.size$ rm (·.pop)).get? b=δ o:=
  λb o k e=>(IJ _ _$ IC k).trans ((IJ _ _$ IC k).trans e)
 let Y:=W A.in1 (by simpa using hh);let hn:g.length<=υ:=by rw[u.length_eq];exact Ny n
 refine Ij #[Mn On _,Rl Y hn _ N _ g.length 0 _ _ _ Z (Is _) (Y.frame 0 r _ r.toks st (Im _) λb k o e=>O b o (λz=>N (z▸k)) e) g3 (RC P) λa J c m gS d=>?_];show ξ _ A (load s.heap.objs.size >>= _) _ _ a;refine Ih$ RI gS$ Ij$ h a J.toList g (MF$ Iq gS) (λb o e=>?_) ?_ ?_ ?_ ?_ u
 .let ne:b≠s.heap.objs.size:=Iz (Iq e);refine m.heap b o ?_$ O b o ne$ K b o$ gk b o e;simp only[LJ,IF,NF,not_or];refine#[ne,λz=>?_];let q:s.heap.objs.size+1<=I:=G▸C;let q2:=Iq e;rw[z]at q2;exact absurd (IE (Mx q2) q)$ Lq _
 .exact m.gens.trans kg
 .exact m.os.trans ko
 .exact IB kt m.toks
 .refine qU _ _ (by rw[IP,d.1]) λi v e=>hv i v (d.2 i v (by rwa [Ma]at e))
end
section
variable {prog:ψ}{w:dg}{A:ef}{E:η->θ->Prop}{s:θ}
theorem Xj{S:ε}(z:A.handled=ζ)(B:cQ prog w s.heap S L)(j:L.length < 64){Q:η->θ->Prop}
  (h:∀f a c v i,s.heap.objs.size<=a->(∀b o,s.heap.get? b=δ o->f.heap.get? b=δ o)->f.gens=s.gens->f.os=s.os->f.heap.get? a=δ (seqObj "list" v c)->StrsAre v.toList i->i.Perm L->sortedS i=μ->Q (.ref a) f):
  ξ (χ prog w) A (call (.builtin "sorted") [.ref S]) Q E s:=by
 refine Calls.call_function_entry kind_sorted plain_sorted entry_sorted (args_sorted1 _) ?_;unfold nz.«sorted»;refine Ih (m:=checkCount "sorted" 1 1 _)$ Ij ?_;refine Ih$ Qo (by simpa using z) B λd v i K k C D P H r=>?_;let F:v.length < 64:=by rw[<- _L.StrsAre.len H,r.length_eq];exact j
 refine Ih$ wpAny_newList ?_ (by let q:υ=1000000000∨64<=υ:=.inr HA;omega);let g:=Ir d.heap (o:=seqObj "list" v.toArray 0) Z;refine Ih$ IM$ I0 slot_list_sort #[_,g,Z] entry_list_sort (list_sort_treeK strKind_oneLt g H.keysOf (λV t R e=>keyKind_strs (by rw[<- e];exact H)) F λl G I=>#[_,Z,?_]) (args_list_sort _);obtain⟨n,u,J,M⟩:=sorted_out_str H G I;generalize (arrOf l).map (·.2)=out at u ⊢;obtain⟨c,N⟩:=sortedHeap_at (out:=out) g;let O:∀b o,s.heap.get? b=δ o->(sortedHeap (d.heap.push$ seqObj "list" v.toArray 0) d.heap.objs.size v out).get? b=δ o:=by
  intro b o e;let x:=k b o e;let y:b < d.heap.objs.size:=Iq x;let p:b < (d.heap.push$ seqObj "list" v.toArray 0).objs.size:=by rw[size_push'];exact Mx y
  rw[sortedHeap_old (Iz y) p];exact Il _ x
 exact Ij #[_,Z,h { d with heap:=sortedHeap (d.heap.push$ seqObj "list" v.toArray 0) d.heap.objs.size v out } d.heap.objs.size c out n K O C D N u (J.trans r) M]
end
theorem JG(h:StrsAre v s):aw (s.map HV) v:=by
 induction h with
 |nil=>exact .nil
 |cons y t _ i=>exact .cons #[t,Z] i
def EW(P:ψ)(w:dg)(a:ε)(L:List π):HO:=.ext λh=>cQ P w h a L
section
variable {X:Cx}
theorem ql(i:X.calm=μ):dS X (.builtin "sorted") (λx H Q=>∃(p:ε) (L:List π),x=[.ref p]/\H p=δ (EW X.prog X.w p L)/\L.length < 64/\
  ∀l S,H l=ζ->S.Perm L->L.Nodup->sortedS S=μ->Q (.ref l) (aj H l$ .lst$ S.map HV)):=by
 intro P s B H x U Q I r h;obtain⟨p,L,rfl,j,d,q⟩:=h;obtain⟨u,rfl,R⟩:=eB r;cases R;obtain⟨f,_,_⟩:=I.hok p _ j;let b:L.Nodup:=by obtain⟨_,_,_,_,_,_,_,_,_,b,_⟩:=f;exact b
 refine Xj (I.ok.hd i) f d λm a c v S e k K o t y g A=>?_;let len:(S.map HV).length<=υ:=by rw[Ik,g.length_eq];exact IB (MF d) HA
 let n:aS X.prog X.w (aj H a$ .lst$ S.map HV) m.heap a (.lst$ S.map HV):=#[len,v.toList,c,JG y,t];refine#[.ref a,_,I.call' (ch:=[]) o (Un.laid k e$ I.hok.fresh e) (I.hok.laid k e n) (by rw[K];exact I.bare) (λ_ z=>nomatch z),Z,q _ _ (I.hok.fresh e) g b A]
theorem Xk:dS X (.builtin "sorted") (λx H Q=>∃(p:ε) (a:List π),x=[.ref p]/\aG X.K H p (a.map HV)/\a.length < 64/\
  ∀l S,H l=ζ->S.Perm a->sortedS S=μ->Q (.ref l) (aj H l$ .lst$ S.map HV)):=by
 intro P s v H x U Q I r h;obtain⟨p,a,rfl,f,b,q⟩:=h;obtain⟨u,rfl,R⟩:=eB r;cases R;obtain⟨i,g,j,y⟩:=I.list f;let d:=qh g;let k:i.length=a.length:=(_L.StrsAre.len d).symm;refine sorted_strs j.isList d (by rw[k];exact b) λo S m A n=>?_;obtain⟨c,t⟩:=sortedAll_at s.heap i o;let len:(S.map HV).length<=υ:=by rw[Ik,A.length_eq];exact IB (MF b) HA
 refine#[.ref$ s.heap.objs.size+1,_,I.laid (t':=s.toks) (λ_ _ e=>sortedAll_old e) (LU _) (show aS X.prog X.w _ _ _ (.lst$ S.map HV) from #[len,o.toList,c,JG m,t]),Z,q _ _ (I.hok.fresh$ LU _) A n]
end
theorem Y5:mroOf (.type "reversed")=pure [.type "reversed",.type "object"]:=by rw[mroOf_type];kernel_rfl
theorem Qb:typeLookup (.type "reversed") "__new__"=pure (δ$ .builtin "reversed.__new__"):=by rw[LF,J'];kernel_rfl
theorem Qp:Slot "reversed" "__init__" "object.__init__":=by
 refine .of (owner:="object") (n:="__init__") ?_ Hw Hw Hw ?_ ?_
 .rw[LF,J'];kernel_rfl
 .first |exact .inl Hw |exact .inr Hw
 .rw[LW];kernel_rfl
theorem YC:TypeCalled "reversed" "reversed.__new__" "object.__init__":=by refine#[Hw,Hw,#[_,_,Y5],madeBy_type Y5 Qb Hw,Hw,?_,Qp];rw[LW];kernel_rfl
theorem Xl(a:η):checkTypeCall "reversed" #[[a],[]]=pure ():=by kernel_rfl
theorem X3(a:η):checkBuiltinCall "reversed.__new__" #[[.type "reversed",a],[]]=pure ():=by kernel_rfl
theorem Qq:entryFor table "reversed.__new__"=δ nz.«reversed.__new__»:=NK (by kernel_rfl)
theorem xK:isSubtype (.type "reversed") (.type "reversed")=pure μ:=by rw[LW];kernel_rfl
theorem Xm:typeLookup (.type "tuple") "__reversed__"=pure ζ:=by rw[LF,J'];kernel_rfl
theorem Qc:isSubtype (.type "tuple") (.type "dict")=pure ν:=by rw[LW];kernel_rfl
def revObj(t:ε)(n:Int):pz:={ cls:=.type "reversed",data:=.fields (ι [.ref t,.int (n - 1) 0]) }
section
variable {prog:ψ}{w:dg}{A:ef}{E:η->θ->Prop}{s:θ}
theorem pI{Q:η->θ->Prop}(H:IsTup s.heap t i)(c:(i.size:Int) < 2 ^ 63)
  (h:Q (.ref s.heap.objs.size) { s with heap:=s.heap.push (revObj t i.size),toks:=s.toks+1+1 }):ξ (χ prog w) A (call (.type "reversed") [.ref t]) Q E s:=by
 refine callType_new (S:=λ_ R a=>a=s/\R (.ok$ .ret$ .ref s.heap.objs.size) { s with heap:=s.heap.push (revObj t i.size),toks:=s.toks+1+1 }) YC HA (Xl _) (X3 _) (λo=>Om o _) Qq
  (.of_wp λp W f R a d=>?_) #[Z,#[_,Ir _ Z,Z],h]
 obtain⟨rfl,e⟩:=d;unfold nz.«reversed.__new__» Builtin.SmallTypes.newClass;refine Ih ?_;dsimp only;refine Ih$ Ij ?_;simp only[MJ,Ix,LC];refine Ih$ NY xK ?_;simp only[MJ,Ix,LC];refine Ij ?_;refine Ih (m:=Builtin.SmallTypes.refuseKeywords _ _ _)$ Ij ?_;refine Ih (m:=checkCount "reversed" 1 1 _)$ Ij ?_;dsimp only;refine Ih$ LY H.typeIs Xm ?_;dsimp only;refine Ih ?_;show ξ _ _ (isInstance (.ref t) (.type "dict") >>= _) _ _ _;refine Ih$ Mr (b:=ν) H.typeIs Qc ?_;simp only[Ix,LC];refine Ih$ LY H.typeIs PyProof.Rows.slot_tuple_getitem.lookup ?_;dsimp only;rw[Iw Hw];refine Ij ?_;simp only[MJ,Ix,LC];refine Ih$ len_tuple H c ?_;refine Ih (m:=asInt? _)$ Ij ?_;dsimp only;show ξ _ _ (newObj (.type "reversed") (.fields [Ξ t,rawInt ((i.size:Int) - 1)].toArray) >>= _) _ _ _;exact Ih$ I9$ Ij #[_,Z,e]
end
theorem zT:Slot "reversed" "__next__" "reversed.__next__":=by
 refine .of (owner:="reversed") (n:="__next__") ?_ Hw Hw Hw ?_ ?_
 .rw[LF,J'];kernel_rfl
 .first |exact .inl Hw |exact .inr Hw
 .rw[LW];kernel_rfl
theorem qV:Slot "reversed" "__iter__" "reversed.__iter__":=by
 refine .of (owner:="reversed") (n:="__iter__") ?_ Hw Hw Hw ?_ ?_
 .rw[LF,J'];kernel_rfl
 .first |exact .inl Hw |exact .inr Hw
 .rw[LW];kernel_rfl
theorem Qe:entryFor table "reversed.__next__"=δ nz.«reversed.__next__»:=NK (by kernel_rfl)
theorem Qg:entryFor table "reversed.__iter__"=δ nz.«dict_keyiterator.__iter__»:=by refine N6 (id':="dict_keyiterator.__iter__") ?_ Z Hw ?_<;>kernel_rfl
theorem Qr(a:η):argsOk "reversed.__next__" #[[a],[]]:=by unfold argsOk;kernel_rfl
theorem Qs(a:η):argsOk "reversed.__iter__" #[[a],[]]:=by unfold argsOk;kernel_rfl
def dD(h:fv)(I t:ε)(k:Int):Prop:=∃o,h.get? I=δ o/\o.cls= .type "reversed"/\o.data= .fields (ι [.ref t,.int k 0])
theorem dD.at{H:fv}(x:dD h I t k)(e:∀o,h.get? I=δ o->H.get? I=δ o):dD H I t k:=let #[o,a,r]:=x;#[o,e o a,r]
theorem dD.is{s:θ}(x:dD s.heap I t k):s.TypeIs (.ref I) "reversed":=let #[o,h,H,_]:=x;#[o,h,H]
section
variable {prog:ψ}{w:dg}{A:ef}{E:η->θ->Prop}{s:θ}
theorem XB(H:dD s.heap I t k)
  (h:ξ (χ prog w) A.in1 (nz.«reversed.__next__» #[[.ref I],[]]) (λf S=>∃v,f= .done (.ret v)/\Q (δ v) S) (λe S=>S.TypeIs e "StopIteration"/\Q ζ S) s):
  ξ (χ prog w) A (pyNext$ .ref I) Q E s:=by
 unfold pyNext;refine Ih$ MT$ IY (name:=Str.ofString "__next__") H.is zT$ I0 zT H.is Qe ?_$ Qr _;refine Lj h (λf S q=>?_) λe S q=>?_
 .obtain⟨v,e,q⟩:=q;exact#[v,e,Ij q]
 .exact Ih$ Mr (T:="StopIteration") (b:=μ) q.1 N5$ Ij q.2
theorem DH{I t:ε}{k:Nat}{items:Array η}{x:η}{Q:Option η->θ->Prop}(H:dD s.heap I t k)(c:IsTup s.heap t items)(d:items[k]?=δ x)(e:(items.size:Int) < 2 ^ 63)
  (f:∀b,dD b I t ((k:Int) - 1)->kw I s.heap b->Q (δ x) { s with heap:=b,toks:=s.toks+1 }):ξ (χ prog w) A (pyNext$ .ref I) Q E s:=by
 refine XB H ?_;obtain⟨o,a,g,h⟩:=H;let i:k < items.size:=(bU.mp d).1;show ξ _ _ (field (.ref I) 0 >>= _) _ _ s;refine Ih$ IS a h (x:=.ref t) Z$ Ih$ IS a h (x:=.int k 0) Z ?_;dsimp only;rw[Iy Hz];refine Ih$ LY c.typeIs PyProof.Rows.slot_tuple_getitem.lookup ?_;simp only[Pj,Ix,LC];refine Ih$ wpAny_mkInt$ Ih$ MT ?_;refine getItem_tuple (s:={ s with toks:=s.toks+1 }) c Hz Hz (j:=k) ?_ d ?_
 .unfold seqIndex?;simp;omega
 refine Ih$ IS (s:={ s with toks:=s.toks+1 }) a h (x:=.int k 0) Z ?_;dsimp only;refine Ih$ Le a h Hy$ Ij #[x,Z,f _ ?_$ LQ ..];exact#[_,IX _ a$ Lu$ IV h _,(MX ..).trans g,by rw[IV h];simp [rawInt]]
theorem ZQ(f:A.handled=ζ){Q:Option η->θ->Prop}(h:dD s.heap I t (-1))
  (g:∀a,(∀b o,b≠I->s.heap.get? b=δ o->a.get? b=δ o)->Q ζ { s with heap:=a }):ξ (χ prog w) A (pyNext$ .ref I) Q E s:=by
 refine XB h ?_;obtain⟨o,c,j,H⟩:=h;show ξ _ _ (field (.ref I) 0 >>= _) _ _ s;refine Ih$ IS c H (x:=.ref t) Z$ Ih$ IS c H (x:=.int (-1) 0) Z ?_;dsimp only;rw[Iw HA];refine Ih$ Mg$ Ih ?_;show ξ _ _ (setField (.ref I) 1 (rawInt (-1)) >>= λ_=>setField (.ref I) 0 .none) _ _ _;refine Ih$ Le c H Hy ?_;refine Le (IX _ c$ Lu$ IV H _) (IV H _) Hy ?_;refine Ih ?_;refine Kg (s:={ s with heap:=_ }) (by simpa using f) λa e k T=>#[T,g a λb o d i=>k b o ?_];exact(IJ _ _$ IC d).trans ((IJ _ _$ IC d).trans i)
theorem yz(H:dD s.heap I t k){Q:η->θ->Prop}(h:Q (.ref I) s):ξ (χ prog w) A (pyIter$ .ref I) Q E s:=by refine Ou H.is qV$ I0 qV H.is Qg ?_$ Qs _;show ξ _ _ (ret$ .ref I) _ _ s;exact Ij #[_,Z,"reversed",_,H.is,zT.lookup,h]
end
theorem J8:entryFor table "dict.update.loop"=δ nz.«dict.update.loop»:=NK (by kernel_rfl)
theorem zP:plainId "dict.update.loop"=μ:=by decide+kernel
section
variable {X:Cx}{o lo hi:fr}{to tl th:TE}{pos p2:Pos}
inductive Dx(v:V)(h:St)(Q:St->Hp->Prop)(e a c:V)(d:Hp):Prop
 |mk(l b f g i j:_)(_:e= .ref l)(_:v= .ref b)(_:a= .int i)(_:c= .int j)(_:d l=δ (.lst f))(_:d b=δ (.lst g))(_:l≠b)(_:0<=i)(_:i<=j)(_:j<=(f.length:Int))(_:f.length+g.length<=υ)(_:Q h (aj d l (.lst (f.take i.toNat++g++f.drop j.toNat))))
def G8(to tl th:TE):TG:=λv b H Q=>to b H λO h=>tl b h λa c=>th b c (Dx v b Q O a)
theorem sC(n:PE X o to)(t:PE X lo tl)(w:PE X hi th)
  (A:∀v,assign (.Subscript o (.Slice (δ lo) (δ hi) ζ p2) pos) X.env v=(do
   let O <- ym [v] (eval o X.env)
   let c <- ym [v,O] (eval (.Slice (δ lo) (δ hi) ζ p2) X.env)
   standAt pos
   ym [v,O,c] (setItem O c v)
   release [c,v,O] []):=by intro _;rfl):PG X (.Subscript o (.Slice (δ lo) (δ hi) ζ p2) pos) (G8 to tl th):=by
 intro p s a H v u Q I r h;rw[A];refine Ih$ IM$ aL (n p s a H _ I h) λO B d=>?_;obtain⟨x,C,D,R,E⟩:=d;refine Ih$ IM ?_;refine wpAny_Slice$ aL (t p B a C _ D E) λV F #[y,G,J,K,L]=>aL (w p F a G _ J L) λm S f=>?_;obtain⟨z,M,N,P,l,b,xs,ys,i,j,T,U,W,Y,h1,h2,g,h0,k,hj,hz,q⟩:=f;subst T U W Y;cases (show O=Ξ l from R);cases (show u=Ξ b from r);refine Ij ?_;let I4:aq X p a M { S with heap:=S.heap.push { cls:=.type "slice",data:=.fields (ι [V,m,.none]) } }:=N.kept (t':=S.toks) λb o e=>Il _ e;refine Ih$ Mm$ Ih$ IM ?_;exact ZE I4 h1 h2 g (Op S.heap V m .none) K P h0 k hj hz λs5 I5=>wpAny_release #[a,_,I5,q]
end
end _L
namespace _L
open PySem PySem.Spec PyProof.Rows Builtin Builtin.Str
section
variable {prog:ψ}{w:dg}{A:ef}{E:η->θ->Prop}{s:θ}
theorem JI{lo:Option Int}{Q:η->θ->Prop}(H:IsTup s.heap t i)(d:s.heap.IsSliceOf e v j .none)(p:IsPart v lo)(P:IsPart j f)
  (g:HT.sIx i.size 0 lo=0/\HT.sIx i.size i.size f=i.size) (h:Q (.ref t) s):ξ (χ prog w) A (getItem (.ref t)$ .ref e) Q E s:=by
 obtain⟨os,a,b,k⟩:=id d;let c:s.TypeIs (.ref e) "slice":=#[os,a,b];unfold getItem;try with_reducible refine IM ?_
 first |refine Ih (Ij ?_) |skip
 refine Ih$ Ot H.typeIs HA ?_;refine Ih (IY (name:=Str.ofString "__getitem__") H.typeIs Mc
  (I0 Mc H.typeIs SJ ?_$ SO _ _))
 show ξ _ _ (HE (.ref t) >>= _) _ _ s;refine Ih$ SH H ?_;refine Ih$ Mb c ?_;rw[Iw HA];refine Ih$ HT.sliceApplied_gen d p P ?_;show ξ _ _ (if (((HT.sIx i.size 0 lo:Nat):Int)==0&&(1:Int)==1&&(HT.sIx i.size i.size f - HT.sIx i.size 0 lo)==i.size)=μ then _ else _) _ _ s;rw[g.1,g.2,Iw Hy];unfold Builtin.Tuple.tupleIsExact;refine Ih$ Ih$ Mb H.typeIs$ Ij ?_;rw[Iw HA];first
  |exact Mg (Ij #[_,Z,Ij h])
  |exact Ih (Mg (Ij #[_,Z,Ij h]))
  |exact Ih (Ij (Ij #[_,Z,Ij h]))
end
section
variable {X:Cx}
inductive sJ(x y:V)(H:Hp)(Q:VK):Prop
 |mk(a b c d:_)(_:x= .ref a)(_:y= .ref b)(_:H a=δ (.tup c))(_:H b=δ (.tup d))(_:c.length+d.length<=υ)(_:∀r H',H' r=δ (.tup (c++d))->af H H'->Q (.ref r) H')
theorem ky:gp X (binaryOp .Add) sJ:=by
 intro P s G H x y v u Q I r R h;obtain⟨a,b,m,Y,rfl,rfl,d,f,J,q⟩:=h;let t:=aC.of (K:=X.K) d;let w:=aC.of (K:=X.K) f;by_cases z:m=[]
 .subst z;cases r;cases R;obtain⟨l,L,M,_⟩:=I.tuple t;obtain⟨i,r2,N,_⟩:=I.tuple w;let O:l=[]:=L.nil_iff.mpr Z;subst O;obtain⟨⟨T,U,A,V⟩,B,C,n,E⟩:=id M;obtain⟨⟨F,D,data2,S⟩,g,j,W,k⟩:=id N;simp only at C E j k;subst C E j k;exact PR #[_,B,Z] #[_,g,Z] OH Po Nl Na (M' _ _)
   (tuple_addW0 a b ([]:List η).toArray i.toArray n W U D V S Z) #[B,g,.ref b,H,I,Z,q b H f$ af.refl H]
 .refine ww P s G H _ _ v u Q I r R #[a,b,m,Y,Z,Z,t,w,z,J,λe=>?_,λ_ p np=>?_]
  .subst e;exact q a H (by rw[M1];exact d)$ af.refl H
  .exact q p _ jc λc o e=>by rw[ji$ jk e np];exact e
inductive BN(x:V)(c b:Option Int)(H:Hp)(Q:VK):Prop
 |mk(a d:_)(_:x= .ref a)(_:H a=δ (.tup d))(_:∀r H',H' r=δ (.tup (aX d c b))->af H H'->Q (.ref r) H')
theorem qd:EV X BN:=by
 intro P s u H x v V w lo j S Q I R k l m h;obtain⟨a,b,rfl,d,q⟩:=h;let n:=aC.of (K:=X.K) d;by_cases g:HT.sIx b.length 0 lo=0/\HT.sIx b.length b.length j=b.length
 .cases R;obtain⟨i,r,t,y⟩:=I.tuple n;let f:i.toArray.size=b.length:=by rw[Ip];exact r.length.symm
  refine#["tuple",_,PyProof.Rows.slot_tuple_getitem.lookup,t.typeIs,?_];refine JI t k l m (by rw[f];exact g) #[.ref a,H,I,Z,q a H ?_$ af.refl H];rw[d];unfold aX;rw[g.1,g.2,RB,Oc,Ln]
 .exact Cm P s u H _ v V w lo j S Q I R k l m #[a,b,Z,n,g,λp N=>q p _ jc λc o e=>by rw[ji$ jk e N];exact e]
end
end _L
namespace _L
open PySem PySem.Spec PyProof.Rows
theorem yi{G:Bool->Hp->Prop}(y:G μ H)(n:b=ν->G b H):G b H:=by
 cases b
 .exact n Z
 .exact y
theorem aV{A:Prop}(h:∀G:Prop,(A->G)->G):A:=h A λz=>z
section
variable {t u:TS}{D:a7}{σ:St}{H:Hp}
theorem eX(h:∀E:a7,(∀a b,u D a b->E.nx a b)->t E σ H):cR t u D σ H:=h { D with nx:=u D } λ_ _ h=>h
theorem ah(h:∀F:St->Hp->Prop,(∀a b,u D a b->F a b)->t { D with nx:=F } σ H):cR t u D σ H:=h _ λ_ _ h=>h
theorem nP{c:TT}(h:∀F:Bool->Hp->Prop,(∀b a,(if b=μ then t D σ a else u D σ a)->F b a)->c σ H F):iN c t u D σ H:=h _ λ_ _ x=>x
theorem nO{c:TT}(h:∀F:Bool->Hp->Prop,(∀a,t D σ a->F μ a)->(∀a,u D σ a->F ν a)->c σ H F):iN c t u D σ H:=by
 refine h _ (λa x=>?_) λa x=>?_
 .show if μ=μ then _ else _;rw[Iw Z];exact x
 .show if ν=μ then _ else _;rw[Iy HA];exact x
theorem dE(R:St->Hp->Prop)(c:∀E:a7,E.rt=D.rt->(∀a b,R a b->E.nx a b)->t E σ H)(d:∀a b,R a b->D.nx a b):EE t D σ H:=#[R,c { D with nx:=R } Z λ_ _ h=>h,d]
theorem nJ{c:TT}{T:TS}(W:Nat->St->Hp->Prop)(d:Nat)(e:W d σ H)
  (f:∀m σ H,∀E:a7,E.rt=D.rt->(∀M a b,M < m->W M a b->E.nx a b)->∀F:Bool->Hp->Prop,(∀b,T E σ b->F μ b)->(∀b,D.nx σ b->F ν b)->∀G:Prop,(c σ H F->G)->W m σ H->G):uy c T D σ H:=by
 refine#[W,#[d,e],λm σ H w=>?_];refine f m σ H { D with nx:=λa b=>∃M,M < m/\W M a b,ct:=λa b=>∃M,M < m/\W M a b,bk:=D.nx } Z (λM a b l g=>#[M,l,g]) _ (λb x=>?_) (λb x=>?_) _ (λz=>z) w
 .show if μ=μ then _ else _;rw[Iw Z];exact#[_,λ_ _ h=>h,x]
 .show if ν=μ then _ else _;rw[Iy HA];exact x
def pq(J:It)(g:TG)(T:TS)(D:a7)(σ:St)(H:Hp):Prop:=∃W:Nat->Nat->St->Hp->Prop,(∃m,W 0 m σ H)/\∀i m σ H,W i m σ H->
 (J.stop i H/\D.nx σ H)∨(J.go i H/\∃N:St->Hp->Prop,(∀a h,N a h->∃M,M < m/\W (i+1) M a h)/\∀x h,J.yld i H x h->g x σ h λb c=>T { D with nx:=N,ct:=N,bk:=D.nx } b c)
theorem gu{w:TI}(h:∀F:It->Hp->Prop,(∀J a,pq J g T D σ a->F J a)->w σ H F):Cy w g T D σ H:=h _ λ_ _ z=>z
theorem Hn{g:TG}{Q:St->Hp->Prop}(h:∀F:St->Hp->Prop,(∀a b,Q a b->F a b)->g x σ H F):g x σ H Q:=h _ λ_ _ z=>z
theorem qi{lo:Int}{g:TG}{T:TS}{D:a7}{σ:St}{H:Hp}(Pv:Nat->St->Hp->Prop)(d:Pv 0 σ H)
  (e:∀E:a7,E.rt=D.rt->∀i σ H,i < n->(∀a c,Pv (i+1) a c->E.nx a c)->∀G:Prop,((g (.int$ lo+i) σ H λb f=>T E b f)->G)->Pv i σ H->G) (j:∀σ H,Pv n σ H->D.nx σ H):pq (uY lo n) g T D σ H:=
 QC Pv d (λi σ H k p=>e { D with nx:=Pv (i+1),ct:=Pv (i+1),bk:=D.nx } Z i σ H k (λ_ _ h=>h) _ (λz=>z) p) j
theorem QR{K:Ω}{a:ε}{xs:List V}{g:TG}{T:TS}{D:a7}{σ:St}{H:Hp}(Pv:Nat->St->Hp->Prop)(e:Pv 0 σ H)(f:∀i σ H,i<=xs.length->Pv i σ H->aG K H a xs)
  (j:∀E:a7,E.rt=D.rt->∀i x σ H,xs[i]?=δ x->(∀b d,Pv (i+1) b d->E.nx b d)->∀G:Prop,((g x σ H λc k=>T E c k)->G)->Pv i σ H->G) (l:∀σ H,Pv xs.length σ H->D.nx σ H):pq (yd K a) g T D σ H:=
 p5 Pv e f (λi x σ H m p=>j { D with nx:=Pv (i+1),ct:=Pv (i+1),bk:=D.nx } Z i x σ H m (λ_ _ h=>h) _ (λz=>z) p) l
theorem qA{K:Ω}{xs:List V}{g:TG}{T:TS}{D:a7}{σ:St}{H:Hp}(Pv:Nat->St->Hp->Prop)(e:Pv 0 σ H)(f:∀i σ H,i<=xs.length->Pv i σ H->aC K H a xs)
  (j:∀E:a7,E.rt=D.rt->∀i x σ H,xs[i]?=δ x->(∀b d,Pv (i+1) b d->E.nx b d)->∀G:Prop,((g x σ H λc k=>T E c k)->G)->Pv i σ H->G) (l:∀σ H,Pv xs.length σ H->D.nx σ H):pq (uO K a) g T D σ H:=
 vA Pv e f (λi x σ H m p=>j { D with nx:=Pv (i+1),ct:=Pv (i+1),bk:=D.nx } Z i x σ H m (λ_ _ h=>h) _ (λz=>z) p) l
end
end _L
namespace _L
open PySem PySem.Spec PyProof.Rows PySem.SeqAt
inductive Tr where
 |lf (v:V) |tp (l:Tr) |nil |cons (h t:Tr)
def Tr.dep:Tr->Nat
 | .lf _=>0
 | .tp l=>l.dep+1
 | .nil=>0
 | .cons h t=>max h.dep t.dep
def Tr.isL:Tr->Bool
 | .nil=>μ
 | .cons _ _=>μ
 |_=>ν
def FT:V->Bool
 | .byt _=>ν
 | .flt _=>ν
 |_=>μ
def iH(K:Ω)(H:Hp):Tr->V->List V->Prop
 | .lf v,x,_=>x=v/\FT v=μ
 | .tp l,x,_=>l.isL=μ/\∃a X,x= .ref a/\aC K H a X/\iH K H l .non X
 | .nil,_,X=>X=[]
 | .cons h t,_,X=>h.isL=ν/\t.isL=μ/\∃y Y,X=y::Y/\iH K H h y []/\iH K H t .non Y
theorem ZR(o:FT v=μ)(r:aB v u)(R:aB v U):EqAt A s u U μ:=by
 cases v with
 |int a=>obtain⟨t,rfl⟩:=r;obtain⟨T,rfl⟩:=R;let:=EqAt.int_int (A:=A) (s:=s) a t a T;rwa [MV]at this
 |str a=>obtain⟨t,rfl⟩:=r;obtain⟨T,rfl⟩:=R;let:=RX (A:=A) (s:=s) a t a T;rwa [MV]at this
 |byt b=>cases o
 |flt b=>cases o
 |non=>cases r;cases R;exact Oi _
 |bl b=>cases r;cases R;exact Oi _
 |ref b=>cases r;cases R;exact Oi _
 |ty b=>cases r;cases R;exact Oi _
section
variable {X:Cx}
theorem QS:(ru n).all (λ_=>μ)=μ:=by simp
theorem wR(I:aq X p D H s){A:ef}(k:aC X.K H a d)(l:aC X.K H b Y)(m:d.length=Y.length)(n:A.units < cLine)
  (h:∀(j:Nat) (x y:V) (u v:η),d[j]?=δ x->Y[j]?=δ y->aB x u->aB y v->EqAt A.in1 s u v μ):RcAt A s (.ref a) (.ref b) μ:=by
 obtain⟨i,r,P,_⟩:=I.tuple k;obtain⟨f,R,o,_⟩:=I.tuple l;let:=RcAt.tuples (A:=A) (e:=λ_=>μ) (show s.heap.IsTuple a i.toArray from P) (show s.heap.IsTuple b f.toArray from o) n (λj q F=>?_)
 .rw[QS,Ip,Ip,<- r.length,<- R.length,m,MV]at this;exact this
 .let L:=r.length;let G:=R.length;let g:j < d.length:=by simp at q;omega
  let c:j < Y.length:=by omega
  obtain⟨U,Q,t⟩:=r.get (Ii g);obtain⟨w,z,B⟩:=R.get (Ii c);let E:i.toArray[j]=U:=by obtain⟨_,e⟩:=τ.mp Q;simpa using e
  let C:f.toArray[j]=w:=by obtain⟨_,e⟩:=τ.mp z;simpa using e
  rw[E,C];exact h j _ _ _ _ (Ii g) (Ii c) t B
theorem y7(I:aq X p U H s):∀(t:Tr) {A:ef},A.units+t.dep < cLine->∀{x y:V} {c Y:List V},iH X.K H t x c->iH X.K H t y Y->
  (t.isL=ν->∀u v,aB x u->aB y v->EqAt A s u v μ)/\(t.isL=μ->c.length=Y.length/\∀(j:Nat) (d f:V) (u v:η),c[j]?=δ d->Y[j]?=δ f->aB d u->aB f v->EqAt A s u v μ):=by
 intro t;induction t with
 |lf w=>rintro A g x y c Y ⟨rfl,O⟩ ⟨rfl,_⟩;exact#[λ_ u v r R=>ZR O r R,λh=>by cases h]
 |tp l q=>
  rintro A g x y c Y ⟨z,a,W,rfl,B,T⟩ ⟨_,b,bs,rfl,C,D⟩;refine#[λ_ u v r R=>?_,λh=>by cases h];cases r;cases R;let E:A.units+(l.dep+1) < cLine:=g;let i:=(q (A:=A.in1) (by show A.units+1+l.dep < cLine;omega) T D).2 z;by_cases e:a=b
  .rw[e];exact Oi _
  .exact EqAt.of_refs e$ wR I B C i.1 Hz i.2
 |nil=>rintro A g x y c Y rfl rfl;exact#[(λh=>by cases h),λ_=>#[Z,λj d f u v h=>by simp at h]]
 |cons h t k m=>
  rintro A g x y c Y ⟨F,G,x1,J,rfl,P,L⟩ ⟨_,_,y1,M,rfl,Q,N⟩;let E:A.units+max h.dep t.dep < cLine:=g;let S:=(k (A:=A) Hz P Q).1 F;let i:=(m (A:=A) Hz L N).2 G;refine#[(λh=>by cases h),λ_=>#[by rw[IL,IL,i.1],λj d f u v n o=>?_]];cases j with
  |zero=>cases n;cases o;exact S u v
  |succ j=>exact i.2 j d f u v (by simpa using n) (by simpa using o)
inductive yO(K:Ω)(d:Nat)(b:Bool)(x y:V)(H:Hp)(Q:VK):Prop
 |mk(l:Tr)(_:l.dep < d)(_:iH K H (.tp l) x [])(_:iH K H (.tp l) y [])(_:Q (.bl b) H)
theorem wS(I:aq X p D H s){A:ef}(k:aC X.K H a d)(l:aC X.K H b Y)(m:d.length=Y.length)(n:A.units < cLine)
  (h:∀(j:Nat) (x y:V) (u v:η),d[j]?=δ x->Y[j]?=δ y->aB x u->aB y v->EqAt A.in1 s u v μ):RcNeAt A s (.ref a) (.ref b) ν:=by
 obtain⟨i,r,P,_⟩:=I.tuple k;obtain⟨f,R,o,_⟩:=I.tuple l;let:=RcNeAt.tuples (A:=A) (e:=λ_=>μ) (show s.heap.IsTuple a i.toArray from P) (show s.heap.IsTuple b f.toArray from o) n (λj q F=>?_)
 .rw[QS,Ip,Ip,<- r.length,<- R.length,m,MV]at this;exact this
 .let L:=r.length;let G:=R.length;let g:j < d.length:=by simp at q;omega
  let c:j < Y.length:=by omega
  obtain⟨U,Q,t⟩:=r.get (Ii g);obtain⟨w,z,B⟩:=R.get (Ii c);let E:i.toArray[j]=U:=by obtain⟨_,e⟩:=τ.mp Q;simpa using e
  let C:f.toArray[j]=w:=by obtain⟨_,e⟩:=τ.mp z;simpa using e
  rw[E,C];exact h j _ _ _ _ (Ii g) (Ii c) t B
theorem wB{d:Nat}(i:X.A.units+d < cLine):gp X (compareOp .NotEq) (yO X.K d ν):=by intro p s j H x y v u Q I r R h;obtain⟨l,k,⟨e,a,m,rfl,f,t⟩,⟨_,b,B,rfl,g,T⟩,q⟩:=h;cases r;cases R;let c:=(y7 I l (A:=X.A.in1) (by show X.A.units+1+l.dep < cLine;omega) t T).2 e;exact wS I f g c.1 Hz c.2 X.prog X.w _ _ #[.bl ν,H,I,Z,q]
end
end _L
namespace _L
open PySem PySem.Spec PyProof.Rows
def Fm(K:Ω)(a:ε)(n:Nat):It:=
 #[λi H=>∃X x,aC K H a X/\X.length=n/\X.reverse[i]?=δ x,λi H x h=>h=H/\∀X,aC K H a X->X.reverse[i]?=δ x,λi H=>∃X,aC K H a X/\X.length=n/\i=n]
theorem uB{P:ψ}{K:Ω}(a f:ε)(n:Nat):oG P w K tg (Fm K a n) [f] f (λi h=>dD h f a ((n:Int) - 1 - i)) where
 mem:=by simp
 obj:=λi h st b j=>by
  let e:b=f:=by simpa using j
  subst e;obtain⟨o,e,c,d⟩:=st;exact#[o,e,λv z=>by rw[d]at z;cases z]
 keep:=λi h q st k=>st.at λo e=>k f Hy o e
 item:=by
  intro X y A B O i g s Q H E I t st C;subst y A B;obtain⟨l,x,D,T,m⟩:=C;obtain⟨r,R,p,hz⟩:=I.tuple D;let hl:=R.length;let U:=dY;let V:i < l.length:=by
   rcases NA i l.length with z |z
   .exact z
   .rw[Lr (by simpa using z)]at m;cases m
  let F:l[l.length - 1 - i]?=δ x:=by rw[Mu V]at m;exact m
  obtain⟨u,W,Y⟩:=R.get F;obtain⟨G,J,f2,L,M,N⟩:=t f Hy;let e:((n:Int) - 1 - i)=((l.length - 1 - i:Nat):Int):=by omega
  rw[e]at st;refine DH (items:=r.toArray) st (show IsTup s.heap a r.toArray from p) (x:=u) (by simpa using W) (by simp only[Ip];omega) λq S sb=>?_;let I1:aq X g Q H { s with heap:=q,toks:=s.toks+1 }:=I.turned (t':=s.toks+1) (λb o j e=>(sb.2 b j).trans e) G J L M N;obtain⟨o,e',c,d⟩:=id S;refine#[u,Z,YS (s:={ s with heap:=q,toks:=s.toks+1 }) e' c d HA #[x,H,I1,Y,#[Z,λys hy=>by rw[I.tuple_inj hy D];exact m],?_,λb j=>(t b j).1]];let e2:((n:Int) - 1 - ((i+1:Nat):Int))=((l.length - 1 - i:Nat):Int) - 1:=by omega
  show dD q f a ((n:Int) - 1 - ((i+1:Nat):Int));rw[e2];exact S
 done:=by
  intro X y A B O i g s Q H E I t st C;subst y A B;obtain⟨l,D,T,m⟩:=C;obtain⟨G,J,f2,L,M,N⟩:=t f Hy;let e:((n:Int) - 1 - (i:Int))= -1:=by omega
  rw[e]at st;exact ZQ (I.ok.hd O) st λq eb=>#[Z,I.turned (t':=s.toks) (λb o j e=>eb b o j e) G J L M N]
 self:=λ_ _ _ _ _ st h=>yz st h
section
variable {X:Cx}{tg:fr}
inductive yx(K:Ω)(R:It->Hp->Prop)(x:V)(b:Hp):Prop
 |mk(a c:_)(_:x= .ref a)(_:aC K b a c)(_:R (Fm K a c.length) b)
def FM(K:Ω)(t:TE):TI:=λa H R=>t a H (yx K R)
theorem sD{e:fr}{t:TE}{c:π}{p P:Pos}(j:Gl X c)(k:X.mg c=ζ)(l:bootBuiltins c=δ (.type "reversed"))(y:PE X e t)(m:c≠"__name__":=by decide)(n:(c==("__debug__":π))=ν:=by decide)
  (r:Θ [e] X.env=(ν,eval e X.env)::Θ [] X.env:=by rfl) (A:(hY P$ Θ [] X.env).any (·.1)=ν:=by rfl):PI X tg (.Call (.Name c p) [e] [] P) (FM X.K t):=by
 intro d s B H R I h;refine Lk$ qr I j k l ?_ m n;refine Li ?_ r A;rw[r];show ξ _ _ (spliced ((ν,eval e X.env)::hY P (Θ [] X.env))) _ _ s;refine LB$ aL (y d s B H _ I h) λu S z=>?_;obtain⟨x,C,g,D,a,v,E,F,q⟩:=z;subst E;cases (show u=Ξ a from D);obtain⟨i,G,J,N⟩:=g.tuple F;let f:=G.length;let L:=dY;refine Mh$ pI (show IsTup S.heap a i.toArray from J) (by simp only[Ip];omega) ?_;let w:dD (S.heap.push$ revObj a i.toArray.size) S.heap.objs.size a ((v.length:Int) - 1 - ((0:Nat):Int)):=#[_,Ir _ Z,Z,by rw[Ip,<- f];simp [revObj]];refine yz (s:={ S with heap:=S.heap.push (revObj a i.toArray.size),toks:=S.toks+1+1 }) w ?_;refine#[S.heap.objs.size,[S.heap.objs.size],_,_,C,Z,g.kept (t':=S.toks+1+1) λb o e=>Il _ e,uB a _ v.length,w,λb M=>?_,q];let e:b=S.heap.objs.size:=by simpa using M
 subst e;exact g.fpOk (Im _)$ g.hok.fresh$ Im _
end
theorem XC{K:Ω}{xs:List V}{g:TG}{t:TS}{D:a7}(Pv:Nat->St->Hp->Prop)(k:Pv 0 b H)(l:∀i b H,i<=xs.length->Pv i b H->aC K H a xs)
  (n:∀E:a7,E.rt=D.rt->∀i x b H,xs.reverse[i]?=δ x->(∀c f,Pv (i+1) c f->E.nx c f)->∀G:Prop,((g x b H λj o=>t E j o)->G)->Pv i b H->G) (r:∀b H,Pv xs.length b H->D.nx b H):pq (Fm K a xs.length) g t D b H:=by
 refine#[λi m b H=>m=xs.length - i/\i<=xs.length/\Pv i b H,#[xs.length,Hy,Is _,k],?_];rintro i m b H ⟨rfl,s,p⟩;let q:=l i b H s p;by_cases d:i < xs.length
 .refine .inr #[#[xs,_,q,Z,Ii (by simpa using d)],Pv$ i+1,λc f P=>#[xs.length - (i+1),Hz,Z,d,P],λx f y=>?_];obtain⟨e,y⟩:=y;subst e;exact n { D with nx:=Pv (i+1),ct:=Pv (i+1),bk:=D.nx } Z i x b _ (y xs q) (λ_ _ h=>h) _ (λz=>z) p
 .let e:i=xs.length:=by omega
  subst e;exact .inl #[#[xs,q,Z,Z],r b H p]
theorem tW:Slot "list_reverseiterator" "__length_hint__" "list_reverseiterator.__length_hint__":=by refine Slot.of (owner:="list_reverseiterator") (n:="__length_hint__") (by rw[LF,J'];kernel_rfl) Hw Hw Hw ?_ (by rw[LW];kernel_rfl);first |exact .inl Hw |exact .inr Hw
theorem ZS:typeLookup (.type "list_reverseiterator") "__len__"=pure ζ:=by rw[LF,J'];kernel_rfl
theorem Cq:isSubtype (.type "list_reverseiterator") (.type "list_reverseiterator")=pure μ:=by rw[LW];kernel_rfl
section
variable {prog:ψ}{w:dg}{A:ef}{E:η->θ->Prop}{s:θ}
theorem AQ(H:s.heap.IsRevIter I t k){Q:Bool->θ->Prop}(h:Q ν s):ξ (χ prog w) A (xD$ .ref I) Q E s:=by
 unfold xD;refine Ih$ LY H.typeIs ZS ?_;show ξ _ A (specialOf (Ξ I) (Str.ofString "__length_hint__") >>= _) _ _ _;refine Ih$ LY H.typeIs tW.lookup ?_;let e:splitId "list_reverseiterator.__length_hint__"=δ ("list_reverseiterator","__length_hint__"):=by decide+kernel
 dsimp only;rw[e];dsimp only;refine Ih$ Mr (b:=μ) H.typeIs Cq ?_;simp only[MJ,Ix,LC];rw[Iw Hw,Iy Hw];exact Ij h
theorem oK{a:Array η}{Q:List η->θ->Prop}(z:A.handled=ζ)(f:s.heap.IsRevIter I t ((a.size:Int) - 1))(r:s.heap.IsList t a)(B:t≠I)(C:a.size<=υ)
  (D:∀S,(∀b o,b≠I->s.heap.get? b=δ o->S.heap.get? b=δ o)->s.heap.objs.size<=S.heap.objs.size->S.gens=s.gens->S.os=s.os->Q a.toList.reverse S):ξ (χ prog w) A (collect$ .ref I) Q E s:=by
 let j:I < s.heap.objs.size:=by obtain⟨o,k,_⟩:=f;exact Iq k
 let n:t < s.heap.objs.size:=by obtain⟨o,k,_⟩:=r;exact Iq k
 let u:I≠s.heap.objs.size:=Iz j;let F:t≠s.heap.objs.size:=Iz n;unfold collect;refine Ih (O8 (LH Og (by
  rw[Ld Of _];show ξ _ A.in1 (newList [] >>= λl=>again (.builtin "list.__iadd__" #[[l,.ref I],[]])) _ _ s;refine Ih$ I9$ Ij #[Mn MG _,LH Oz ?_];rw[Ld MG _];generalize v:s.heap.push { cls:=.type "list",data:=.seq ([]:List η).toArray }=H;let J:H.get? s.heap.objs.size=δ { cls:=.type "list",data:=.seq (ι []) }:=by rw[<- v];exact Ir _ Z
  let G:∀b o,s.heap.get? b=δ o->H.get? b=δ o:=λb o e=>by rw[<- v];exact Il _ e
  let h:H.IsRevIter I t ((a.size:Int) - 1):=f.at λo e=>G I o e;let p:H.IsList t a:=r.at λo e=>G t o e;show ξ _ A.in1 (nI (.ref s.heap.objs.size) (.ref I)$ .ref s.heap.objs.size) _ _ { s with heap:=H };unfold nI;refine Ih$ Mb (s:={ s with heap:=H }) h.typeIs ?_;let K:gb (.ref s.heap.objs.size) (.ref I)=ν:=by simp only[gb,beq_eq_false_iff_ne];exact IC u
  let L:(mu "list_reverseiterator"==mu "list")=ν:=by decide
  let M:(mu "list_reverseiterator"==mu "tuple")=ν:=by decide
  simp only[K,L,M,OZ,Ix,LC];refine Ih$ wpAny_pyIter_revIter (s:={ s with heap:=H }) h$ Ih$ IM$ AQ (s:={ s with heap:=H }) h ?_;let N:¬s.heap.objs.size∈[I,t]:=by simp only[LJ,IF,NF,not_or];exact#[IC u,IC F]
  rw[Iy Hw];refine Ij #[Mn On _,?_];let W:=(Walks.listRev (prog:=prog) (w:=w) (A:=A.in1) (by simpa using z) I t B a).toS;refine Rl W C _ N _ a.size 0 _ (ι []) _ Z (Is _) #[Is _,by simpa using h,p] J (RC _) λS d U m x c=>?_;let O:d=a.toList.reverse.toArray:=by
   apply Array.ext';refine List.ext_getElem? λi=>?_;by_cases y:i < a.size
   .let g:i < d.size:=by rw[c.1];exact y
    let q:=c.2 i d[i] (by simp [g]);rw[Ma,Me g,<- q];show a[a.size - 1 - i]?=a.toList.reverse[i]?;rw[Mu (by simpa using y)];simp
   .rw[Lr (by rw[IP,c.1];omega),Lr (by simp;omega)]
  subst O;show ξ _ A (load s.heap.objs.size >>= _) _ _ S;refine Ih$ RI x$ Ij ?_;let P:a.toList.reverse.toArray.toList=a.toList.reverse:=by simp
  rw[P];refine D S (λb o R e=>?_) ?_ m.gens m.os
  .let T:b≠s.heap.objs.size:=Iz (Iq e);exact m.heap b o (by simp only[LJ,IF,NF,not_or];exact#[T,R])$ G b o e
  .exact MF$ Iq x)))
end
section
variable {prog:ψ}{w:dg}{A:ef}{E:η->θ->Prop}{s:θ}
theorem Xn{i:Array η}{Q:η->θ->Prop}(f:A.handled=ζ)(H:s.heap.IsRevIter I t ((i.size:Int) - 1))(g:s.heap.IsList t i)(j:t≠I)(d:i.size<=υ)
  (h:∀S:θ,(∀b o,b≠I->s.heap.get? b=δ o->S.heap.get? b=δ o)->s.heap.objs.size<=S.heap.objs.size->S.gens=s.gens->S.os=s.os->
   Q (.ref S.heap.objs.size) { S with heap:=S.heap.push { cls:=.type "tuple",data:=.seq i.toList.reverse.toArray } }):
  xa (χ prog w) A (.call (.builtin "tuple.__new__") #[[.type "tuple",.ref I],[]]) (wants Q E) s:=by
 refine O0 (show ξ _ A.in1 (do checkBuiltinCall "tuple.__new__" #[[.type "tuple",.ref I],[]];again (.builtin "tuple.__new__" #[[.type "tuple",.ref I],[]])) _ _ s from ?_);refine Ih (NY (PySem.F.newCall_tuple_1 _) (Ij #[Mn Oy _,LH PySem.F.entry_tuple_new (by
  rw[Ld Oy _];let e:=sub_tuple_self;let a:=init_tuple_lookup;let l:=madeHere_tuple;let c:=H.typeIs;wp_walk using Mb c,oK (by simpa using f) H g j d;intro S k z m n;show ξ _ _ (fJ i.toList.reverse.toArray >>= λv=>ret v) _ _ _;unfold fJ;exact Ih$ I9 (Ij$ h S k z m n) (by show i.toList.reverse.toArray.size<=υ;simpa using d))]))
theorem Xo{items:Array η}{Q:η->θ->Prop}(d:A.handled=ζ)(c:s.heap.IsRevIter I t ((items.size:Int) - 1))(e:s.heap.IsList t items)(f:t≠I)(g:items.size<=υ)
  (h:∀a:θ,(∀b o,b≠I->s.heap.get? b=δ o->a.heap.get? b=δ o)->s.heap.objs.size<=a.heap.objs.size->a.gens=s.gens->a.os=s.os->
   Q (.ref a.heap.objs.size) { a with heap:=a.heap.push { cls:=.type "tuple",data:=.seq items.toList.reverse.toArray } }):ξ (χ prog w) A (call (.type "tuple") [.ref I]) Q E s:=by
 refine SR (Q₁:=λO S=>S.TypeIs O "tuple"/\Q O S) FU (PySem.F.typeCall_tuple_1 _) PySem.F.entry_object_init (Xn (by simpa using d) c e f g λa k z i j=>#[#[_,Ir _ Z,Z],h a k z i j]) λO S H=>?_;exact#[H.1,Om O _,object_init_meets FU.init.lookup FU.made HA prog w A.in1 _ S #[H.1,Z,H.2]]
end
section
variable {X:Cx}{e:fr}{te:TE}{xl xr:π}{p p2 pos pos2:Pos}
inductive my(K:Ω)(Q:VK)(x:V)(b:Hp):Prop
 |mk(a c:_)(_:x= .ref a)(_:aG K b a c)(_:∀l,b l=ζ->Q (.ref l) (aj b l (.tup c.reverse)))
def xO(K:Ω)(te:TE):TE:=λa H Q=>te a H (my K Q)
theorem ZT(M:X.calm=μ)(g:Gl X xl)(j:X.mg xl=ζ)(l:bootBuiltins xl=δ (.type "tuple"))(m:Gl X xr)(n:X.mg xr=ζ)(r:bootBuiltins xr=δ (.type "reversed"))(O:PE X e te)
  (t:xl≠"__name__":=by decide) (v:(xl==("__debug__":π))=ν:=by decide) (y:xr≠"__name__":=by decide) (A:(xr==("__debug__":π))=ν:=by decide)
  (E:Θ [.Call (.Name xr p2) [e] [] pos2] X.env=(ν,eval (.Call (.Name xr p2) [e] [] pos2) X.env)::Θ [] X.env:=by rfl) (T:(hY pos$ Θ [] X.env).any (·.1)=ν:=by rfl)
  (F:Θ [e] X.env=(ν,eval e X.env)::Θ [] X.env:=by rfl) (U:(hY pos2$ Θ [] X.env).any (·.1)=ν:=by rfl):
  PE X (.Call (.Name xl p) [.Call (.Name xr p2) [e] [] pos2] [] pos) (xO X.K te):=by
 intro P s V H Q I h;refine Lk$ qr I g j l ?_ t v;refine Li ?_ E T;rw[E];show ξ _ _ (spliced ((ν,eval (.Call (.Name xr p2) [e] [] pos2) X.env)::hY pos (Θ [] X.env))) _ _ s;refine LB ?_;refine Lk$ qr I m n r ?_ y A;refine Li ?_ F U;rw[F];show ξ _ _ (spliced ((ν,eval e X.env)::hY pos2 (Θ [] X.env))) _ _ s;refine LB$ aL (O P s V H _ I h) λu d B=>?_;obtain⟨x,W,f,Y,a,G,ex,hq,q⟩:=B;subst ex;cases (show u=Ξ a from Y);obtain⟨i,R,C,hz⟩:=f.list hq;let J:=R.length;refine Mh$ call_reversed_list C.isList$ Mh ?_;let D:a < d.heap.objs.size:=by obtain⟨o,ho,_⟩:=C.isList;exact Iq ho
 refine Xo (s:={ d with heap:=d.heap.push (PySem.revObj a ((i.toArray.size:Int) - 1)) }) (items:=i.toArray) (I.ok.hd M) #[_,Ir _ Z,Z,Z] (C.isList.at λo e=>Il _ e) (Iz D)
  (by simp only[Ip];omega) λS k hl kg ko=>?_
 let c:d.heap.objs.size<=S.heap.objs.size:=IB (by show _<=(d.heap.push _).objs.size;rw[Lc];exact LU _) hl;let L:∀b o,d.heap.get? b=δ o->(S.heap.push { cls:=.type "tuple",data:=.seq i.toArray.toList.reverse.toArray }).get? b=δ o:=λb o e=>Il _ (k b o (Iz$ Iq e)$ Il _ e);let hg:(S.heap.push { cls:=.type "tuple",data:=.seq i.toArray.toList.reverse.toArray }).get? S.heap.objs.size=δ { cls:=.type "tuple",data:=.seq i.toArray.toList.reverse.toArray }:=Ir _ Z;let N:aS X.prog X.w (aj W S.heap.objs.size$ .tup G.reverse) (S.heap.push { cls:=.type "tuple",data:=.seq i.toArray.toList.reverse.toArray }) S.heap.objs.size (.tup G.reverse):=by
  refine#[by rw[M3];exact hz,i.reverse,aw.reverse R,?_];let ee:i.toArray.toList.reverse.toArray=i.reverse.toArray:=by simp
  rw[<- ee];exact#[_,hg,Z,_,Z]
 exact#[.ref S.heap.objs.size,_,f.call' (ch:=[]) ko (Un.laid L c$ f.hok.fresh c) (f.hok.laid L c N) (by show AllBare S.gens;rw[kg];exact f.bare) (λ_ z=>nomatch z),Z,q _$ f.hok.fresh c]
end
section
variable {prog:ψ}{w:dg}{A:ef}{E:η->θ->Prop}{s:θ}
theorem YD{Q:η->θ->Prop}(a:s.heap.IsTupleIter J T i)(e:s.heap.IsTuple T I)(f:I[i]?=δ x)
  (q:∀b,b.IsTupleIter J T (i+1)->kw J s.heap b->Q x { s with heap:=b }):ξ (χ prog w) A (ab$ .ref J) Q E s:=by
 obtain⟨o,H,g,h⟩:=id a;obtain⟨O,c,_,n,d⟩:=e;unfold ab;refine Ih$ IY (name:=Str.ofString "__next__") a.typeIs Md$ I0 Md a.typeIs NQ (show ξ _ _ (field (.ref J) 0 >>= _) _ _ s from ?_)$ NO _;refine Ih$ IS H h (x:=.ref T) Z (show ξ _ _ (if (Ξ T==dr)=μ then _ else _) _ _ s from ?_);rw[Iy (show ¬((Ξ T==dr)=μ) from Iu)];refine(show ξ _ _ (field (.ref J) 1 >>= _) _ _ s from Ih$ IS H h (x:=.int i 0) Z (show ξ _ _ (seqItems? (.ref T) >>= _) _ _ s from Ih$ Ls c d ?_));simp only[Lv,f];refine Ih$ Le H h Hy$ Ij #[x,Z,Ij$ q _ #[_,IX _ H$ Lu$ IV h _,(MX ..).trans g,by rw[IV h];simp [rawInt]] (LQ ..)]
theorem ZU(g:A.handled=ζ)(H:s.heap.IsTupleIter J T i)(j:s.heap.IsTuple T I)(l:I[i]?=ζ)
  (q:∀h e,HN J s.heap h->Shared.TypeIs { s with heap:=h } e "StopIteration"->E e { s with heap:=h }):ξ (χ prog w) A (ab$ .ref J) Q E s:=by
 obtain⟨o,a,p,c⟩:=id H;obtain⟨O,d,_,N,f⟩:=j;unfold ab;refine Ih$ IY (name:=Str.ofString "__next__") H.typeIs Md$ I0 Md H.typeIs NQ (show ξ _ _ (field (.ref J) 0 >>= _) _ _ s from ?_)$ NO _;refine Ih$ IS a c (x:=.ref T) Z (show ξ _ _ (if (Ξ T==dr)=μ then _ else _) _ _ s from ?_);rw[Iy (show ¬((Ξ T==dr)=μ) from Iu)];refine(show ξ _ _ (field (.ref J) 1 >>= _) _ _ s from Ih$ IS a c (x:=.int i 0) Z (show ξ _ _ (seqItems? (.ref T) >>= _) _ _ s from Ih$ Ls d f ?_));simp only[Lv,l];refine Ih$ Mg$ Ih$ Le a c Hy ?_;refine Kg (by simpa using g) λh e k t=>q h e (λb o m n=>k b o ?_) t;exact(IJ _ _$ IC m).trans n
end
def gH(b:Bool)(h:fv)(i l:ε)(k:Nat):Prop:=match b with
 |true=>h.IsListIter i l k
 |false=>h.IsTupleIter i l k
def iA(b:Bool)(h:fv)(l:ε)(x:Array η):Prop:=match b with
 |true=>h.IsList l x
 |false=>h.IsTuple l x
def fe:Bool->String
 |true=>"list_iterator"
 |false=>"tuple_iterator"
theorem gH.kp{b:Bool}{H:fv}(x:gH b h i l k)(e:∀o,h.get? i=δ o->H.get? i=δ o):gH b H i l k:=by
 cases b
 .exact RE x e
 .obtain⟨o,a,r⟩:=x;exact#[o,e o a,r]
theorem iA.kp{b:Bool}{H:fv}(x:iA b h l a)(e:∀o,h.get? l=δ o->H.get? l=δ o):iA b H l a:=by
 cases b
 .obtain⟨o,c,r⟩:=x;exact#[o,e o c,r]
 .exact SX x e
theorem gH.ob(x:gH b h i l k):∃o,h.get? i=δ o/\o.cls= .type (fe b)/\∀v,o.data≠ .cell v:=by
 cases b
 .obtain⟨o,H,c,d⟩:=x;exact#[o,H,c,λv z=>by rw[d]at z;cases z]
 .obtain⟨o,H,c,d⟩:=x;exact#[o,H,c,λv z=>by rw[d]at z;cases z]
section
variable {prog:ψ}{w:dg}{A:ef}{E:η->θ->Prop}{s:θ}
theorem qj{Q:η->θ->Prop}(H:gH b s.heap J T i)(a:iA b s.heap T I)(c:I[i]?=δ x)
  (q:∀h,gH b h J T (i+1)->kw J s.heap h->Q x { s with heap:=h }):ξ (χ prog w) A (ab$ .ref J) Q E s:=by
 cases b
 .exact YD H a c q
 .exact wpAny_nextOf_list_item H a c q
theorem QT(H:A.handled=ζ)(a:gH b s.heap J T i)(c:iA b s.heap T I)(d:I[i]?=ζ)
  (q:∀h e,HN J s.heap h->Shared.TypeIs { s with heap:=h } e "StopIteration"->E e { s with heap:=h }):ξ (χ prog w) A (ab$ .ref J) Q E s:=by
 cases b
 .exact ZU H a c d q
 .exact wpAny_nextOf_list_end H a c d λh e k #[o,f,g]=>q h (.ref e) k #[o,f,g]
theorem yA{Q:η->θ->Prop}(h:iA b s.heap T i)
  (q:Q (.ref s.heap.objs.size) { s with heap:=s.heap.push { cls:=.type (fe b),data:=.fields (ι [.ref T,.int 0 0]) } }):ξ (χ prog w) A (pyIter$ .ref T) Q E s:=by
 cases b
 .exact RG h q
 .exact Nw h q
structure u7(z u v c d a b:ε):Prop where
 uz:u≠z
 vz:v≠z
 cz:c≠z
 dz:d≠z
 uv:u≠v
 uc:u≠c
 ud:u≠d
 vc:v≠c
 vd:v≠d
 cd:c≠d
 az:a≠z
 av:a≠v
 ac:a≠c
 ad:a≠d
 bz:b≠z
 bv:b≠v
 bc:b≠c
 bd:b≠d
theorem xU{Q:Option η->θ->Prop}(D:u7 z u v c d a b)
  (H:IsZip s.heap z u v .none) (hu:IsPair s.heap u (.ref c) (.ref d)) (hv:IsPair s.heap v p q) (h1:gH B s.heap c a k) (h2:gH C s.heap d b k) (g1:iA B s.heap a xs) (g2:iA C s.heap b ys) (hx:xs[k]?=δ x) (hy:ys[k]?=δ y)
  (hQ:∀h,IsZip h z u v (rawInt s.heap.objs.size)->IsPair h v x y->gH B h c a (k+1)->gH C h d b (k+1)->IsPair h s.heap.objs.size x y->h.objs.size=s.heap.objs.size+1->
   (∀e o,e≠z->e≠v->e≠c->e≠d->s.heap.get? e=δ o->h.get? e=δ o)->Q (δ$ .ref s.heap.objs.size) { s with heap:=h }):ξ (χ prog w) A (pyNext$ .ref z) Q E s:=by
 let W:s.TypeIs (.ref z) "zip":=#[_,H,Z];unfold pyNext;refine Ih$ MT$ IY (name:=Str.ofString "__next__") W Lz$ I0 Lz W MS (show ξ _ _ (field (.ref z) 2 >>= _) _ _ _ from ?_)$ MH _;refine Ih$ IS H Z (x:=.bool ν) Z (show ξ _ _ (field (.ref z) 3 >>= _) _ _ _ from Ih$ IS H Z (x:=.ref u) Z$ Ih$ Ls hu Z ?_);refine(show ξ _ _ (da (.ref z) >>= _) _ _ _ from Ih ?_);unfold da;refine Ih$ IS H Z (x:=.none) Z$ Ij ?_;simp only[M4];refine Ih$ Mg$ Ih$ IS H Z (x:=.ref v) Z$ Ih$ Mv H Hy λX F S=>?_;replace F:IsZip X z u v .ellipsis:=F;refine Ih ?_;simp only[P9,Rp,LV,MD];refine Ih$ Ih$ Pm (show ξ _ _ (ab (.ref c) >>= _) _ _ _ from ?_);refine Ih$ qj (s:={ s with heap:=X }) (h1.kp λo e=>S.extBut _ _ D.cz e) (g1.kp λo e=>S.extBut _ _ D.az e) hx λG i2 l=>Ij ?_;let Y:IsPair G v p q:=l.extBut _ _ D.vc (S.extBut _ _ D.vz hv);refine Ih$ Ls (s:={ s with heap:=G }) Y Z$ Ih$ Rh (s:={ s with heap:=G }) Y λI J r=>?_;replace J:IsPair I v x q:=J;refine Ih$ Rj$ Ij$ Ih$ Ih$ Pm (show ξ _ _ (ab (.ref d) >>= _) _ _ _ from ?_);let K:∀e o,e≠z->e≠c->e≠v->s.heap.get? e=δ o->I.get? e=δ o:=λe o N f g w=>r.extBut _ _ g (l.extBut _ _ f$ S.extBut _ _ N w);refine Ih$ qj (s:={ s with heap:=I }) (h2.kp λo e=>K _ _ D.dz D.cd.symm D.vd.symm e) (g2.kp λo e=>K _ _ D.bz D.bc D.bv e) hy λL i4 i=>Ij ?_;let v4:IsPair L v x q:=i.extBut _ _ D.vd J;refine Ih$ Ls (s:={ s with heap:=L }) v4 Z$ Ih$ Rh (s:={ s with heap:=L }) v4 λm V j=>?_;replace V:IsPair m v x y:=V;refine Ih$ Rj$ Ij$ Ij$ Ih$ Ls (s:={ s with heap:=m }) V Z$ Ih$ O9 ?_;let e5:m.objs.size=s.heap.objs.size:=by rw[j.1,i.1,r.1,l.1,S.1]
 let k5:∀e o,e≠z->e≠v->e≠c->e≠d->s.heap.get? e=δ o->m.get? e=δ o:=λe o N f g O w=>j.extBut _ _ f (i.extBut _ _ O$ K e o N g f w);let z5:IsZip m z u v .ellipsis:=j.extBut _ _ D.vz.symm (i.extBut _ _ D.dz.symm$ r.extBut _ _ D.vz.symm$ l.extBut _ _ D.cz.symm F);let j1:gH B m c a (k+1):=i2.kp λo e=>j.extBut _ _ D.vc.symm (i.extBut _ _ D.cd$ r.extBut _ _ D.vc.symm e);let j2:gH C m d b (k+1):=i4.kp λo e=>j.extBut _ _ D.vd.symm e;let lz:z < m.objs.size:=Iq z5;refine(show ξ _ _ (Da (.ref z) (.ref m.objs.size) >>= _) _ _ _ from Ih ?_);unfold Da;let z6:IsZip (m.push { cls:=.type "tuple",data:=.seq (ι [x,y]) }) z u v .ellipsis:=Il _ z5;refine Ih$ Mv z6 Hy λm7 P R=>?_;replace P:IsZip m7 z u v (rawInt m.objs.size):=P;refine Mv P Hy λM t T=>?_;replace t:IsZip M z u v (rawInt m.objs.size):=t;let U:∀e o,e≠z->m.get? e=δ o->M.get? e=δ o:=λe o n w=>T.extBut _ _ n (R.extBut _ _ n$ Il _ w);let t8:IsPair M m.objs.size x y:=T.extBut _ _ (Lh lz) (R.extBut _ _ (Lh lz)$ Ir _ Z);let e8:M.objs.size=m.objs.size+1:=by rw[T.1,R.1,Lc]
 rw[e5]at t t8 e8;refine Ij #[_,Z,Ij ?_];show Q (δ$ .ref m.objs.size) _;rw[e5];exact hQ M t (U _ _ D.vz V) (j1.kp λo e=>U _ o D.cz e) (j2.kp λo e=>U _ o D.dz e) t8 e8 λe o N f g O w=>U e o N (k5 e o N f g O w)
theorem CJ{b2:Bool}{ys:Array η}{p q:η}{Q:Option η->θ->Prop}(C:A.handled=ζ)(D:u7 z u v c d a b)
  (h:IsZip s.heap z u v .none) (F:IsPair s.heap u (.ref c) (.ref d)) (G:gH I s.heap c a k) (J:iA I s.heap a L) (K:L[k]?=ζ)
  (O:∀H,(∀e o,e≠z->e≠v->e≠c->e≠d->s.heap.get? e=δ o->H.get? e=δ o)->Q ζ { s with heap:=H }):ξ (χ prog w) A (pyNext$ .ref z) Q E s:=by
 let g:s.TypeIs (.ref z) "zip":=#[_,h,Z];unfold pyNext;refine Ih$ MT$ IY (name:=Str.ofString "__next__") g Lz$ I0 Lz g MS (show ξ _ _ (field (.ref z) 2 >>= _) _ _ _ from ?_)$ MH _;refine Ih$ IS h Z (x:=.bool ν) Z (show ξ _ _ (field (.ref z) 3 >>= _) _ _ _ from Ih$ IS h Z (x:=.ref u) Z$ Ih$ Ls F Z ?_);refine(show ξ _ _ (da (.ref z) >>= _) _ _ _ from Ih ?_);unfold da;refine Ih$ IS h Z (x:=.none) Z$ Ij ?_;simp only[M4];refine Ih$ Mg$ Ih$ IS h Z (x:=.ref v) Z$ Ih$ Mv h Hy λm f S=>?_;replace f:IsZip m z u v .ellipsis:=f;refine Ih ?_;simp only[P9,Rp,LV,MD];refine Ih$ Ih$ Pm (show ξ _ _ (ab (.ref c) >>= _) _ _ _ from ?_);refine Ih$ QT (s:={ s with heap:=m }) (by simpa using C) (G.kp λo e=>S.extBut _ _ D.cz e) (J.kp λo e=>S.extBut _ _ D.az e) K λM e i j=>?_;let l:IsZip M z u v .ellipsis:=i _ _ D.cz.symm f;refine Mv (s:={ s with heap:=M }) l Hy λn U r=>?_;let t:Shared.TypeIs { s with heap:=n } e "StopIteration":=by
  cases e with
  |ref x=>
   obtain⟨o,y,B⟩:=j;let P:x≠z:=λw=>by subst w;let:=y.symm.trans l;cases this;injection B with w;exact absurd w HA
   exact#[o,r.extBut _ _ P y,B]
  |_=>exact j
 exact Ih$ Mr (T:="StopIteration") (b:=μ) t N5$ Ij$ O n λe o N V R W w=>r.extBut _ _ N (i _ _ R$ S.extBut _ _ N w)
theorem CM{b1 b2:Bool}{xs ys:Array η}{Q:η->θ->Prop}(J:iA b1 s.heap a xs)(L:iA b2 s.heap b ys)
  (h:∀H,IsZip H (s.heap.objs.size+4) (s.heap.objs.size+2) (s.heap.objs.size+3) .none->IsPair H (s.heap.objs.size+2) (.ref s.heap.objs.size) (.ref$ s.heap.objs.size+1)->
   IsPair H (s.heap.objs.size+3) .none .none->gH b1 H s.heap.objs.size a 0->gH b2 H (s.heap.objs.size+1) b 0->(∀e o,s.heap.get? e=δ o->H.get? e=δ o)->Q (.ref$ s.heap.objs.size+4) { s with heap:=H }):
  ξ (χ prog w) A (call (.type "zip") [.ref a,.ref b]) Q E s:=by
 refine callType_new (S:=λ_ R c=>c=s/\R (.ok$ .ret$ .ref$ s.heap.objs.size+4) { s with heap:=((((s.heap.push { cls:=.type (fe b1),data:=.fields (ι [.ref a,.int 0 0]) }).push { cls:=.type (fe b2),data:=.fields (ι [.ref b,.int 0 0]) }).push { cls:=.type "tuple",data:=.seq (ι [.ref s.heap.objs.size,.ref$ s.heap.objs.size+1]) }).push { cls:=.type "tuple",data:=.seq (ι [.none,.none]) }).push { cls:=.type "zip",data:=.fields (ι [.none,.bool ν,.bool ν,.ref$ s.heap.objs.size+2,.ref$ s.heap.objs.size+3]) } })
  PySem.F.called_zip HA (PySem.F.typeCall_zip_2 _ _) (PySem.F.newCall_zip_2 _ _) (λO=>PySem.F.args_object_init_3 O _ _) PySem.F.entry_zip_new (.of_wp λp w' A' R c P=>?_) #[Z,?_]
 .obtain⟨rfl,q⟩:=P;obtain⟨r,g,D,t,os⟩:=c;let u:=sub_zip;let T:iA b1 (Shared.heap #[r,g,D,t,os]) a xs:=J;let _L:iA b2 (Shared.heap #[r.push { cls:=.type (fe b1),data:=.fields (ι [.ref a,.int 0 0]) },g,D,t,os]) b ys:=L.kp λo e=>Il _ e;wp_walk using yA T,yA _L;refine#[_,Z,?_];simp only[Lc]at q ⊢;exact q
 .let z (h:fv) (o:pz):(h.push o).objs.size=h.objs.size+1:=Lc ..;generalize d:s.heap.push { cls:=.type (fe b1),data:=.fields (ι [.ref a,.int 0 0]) }=M;generalize f:M.push { cls:=.type (fe b2),data:=.fields (ι [.ref b,.int 0 0]) }=i;generalize j:i.push { cls:=.type "tuple",data:=.seq (ι [.ref s.heap.objs.size,.ref$ s.heap.objs.size+1]) }=k;generalize l:k.push { cls:=.type "tuple",data:=.seq (ι [.none,.none]) }=n;generalize v:n.push { cls:=.type "zip",data:=.fields (ι [.none,.bool ν,.bool ν,.ref$ s.heap.objs.size+2,.ref$ s.heap.objs.size+3]) }=m;let N:M.objs.size=s.heap.objs.size+1:=by rw[<- d,z]
  let x:i.objs.size=s.heap.objs.size+2:=by rw[<- f,z,N]
  let y:k.objs.size=s.heap.objs.size+3:=by rw[<- j,z,x]
  let U:n.objs.size=s.heap.objs.size+4:=by rw[<- l,z,y]
  let K:∀e o,n.get? e=δ o->m.get? e=δ o:=λe o w=>by rw[<- v];exact Il _ w
  let B:∀e o,k.get? e=δ o->m.get? e=δ o:=λe o w=>K e o (by rw[<- l];exact Il _ w);let C:∀e o,i.get? e=δ o->m.get? e=δ o:=λe o w=>B e o (by rw[<- j];exact Il _ w);let G:∀e o,M.get? e=δ o->m.get? e=δ o:=λe o w=>C e o (by rw[<- f];exact Il _ w);let V:∀e o,s.heap.get? e=δ o->m.get? e=δ o:=λe o w=>G e o (by rw[<- d];exact Il _ w);let I:IsZip m (s.heap.objs.size+4) (s.heap.objs.size+2) (s.heap.objs.size+3) .none:=by rw[<- U,<- v];exact Ir _ Z
  let W:IsPair m (s.heap.objs.size+3) .none .none:=K _ _ (by rw[<- y,<- l];exact Ir _ Z);let X:IsPair m (s.heap.objs.size+2) (.ref s.heap.objs.size) (.ref$ s.heap.objs.size+1):=B _ _ (by rw[<- x,<- j];exact Ir _ Z);let Y:m.get? (s.heap.objs.size+1)=δ { cls:=.type (fe b2),data:=.fields (ι [.ref b,.int 0 0]) }:=C _ _ (by rw[<- N,<- f];exact Ir _ Z);let q1:m.get? s.heap.objs.size=δ { cls:=.type (fe b1),data:=.fields (ι [.ref a,.int 0 0]) }:=G _ _ (by rw[<- d];exact Ir _ Z);refine#[#[_,I,Z],h m I X W ?_ ?_ V]
  .cases b1<;>exact#[_,q1,Z,Z]
  .cases b2<;>exact#[_,Y,Z,Z]
end
theorem xV(n a b:Nat)(h:a < n)(H:b < n):u7 (n+4) (n+2) (n+3) n (n+1) a b:=by refine#[?_,?_,?_,?_,?_,?_,?_,?_,?_,?_,?_,?_,?_,?_,?_,?_,?_,?_]<;>(show(_:Nat)≠_;omega)
section
variable {prog:ψ}{w:dg}{A:ef}{E:η->θ->Prop}
theorem yl(h:l≠J):∀(n i:Nat) (s:θ) (Q:List η->θ->Prop),s.heap.IsListIter J l i->s.heap.IsList l I->i+n<=I.size->
  (∀a,a.IsListIter J l (i+n)->kw J s.heap a->Q ((I.toList.drop i).take n) { s with heap:=a })->ξ (χ prog w) A (draw (.ref J) n) Q E s
 |0,i,s,Q,b,_,_,q=>show ξ _ _ (pure []) Q E s from Ij (by simpa using q s.heap b (OP ..))
 |n+1,i,s,Q,b,c,d,q=>by
  let H:i < I.size:=by omega
  refine(show ξ _ _ (pyNext (.ref J) >>= _) Q E s from Ih$ PJ b c (x:=I[i]) (by simp [H]) λm j S=>?_);refine Ih$ IM$ yl h n (i+1) _ _ j (c.extBut S.extBut h) Hz λf g k=>Ij ?_;let e:=q f (by rw[show i+(n+1)=i+1+n by omega];exact g) (S.trans k);rwa [show I.toList.drop i=I[i]::I.toList.drop (i+1) by simp [ON,H],List.take_succ_cons]at e
theorem xP{s:θ}{Q:List η->θ->Prop}(f:A.handled=ζ)(h:s.heap.IsList l i)(a:i.size=n)
  (q:∀c,HN s.heap.objs.size s.heap c->Q i.toList { s with heap:=c }):ξ (χ prog w) A (unpackItems (.ref l) n ζ) Q E s:=by
 let H:l≠s.heap.objs.size:=by obtain⟨o,g,_⟩:=h;exact Iz$ Iq g
 unfold unpackItems;refine Ih ?_;unfold notIterableAtAll;refine Ih$ LY h.typeIs slot_list_iter.lookup ?_;refine Ij ?_;simp only[Ix,LC];refine Ih$ IM$ Nw h ?_;let I:(s.heap.push { cls:=.type "list_iterator",data:=.fields (ι [.ref l,.int 0 0]) }).IsListIter s.heap.objs.size l 0:=#[_,Ir _ Z,Z,Z];refine Ih$ IM$ yl H n 0 _ _ I (h.push _) Hz λj J S=>?_;let k:(i.toList.drop 0).take n=i.toList:=by rw[RB,Lx (by simp [a])]
 rw[k,Iy (by simp [a])];let L:j.IsList l i:=(h.push _).extBut S.extBut H;refine Ih$ IM$ P5 f J L (by simp [a]) λm p=>?_;simp only[Option.isSome_none,Ix,LC];exact Ij$ q m λb o d e=>p b o d (S.extBut b o d$ Il _ e)
end
section
variable {X:Cx}{pos:Pos}
inductive FJ(K:Ω)(n:Nat)(t:u6)(v:V)(c:St)(H:Hp)(Q:St->Hp->Prop):Prop
 |mk(a b:_)(_:v= .ref a)(_:aG K H a b)(_:b.length=n)(_:t b c H Q)
theorem Y6{E:List fr}{k n:Nat}{t:u6}(g:X.calm=μ)(h:CS X E t)
  (i:(assignEach E X.env).length=n:=by rfl) (c:(assignEach E X.env).findIdx? (·.1)=ζ:=by rfl):PG X (.Tuple E k pos) (FJ X.K n t):=by
 intro P s f H v u Q I r d;obtain⟨a,x,j,l,m,d⟩:=d;subst j;cases r;obtain⟨q,R,p,A⟩:=I.list l;rw[assign_Tuple];refine Ih$ Mm ?_;unfold unpack;rw[i,c];refine Ih$ IM$ xP (I.ok.hd g) p.isList (by simp [<- m,R.length]) λw y=>?_;let z:aq X P f H { s with heap:=w }:=I.kept (t':=s.toks) λb o e=>y b o (Iz$ Iq e) e;exact h P _ f H x _ Q z (by simpa using R) d
inductive ui(K:Ω)(i j k:Nat)(D:a7)(f:St)(x:V)(b:Hp):Prop
 |mk(a c d e:_)(_:x= .ref a)(_:aC K b a [c,d,e])(_:D.nx (((f.set k (δ e)).set j (δ d)).set i (δ c)) b)
def yW(K:Ω)(t:TE)(i j k:Nat):TS:=λD a H=>t a H (ui K i j k D a)
theorem wL{t e:fr}{T:TE}{x y z:π}{i j k:Nat}(n:X.calm=μ)(c:X.N.Nodup)(w:X.N[i]?=δ x)(A:X.N[j]?=δ y)(B:X.N[k]?=δ z)(L:oC X.env.scope x)(C:oC X.env.scope y)(E:oC X.env.scope z)(F:PE X e T)
  (G:X.fn x=μ∨X.env.scope.names.lookup x=δ .local:=by first |exact .inl Z |exact .inr Z) (J:X.fn y=μ∨X.env.scope.names.lookup y=δ .local:=by first |exact .inl Z |exact .inr Z) (M:X.fn z=μ∨X.env.scope.names.lookup z=δ .local:=by first |exact .inl Z |exact .inr Z)
  (O:swapsWithSole [t] e pos.line X.env=pure ν:=by rfl) (P:swappedStores [t] e X.env=pure (δ [x,y,z]):=by rfl):PS X (.Assign [t] e pos) (yW X.K T i j k):=by
 intro p s f H D I h;rw[Sm];refine Ih$ Mm ?_;rw[O];refine Ih$ Ij ?_;rw[Iy HA];refine Ih$ aL (F p s f H _ I h) λv S d=>?_;obtain⟨xv,g,l,R,a,v1,v2,v3,Q,V,q⟩:=d;rw[P];refine Ih$ Ij ?_;subst Q;cases R;obtain⟨W,r,Y,hz⟩:=l.tuple V;cases r with
 |cons q1 r=>
  cases r with
  |cons q2 r=>
   cases r with
   |cons q3 r=>
    cases r
    rename_i u U m
    unfold assignStores;refine Ih$ Mg$ Ih$ Pr (items:=(ι [u,U,m])) (I.ok.hd n) Y λh' hx=>?_;let I2:aq X p f g { S with heap:=h' }:=l.kept (t':=S.toks) λb o e=>hx b o (Iz$ Iq e) e;refine Ih ?_;show ξ _ _ (assignInOrder [λv=>bindName X.env z v,λv=>bindName X.env y v,λv=>bindName X.env x v] [m,U,u]) _ _ _;refine Ih$ IM$ Ni$ zb I2 c B E q3 (λs2 I3=>?_) M;refine Ih$ IM$ Ni$ zb I3 c A C q2 (λs3 I4=>?_) J;refine Ih$ IM$ Ni$ zb I4 c w L q1 (λs4 I5=>?_) G;exact Ij$ Ij #[_,g,I5,q]
end
theorem vt(l b:ε)(I i:Array η)(n N:Nat)(D:Option ε)(S:Array (Option η))(e:¬(!I.isEmpty&&lq (I.size+i.size))=μ)(W:I.size<=υ)(a:I.size+i.size<=υ+1):
  Meets (nz.«list.extend» #[[.ref l,.ref b],[]]) (λ_ R s=>s.heap.get? l=δ { cls:=.type "list",dict:=ζ,data:=.seq I n,slots:=(ι []) }/\s.heap.get? b=δ #[.type "tuple",D,.seq i N,S]/\R (.ok$ .ret dr) { s with heap:=s.heap.update l (rm λx=>x++i),toks:=s.toks }):=by
 refine RV λp w A R s h=>?_;obtain⟨f,g,d,t,os⟩:=s;obtain⟨H,c,h⟩:=h;let F:=AutoSeq1.idx_int;let j:=AutoSeq1.sub_tuple_tuple;let k:=AutoSeq1.sub_list_list;let m:=AutoSeq1.sub_tuple_list;let o:=AutoSeq1.sub_list_tuple;let hz:(I++i).size<=υ+1:=by rw[N8];exact a
 wp_walk using (NP H Z (hz:=W) (_hz':=hz)),Oq H,Oq c;exact#[_,Z,h]
section
variable {X:Cx}
inductive hX(K:Ω)(x:V)(a:List V)(H:Hp)(Q:VK):Prop
 |mk(l b c d:_)(_:x= .ref l)(_:a=[.ref b])(_:H l=δ (.lst c))(_:aC K H b d)(_:c.length+d.length<=υ)(_:Q .non (aj H l (.lst (c++d))))
theorem YE:ER X "list.extend" (hX X.K):=by
 intro p s A H x V v U Q I g j h;obtain⟨l,b,B,C,rfl,rfl,f,k,D,q⟩:=h;cases g;obtain⟨u,rfl,m⟩:=j.one;cases m;obtain⟨z,a,n,r,E,e⟩:=I.lstM f;obtain⟨i,R,P,F⟩:=I.tuple k;let o:=R.length;let d:a.toArray.size+i.toArray.size<=υ:=by rw[Ip,Ip];omega
 let c:¬(!a.toArray.isEmpty&&lq (a.toArray.size+i.toArray.size))=μ:=by rw[ff d,OF];exact Iu
 obtain⟨⟨G,O,J,S⟩,t,w,N,y⟩:=P;cases w;cases y;refine Oj Rs #[_,e,Z] Rg (PY _ _) (vt l b a.toArray i.toArray n N O S c (by rw[Ip];omega) Hz) #[e,t,?_];refine#[.non,_,I.lset (its':=a++i) f e Hy (r.append R) (by rw[Io];omega),Z,q]
end
section
variable {prog:ψ}{w:dg}{A:ef}{E:η->θ->Prop}{s:θ}
theorem JJ{R:Result->θ->Prop}{P:Nat->η->Prop}{St:Nat->θ->Prop}
  (W:WalksS prog w A.in1 I N j G n P St) (S:ε) (H:¬S∈N) (c:List π) (O:c.length=n) (Q:∀i v,P i v->∃x t,c[i]?=δ x/\v= .str x t) (d:∀L:List π,L.Nodup->(∀x∈L,x∈c)->L.length+1 < scanBound):
  ∀(k i:Nat) (s:θ) (L:List π),n - i=k->i<=n->St i s->cQ prog w s.heap S L->(∀x,x∈L↔x∈c.take i)->L.length<=i->
   (∀a l,Moved (S::j) G s a->cQ prog w a.heap S l->(∀x,x∈l↔x∈c)->l.length<=n->R (.ok$ .ret .none) a)->
   xa (χ prog w) A (.builtin "set.update.loop" #[[.ref S,.ref I],[]]) R s:=by
 let f:¬S∈j:=λz=>H (W.sub _ z);let sub:∀b∈j,b∈S::j:=λb z=>IK _ z;intro k;induction k with
 |zero=>
  intro i s L T U st p q F r;let e:i=n:=by omega
  subst e;refine LH Nc ?_;rw[Ld Ms];show ξ _ A.in1 (pyNext (.ref I) >>= _) _ _ s;refine Ih$ W.done s _ _ st λa m=>?_;show ξ _ A.in1 (ret dr) _ _ a;refine Ij$ r a L (m.mono sub) (p.at λo e=>m.heap S o f e) (λx=>?_) F;rw[q x,<- O,Ln]
 |succ k V=>
  intro i s L T U st p q F r;let J:i < n:=by omega
  refine LH Nc ?_;rw[Ld Ms];show ξ _ A.in1 (pyNext (.ref I) >>= _) _ _ s;refine Ih$ W.item i s _ _ J st λv a X u m=>?_;obtain⟨x,t,B,rfl⟩:=Q i v X;show ξ _ A.in1 (ym [FC x t] (setAdd S$ .str x t) >>= _) _ _ a;refine Ih$ IM ?_;let h:L.Nodup:=by obtain⟨_,_,_,_,_,_,_,_,_,h,_⟩:=p;exact h
  refine X0 (p.at λo e=>m.heap S o f e) (d L h λx B=>Lg ((q x).mp B)) λb h' Y K S2 g=>?_;refine Ij #[Mn Ms _,V (i+1) _ _ Hz J (W.frame _ a _ _ u g λb d o e=>?_) S2 (λy=>?_) ?_ λC l M D q1 q2=>?_]
  .rw[K.2 b (λz:b=S=>H (by rw[<- z];exact d))];exact e
  .let tk:c.take (i+1)=c.take i++[x]:=by rw[LS,B];rfl
   rw[tk,MM,NW,<- q y];split
   .rename_i hm
    exact#[.inl,λz=>z.elim id λe=>e▸hm]
   .rw[MM,NW]
  .split
   .omega
   .rw[Io,Mt];omega
  .refine r C l (Moved.trans W.gtrans ((m.mono sub).then_heap g λb o d e=>?_) M) D q1 q2;rw[K.2 b (λz:b=S=>d (by rw[z];exact ID))];exact e
end
section
variable {prog:ψ}{w:dg}{A:ef}{E:η->θ->Prop}{s:θ}
set_option maxHeartbeats 3200000 in
theorem Ke{Q:η->θ->Prop}
  (hh:A.handled=ζ) (hl:s.heap.IsList l I) (hi:StrsAre I.toList n) (C:∀L:List π,L.Nodup->(∀x∈L,x∈n)->L.length+1 < scanBound)
  (h:∀(a:fv) (t:Nat) L,cQ prog w a s.heap.objs.size L->(∀x,x∈L↔x∈n)->L.length<=I.size->
   (∀b o,b < s.heap.objs.size->s.heap.get? b=δ o->a.get? b=δ o)->s.toks<=t->Q (.ref s.heap.objs.size) { s with heap:=a,toks:=t }):
  ξ (χ prog w) A (call (.type "set") [.ref l]) Q E s:=by
 obtain⟨c,tl,m1⟩:=PySem.F.called_set.mro;let m0:=PySem.F.called_set.made;let sb:=PySem.F.called_set.sub;refine Pb$ O0 ?_;show ξ _ _ (callAny (.type "set") _) _ _ _;refine Ij #[Code.quiet_builtin _ Hw,LH PySem.F.entry_type_call ?_];rw[Around.under_plain (weight_type_call_type "set" [.ref l] []) Z];let n1:=PySem.F.called_set.notType;let n2:=PySem.F.called_set.canCreate;let ct:=PySem.F.typeCall_set_1 (.ref l);repeat (any_goals (first |assumption |wp_step))
 refine ML (Qn (.ref l) (E:=E) (G:=λv S=>v= .ref s.heap.objs.size/\S={ s with heap:=s.heap.push (bh w) }) #[Z,Z]) λr S D=>?_;cases r with
 |error e=>exact D
 |ok fl=>
  cases fl with
  |ret o2=>
   obtain⟨rfl,rfl⟩:=D;let J:(s.heap.push$ bh w).get? s.heap.objs.size=δ (bh w):=Ir _ Z;let hT:Shared.TypeIs { s with heap:=s.heap.push (bh w) } (.ref s.heap.objs.size) "set":=#[_,J,Z];let li:=PySem.F.called_set.init.lookup;let bi:=PySem.F.called_set.init.bind (.ref s.heap.objs.size);repeat (any_goals (first |assumption |wp_step))
   refine ML (codeAny_call_builtin (R:=wants (λr d=>r= .none/\∃a t L,d={ s with heap:=a,toks:=t }/\cQ prog w a s.heap.objs.size L/\(∀x,x∈L↔x∈n)/\L.length<=I.size/\
     (∀b o,b < s.heap.objs.size->s.heap.get? b=δ o->a.get? b=δ o)/\s.toks<=t) E) PySem.F.called_set.init.plain PySem.F.entry_set_init (check_set_init_1 hT ?_)) λp d H=>?_
   .obtain⟨ol,q,u,nl,y⟩:=hl;obtain⟨o1,g,K,O⟩:=ol;simp only at u y;subst u;subst y;let f:(s.heap.push$ bh w).get? l=δ { cls:=.type "list",dict:=g,data:=.seq I nl,slots:=O }:=Il _ q;let ns:=PySem.F.sub_list_set;let nf:=PySem.F.sub_list_frozenset;let ne:(mu "list"==mu "dict")=ν:=by decide
    let j:(s.heap.push$ bh w).IsList l I:=#[_,f,Z,nl,Z];unfold bh at J hT f j ⊢;unfold nz.«set.__init__» noKeywords Builtin.Frozenset.updateFrom;generalize M:pyIter=PI;wp_walk;subst M;refine Nw j ?_;refine Ih$ O8 ?_;let z:l < s.heap.objs.size:=Iq q;let h3:A.in1.in1.in1.handled=ζ:=by simp [hh]
    let N:l≠(s.heap.push$ bh w).objs.size:=by rw[Lc];exact Iz$ Mx z
    let P:¬s.heap.objs.size∈[(s.heap.push$ bh w).objs.size,l]:=by rw[Lc];simp only[LJ,IF,NF,not_or];exact#[Iz$ LO _,Lh z]
    let B:n.length=I.size:=by rw[_L.StrsAre.len hi,IP]
    refine JJ ((Walks.list h3 _ l N I).toS) s.heap.objs.size P n B (λi v hv=>StrsAre.at' hi i v (by rw[Ma];exact hv)) C (I.size - 0) 0 _ [] Hz (Is _)
     #[#[_,Ir _ Z,Z,Z],j.push _] (X1$ Il _ J) (λx=>by simp) (Im _) λs' L m T U V=>?_
    obtain⟨a,g',d',W,X⟩:=s';let eg:g'=s.gens:=m.gens;let ed:d'=s.drawn:=m.drawn;let eo:X=s.os:=m.os;subst eg;subst ed;subst eo;show ξ _ _ _ _ _ _;refine Ij ?_;show ξ _ _ (ret dr) _ _ _;refine Ij #[Z,a,W,L,Z,T,U,V,λb o C e=>?_,m.toks];let b1:b≠s.heap.objs.size:=Iz C;let b2:b≠(s.heap.push$ bh w).objs.size:=by rw[Lc];exact Iz$ Mx C
    exact m.heap b o (by simp only[LJ,IF,NF,not_or];exact#[b1,b2])$ Il _$ Il _ e
   .cases p with
    |error e=>exact H
    |ok k=>
     cases k with
     |ret r=>
      obtain⟨rfl,a,t,L,rfl,T,U,V,Y,q3⟩:=H;repeat (any_goals (first |assumption |wp_step))
      exact h _ _ _ T U V Y q3
     |_=>exact H.elim
  |_=>exact D.elim
end
section
variable {X:Cx}
theorem Jf(m:X.calm=μ):dS X (.type "set") (λg H Q=>∃(p:ε) (S:List π),g=[.ref p]/\aG X.K H p (S.map HV)/\(∀L:List π,L.Nodup->(∀x∈L,x∈S)->L.length+1 < scanBound)/\
  ∀l L,H l=ζ->L.Nodup->(∀x,x∈L↔x∈S)->Q (.ref l) (aj H l$ EW X.prog X.w l L)):=by
 intro P s B H g U Q I r h;obtain⟨p,S,rfl,n,t,q⟩:=h;obtain⟨u,rfl,R⟩:=eB r;cases R;obtain⟨i,v,y,C⟩:=I.list n;let j:=qh v;let D:i.length=S.length:=(_L.StrsAre.len j).symm;refine Ke (I.ok.hd m) y.isList (by simpa using j) t λc T L d z E k _=>?_;let a:L.Nodup:=by obtain⟨_,_,_,_,_,_,_,_,_,a,_⟩:=d;exact a
 let A:∀b o,s.heap.get? b=δ o->c.get? b=δ o:=λb o e=>k b o (Iq e) e;obtain⟨o,f⟩:∃o,c.get? s.heap.objs.size=δ o:=let #[o,_,_,_,f,_]:=d;#[o,f]
 exact#[.ref s.heap.objs.size,_,I.laid A (Im _) (show aS X.prog X.w _ c _ (EW X.prog X.w s.heap.objs.size L) from #[d,#[o,f],λF G x e=>cQ.at x e]),Z,q _ _ (I.hok.fresh$ Im _) a z]
end
section
variable {X:Cx}{CX:oB}{k:Nat}{f C:ε}{fd:bm}{ps:List π}{sp:Sp}{dvs:List V}{ds:List η}{E:XK}{x m:π}{p pos apos:Pos}{e:fr}{es:List fr}{t:TA}
structure y9(K:Ω)(C:ε)(m:π)(f:ε):Prop where
 rd:PySem.W.readsIn K C (.type "type")=μ
 ga:specialIn K (.ref C) "__getattribute__"=δ (δ$ .builtin "type.__getattribute__")
 at_:PySem.W.findCls K (.ref C) (.type "type") m=δ (.val$ .ref f)
 kp:rs K (.ref f)=μ
theorem wE{pl:Sem Bool}(j:Gl X x)(l:X.mg x=δ (.ref C))(M:y9 X.K C m f)(F:ak X.prog X.w X.K X.mg X.base CX k f fd ps sp)(n:bu k X.A)(q:ay X.K fd ps ds)(u:aw dvs ds)(v:dy CX X E)(y:PA X (e::es) t)
  (a:(x==("__debug__":π))=ν:=by decide)
  (c:Θ (e::es) X.env=(ν,eval e X.env)::Θ es X.env:=by rfl) (d:(hY pos$ Θ es X.env).any (·.1)=ν:=by rfl)
  (z:eval (.Call (.Attribute (.Name x p) m apos) (e::es) [] pos) X.env=(do
   let O <- eval (.Name x p) X.env
   standAt apos.atName
   let (f,first) <- ym [O] (getMethod O m pl)
   callWith pos f first (hY pos$ Θ (e::es) X.env) (backToKw pos$ keywordEach [] X.env)):=by rfl):
  PE X (.Call (.Attribute (.Name x p) m apos) (e::es) [] pos) (dP sp dvs E t):=by
 intro P s g H Q I h;refine Nn (pl:=pl) (zu I j l ?_ a) z;refine PySem.W.method_cls I.kIn M.ga$ PySem.W.cls_value I.kIn M.rd M.at_ Z ?_;let B:aq X P g H { s with toks:=s.toks+1 }:=I.kept (h':=s.heap) λb o e=>e;refine Ol (h₀:=X.base) I.ok.mod.kin M.kp (aL (y pos P _ g H _ B h) λU S #[G,J,i,r,D]=>#[i.kIn,?_]) c d;exact Q2 F n q u v i r D
end
abbrev eP(h:fv)(z u v T:ε)(f:Bool):Prop:=
 h.get? z=δ { cls:=.type "zip",dict:=ζ,data:=.fields (ι [rawInt T,.bool f,.bool ν,.ref u,.ref v]),slots:=(ι []) }
section
variable {prog:ψ}{w:dg}{A:ef}{E:η->θ->Prop}{s:θ}
theorem ZV{Q:Option pz->θ->Prop}(h:Q (s.heap.get? a) s):ξ M A (loadIfAlive a) Q E s:=λ_ _ _=>h
theorem C8{Q:Bool->θ->Prop}(H:eP s.heap z u v T f)(a:∃o,s.heap.get? T=δ o)
  (q:∀h,eP h z u v T μ->HN z s.heap h->h.objs.size=s.heap.objs.size->Q ν { s with heap:=h }):ξ (χ prog w) A (da$ .ref z) Q E s:=by
 unfold da;refine Ih$ IS H Z (x:=rawInt T) Z ?_;show ξ _ _ (loadIfAlive ((T:Int).toNat) >>= _) _ _ s;refine Ih$ ZV ?_;obtain⟨o,c⟩:=a;rw[Lv,c];simp only[Pj,Ix,LC];refine Ih$ IS H Z (x:=.bool f) Z ?_;cases f with
 |true=>simp only[Mp,Ix,LC];exact Ih$ Ij$ Ij$ q s.heap H (λb o _ e=>e) Z
 |false=>rw[Iw HA];refine Ih$ Mv H Hy λh d S=>Ij (q h d S.extBut S.1)
theorem xT{Q:Option η->θ->Prop}(D:u7 z u v c d a b)
  (g:eP s.heap z u v T f) (p:∃o,s.heap.get? T=δ o) (q:IsPair s.heap u (.ref c) (.ref d)) (r:gH B s.heap c a k) (t:gH l s.heap d b k) (G:iA B s.heap a C) (F:iA l s.heap b Y) (I:C[k]?=δ x) (J:Y[k]?=δ y)
  (L:∀h,eP h z u v T μ->gH B h c a (k+1)->gH l h d b (k+1)->IsPair h s.heap.objs.size x y->h.objs.size=s.heap.objs.size+1->
   (∀e o,e≠z->e≠c->e≠d->s.heap.get? e=δ o->h.get? e=δ o)->Q (δ$ .ref s.heap.objs.size) { s with heap:=h }):ξ (χ prog w) A (pyNext$ .ref z) Q E s:=by
 let H:s.TypeIs (.ref z) "zip":=#[_,g,Z];unfold pyNext;refine Ih$ MT$ IY (name:=Str.ofString "__next__") H Lz$ I0 Lz H MS (show ξ _ _ (field (.ref z) 2 >>= _) _ _ _ from ?_)$ MH _;refine Ih$ IS g Z (x:=.bool ν) Z (show ξ _ _ (field (.ref z) 3 >>= _) _ _ _ from Ih$ IS g Z (x:=.ref u) Z$ Ih$ Ls q Z ?_);refine(show ξ _ _ (da (.ref z) >>= _) _ _ _ from Ih$ C8 g p λO P i n=>?_);simp only[Ix,LC];refine Ih ?_;simp only[Px,LV,MD];refine Ih$ Ih$ IM (show ξ _ _ (ab (.ref c) >>= _) _ _ _ from ?_);refine Ih$ qj (s:={ s with heap:=O }) (r.kp λo e=>i _ _ D.cz e) (G.kp λo e=>i _ _ D.az e) I λM R j=>Ij (Ij ?_);refine Ih$ Ih$ IM (show ξ _ _ (ab (.ref d) >>= _) _ _ _ from ?_);let K:∀e o,e≠z->e≠c->s.heap.get? e=δ o->M.get? e=δ o:=λe o n U w=>j.extBut _ _ U (i _ _ n w);refine Ih$ qj (s:={ s with heap:=M }) (t.kp λo e=>K _ _ D.dz D.cd.symm e) (F.kp λo e=>K _ _ D.bz D.bc e) J λm V S=>Ij (Ij$ Ij ?_);show ξ _ _ (newTuple [x,y] >>= _) _ _ _;refine Ih$ O9$ Ij #[_,Z,Ij ?_];let N:m.objs.size=s.heap.objs.size:=by rw[S.1,j.1];exact n
 let W:eP m z u v T μ:=S.extBut _ _ D.dz.symm (j.extBut _ _ D.cz.symm P);show Q (δ$ .ref m.objs.size) _;rw[N];refine L _ (Il _ W) (R.kp λo e=>Il _ (S.extBut _ _ D.cd e)) (V.kp λo e=>Il _ e) (by rw[<- N];exact Ir _ Z) (by rw[Lc,N]) λe o X a2 a3 w=>Il _ (S.extBut _ _ a3$ K _ _ X a2 w)
theorem CH{b2:Bool}{ys:Array η}{Q:Option η->θ->Prop}(j:A.handled=ζ)(D:u7 z u v c d a b)
  (H:eP s.heap z u v T f) (l:∃o,s.heap.get? T=δ o) (m:IsPair s.heap u (.ref c) (.ref d)) (p:gH B s.heap c a k) (G:iA B s.heap a q) (r:q[k]?=ζ)
  (t:∀i,(∀e o,e≠z->e≠c->e≠d->s.heap.get? e=δ o->i.get? e=δ o)->Q ζ { s with heap:=i }):ξ (χ prog w) A (pyNext$ .ref z) Q E s:=by
 let h:s.TypeIs (.ref z) "zip":=#[_,H,Z];unfold pyNext;refine Ih$ MT$ IY (name:=Str.ofString "__next__") h Lz$ I0 Lz h MS (show ξ _ _ (field (.ref z) 2 >>= _) _ _ _ from ?_)$ MH _;refine Ih$ IS H Z (x:=.bool ν) Z (show ξ _ _ (field (.ref z) 3 >>= _) _ _ _ from Ih$ IS H Z (x:=.ref u) Z$ Ih$ Ls m Z ?_);refine(show ξ _ _ (da (.ref z) >>= _) _ _ _ from Ih$ C8 H l λM F g n=>?_);simp only[Ix,LC];refine Ih ?_;simp only[Px,LV,MD];refine Ih$ Ih$ IM (show ξ _ _ (ab (.ref c) >>= _) _ _ _ from ?_);refine Ih$ QT (s:={ s with heap:=M }) (by simpa using j) (p.kp λo e=>g _ _ D.cz e) (G.kp λo e=>g _ _ D.az e) r λy e S C=>?_;exact Ih$ Mr (T:="StopIteration") (b:=μ) C N5$ Ij$ t y λe o n N I w=>S _ _ N (g _ _ n w)
end
theorem JU:typeLookup (.type "zip") "__getattr__"=pure ζ:=by rw[LF,J'];kernel_rfl
theorem X4:typeLookup (.type "zip") "keys"=pure ζ:=by rw[LF,J'];kernel_rfl
theorem Xp:entryFor table "zip.__getattribute__"=δ nz.«object.__getattribute__»:=
 N6 (id':="object.__getattribute__") (by kernel_rfl) Hw Hw (by kernel_rfl)
theorem Qh(a:ε)(x:Array η)(S:Array (Option η))(u:Tok):
  Meets (nz.«object.__getattribute__» #[[.ref a,.str "keys" u],[]]) (λA R s=>s.heap.get? a=δ { cls:=.type "zip",dict:=ζ,data:=.fields x,slots:=S }/\raisesAttr (.ref a) "keys" A R s):=
 RV λp w A R s H=>by
  obtain⟨c,g,d,t,os⟩:=s;obtain⟨e,H⟩:=H;let f:(#[c,g,d,t,os]:θ).TypeIs (.ref a) "zip":=#[_,e,Z];let b:=X4;let h:(["__module__","__name__","__qualname__","__doc__","__annotations__"]:List π).contains "keys"=ν:=by decide+kernel
  unfold nz.«object.__getattribute__»;repeat (any_goals (first |assumption |wp_step))
  try simp only[h,Ix,LC]
  repeat (any_goals (first |assumption |wp_step))
  exact wpAny_raiseAttrError H.1 H.2$ attrMsg_fits Hw (by size_fits)
section
variable {prog:ψ}{w:dg}{A:ef}{E:η->θ->Prop}{s:θ}
theorem vN{Q:Option η->θ->Prop}(f:s.heap.get? a=δ { cls:=.type "zip",dict:=ζ,data:=.fields x,slots:=j })(k:A.handled=ζ)
  (h:∀c T,(∀b o,s.heap.get? b=δ o->c.get? b=δ o)->Q ζ { s with heap:=c,toks:=T }):ξ (χ prog w) A (getAttr? (.ref a) "keys") Q E s:=by
 obtain⟨l,g,d,T,os⟩:=s;let i:∀t,(#[l,g,d,t,os]:θ).TypeIs (.ref a) "zip":=λ_=>#[_,f,Z];let m:=sub_AttributeError;let n:=xL.lookup;let p:=xL.bind (.ref a);let q:=JU;unfold getAttr? getAttrBy? getAttrBy;repeat (any_goals (first |assumption |exact i _ | ((with_reducible show ξ _ _ (call (Value.builtin "zip.__getattribute__") _ _) _ _ _);refine Oj xL (i _) Xp (PySem.F.args_zip_getattribute_2 _ _) (Qh a x j _) #[f,by simpa using k,λc t e H=>?_]) |wp_step))
 obtain⟨r,u,v⟩:=H.there;show ξ _ _ (getattributeRaised _ _ _ _ _ _ _) _ _ _;unfold getattributeRaised;repeat (any_goals (first |assumption |wp_step))
 exact h _ _ H.keeps
def Ah(h:fv)(z u v c d a b Dd:ε)(x y:Array η)(i:Nat):Prop:=
 ((IsZip h z u v .none/\∃p q,IsPair h v p q)∨∃T f o,eP h z u v T f/\h.get? T=δ o/\T≠z/\T≠c/\T≠d/\T≠Dd)/\IsPair h u (.ref c) (.ref d)/\gH ν h c a i/\gH ν h d b i/\iA ν h a x/\iA ν h b y
theorem xW{Dd:ε}{Q:Option η->θ->Prop}(D:u7 z u v c d a b)(l:Dd < s.heap.objs.size)(S:Ah s.heap z u v c d a b Dd J Y k)(L:J[k]?=δ x)(M:Y[k]?=δ y)
  (N:∀h,Ah h z u v c d a b Dd J Y (k+1)->IsPair h s.heap.objs.size x y->h.objs.size=s.heap.objs.size+1->(∀e o,e≠z->e≠v->e≠c->e≠d->s.heap.get? e=δ o->h.get? e=δ o)->Q (δ$ .ref s.heap.objs.size) { s with heap:=h }):ξ (χ prog w) A (pyNext$ .ref z) Q E s:=by
 obtain⟨H,g,j,m,G,i⟩:=S;obtain⟨oc,n,_⟩:=j.ob;obtain⟨od,r,_⟩:=m.ob;rcases H with ⟨H,p,q,U⟩ | ⟨T,f,o,H,O,t,P,R,V⟩
 .refine xU D H g U j m G i L M λh B v1 I C t F K=>N h #[.inr #[s.heap.objs.size,ν,_,B,t,Lh$ Iq H,Lh$ Iq n,Lh$ Iq r,Lh l],K _ _ D.uz D.uv D.uc D.ud g,I,C,G.kp λo e=>K _ _ D.az D.av D.ac D.ad e,i.kp λo e=>K _ _ D.bz D.bv D.bc D.bd e] t F K
 .refine xT D H #[o,O] g j m G i L M λh B I C W F K=>N h #[.inr #[T,μ,o,B,K _ _ t P R O,t,P,R,V],K _ _ D.uz D.uc D.ud g,I,C,G.kp λo e=>K _ _ D.az D.ac D.ad e,i.kp λo e=>K _ _ D.bz D.bc D.bd e] W F λe o X n2 n3 n4 w=>K e o X n3 n4 w
theorem CN{Dd:ε}{Q:Option η->θ->Prop}(g:A.handled=ζ)(D:u7 z u v c d a b)(n:Ah s.heap z u v c d a b Dd x ys k)(i:x[k]?=ζ)
  (j:∀H,(∀e o,e≠z->e≠v->e≠c->e≠d->s.heap.get? e=δ o->H.get? e=δ o)->Q ζ { s with heap:=H }):ξ (χ prog w) A (pyNext$ .ref z) Q E s:=by
 obtain⟨h,l,m,B,G,C⟩:=n;rcases h with ⟨h,p,q,F⟩ | ⟨T,f,o,h,r,I,J,L,M⟩
 .exact CJ (b2:=ν) (p:=p) (q:=q) (ys:=ys) g D h l m G i j
 .exact CH (b2:=ν) (ys:=ys) g D h #[o,r] l m G i λH K=>j H λe o N O t y w=>K e o N t y w
structure Fh(D z u v c d a b:ε):Prop where
 z:D≠z
 u:D≠u
 v:D≠v
 c:D≠c
 d:D≠d
 a:D≠a
 b:D≠b
theorem Ah.keep{h j:fv}{Dd:ε}(F:Fh Dd z u v c d a b)(k:∀e o,e≠Dd->h.get? e=δ o->j.get? e=δ o)(st:Ah h z u v c d a b Dd x y i):Ah j z u v c d a b Dd x y i:=by
 obtain⟨H,l,m,n,G,r⟩:=st;refine#[?_,k _ _ F.u.symm l,m.kp λo e=>k _ _ F.c.symm e,n.kp λo e=>k _ _ F.d.symm e,G.kp λo e=>k _ _ F.a.symm e,r.kp λo e=>k _ _ F.b.symm e];rcases H with ⟨H,p,q,B⟩ | ⟨T,f,o,H,g,C,D,I,t⟩
 .exact .inl #[k _ _ F.z.symm H,p,q,k _ _ F.v.symm B]
 .exact .inr #[T,f,o,k _ _ F.z.symm H,k _ _ t g,C,D,I,t]
theorem Qi{K:Type}[DecidableEq K]{knd:KeyKind prog w K}{R:Result->θ->Prop}{Dd:ε}{x:Array η}(X:A.handled=ζ)(D:u7 z u v c d a b)(F:Fh Dd z u v c d a b)(m:List (K×η))(Y:m.length=x.size)(h0:x.size<=υ)
  (hP:∀(i:Nat),i < x.size->∃f V k,x[i]?=δ f/\ys[i]?=δ V/\knd.is k f=μ/\m[i]?=δ (k,V)):
  ∀(j i:Nat) (s:θ) (n:Int),x.size - i=j->i<=x.size->Ah s.heap z u v c d a b Dd x ys i->s.heap.DictOf knd Dd (merged []$ m.take i)->
   (∀h T,(∀e o,e≠Dd->e≠z->e≠v->e≠c->e≠d->s.heap.get? e=δ o->h.get? e=δ o)->h.DictOf knd Dd (merged [] m)->R (.ok$ .ret .none) { s with heap:=h,toks:=T })->
   xa (χ prog w) A (.builtin "dict.update.loop" #[[.ref Dd,.ref z,.int n 0,.none],[]]) R s:=by
 intro j;induction j with
 |zero=>
  intro i s n hj hi st q C;let e:i=x.size:=by omega
  subst e;refine LH J8 ?_;rw[Ld zP];show ξ _ A.in1 (pyNext (.ref z) >>= _) _ _ s;refine Ih$ CN (by simpa using X) D st Hy λh g=>?_;show ξ _ A.in1 (Builtin.Dict.addKeywords Dd [] >>= λ_=>ret dr) _ _ { s with heap:=h };refine Ih ?_;unfold Builtin.Dict.addKeywords;refine Ij$ Ij$ C h s.toks (λe o _ N t y B w=>g e o N t y B w) ?_;rw[<- Y,Ln]at q;obtain⟨o,es,ep,ho,r⟩:=q;exact#[o,es,ep,g _ _ F.z F.v F.c F.d ho,r]
 |succ j ih=>
  intro i s n hj hi st q C;let M:i < x.size:=by omega
  obtain⟨f,V,k,hx,hy,O,hm⟩:=hP i M;refine LH J8 ?_;rw[Ld zP];show ξ _ A.in1 (pyNext (.ref z) >>= _) _ _ s;obtain⟨oD,G,I,H,rD⟩:=id q;let L:Dd < s.heap.objs.size:=Iq H;refine Ih$ xW D L st hx hy λl S P N g=>?_;let hb:Shared.TypeIs { s with heap:=l } (.ref s.heap.objs.size) "tuple":=#[_,P,Z];let J:l.DictOf knd Dd (merged []$ m.take i):=#[oD,G,I,g _ _ F.z F.v F.c F.d H,rD];dsimp only;refine Ih$ IM ?_;refine Ih$ wpAny_tryCatch ?_;unfold Builtin.Dict.pairItems;refine Ih$ Mb hb ?_;rw[Iw HA];refine Ih$ Ls P Z$ Ij ?_;show ξ _ A.in1 (ym [f,V]$ dictSet Dd f V) _ _ { s with heap:=l };unfold dictSet;refine IM$ IM$ Ih$ knd.pyHash O ?_;let Q:(merged ([]:List (K×η))$ m.take i).length<=i:=by let:=RZ ([]:List (K×η)) (m.take i);rw[IU]at this;simp only[M0]at this;omega
  refine wpAny_dictSetHashed_pairs (s:={ s with heap:=l,toks:=s.toks+1 }) O J (λh p sb=>?_) Hz;rw[<- merged_take_succ [] m i (k,V) hm]at p;let U:∀e o,e≠Dd->l.get? e=δ o->h.get? e=δ o:=λe o ne w=>(sb.2 e ne).trans w;refine Ij #[Mn zP _,ih (i+1) _ (n+1) Hz M (S.keep F U) p λh2 T k2 d2=>C h2 T (λe o W N t y B w=>k2 e o W N t y B (U _ _ W$ g e o N t y B w)) d2]
theorem Qt{K:Type}[DecidableEq K]{knd:KeyKind prog w K}{more:List (K×η)}{Q:η->θ->Prop}(N:A.handled=ζ)(D:u7 z u v c d a b)
  (j:IsZip s.heap z u v .none) (P:IsPair s.heap u (.ref c) (.ref d)) (m:∃p q,IsPair s.heap v p q) (U:gH ν s.heap c a 0) (V:gH ν s.heap d b 0) (W:iA ν s.heap a x) (X:iA ν s.heap b ys)
  (hn:more.length=x.size) (n:x.size<=υ) (hP:∀(i:Nat),i < x.size->∃Y vu k,x[i]?=δ Y/\ys[i]?=δ vu/\knd.is k Y=μ/\more[i]?=δ (k,vu))
  (h:∀l t,l.DictOf knd s.heap.objs.size (merged [] more)->(∀e o,e≠z->e≠v->e≠c->e≠d->s.heap.get? e=δ o->l.get? e=δ o)->Q (.ref s.heap.objs.size) { s with heap:=l,toks:=t }):
  ξ (χ prog w) A (call (.type "dict") [.ref z]) Q E s:=by
 refine SR (Q₁:=λO S=>O= .ref s.heap.objs.size/\S={ s with heap:=s.heap.push { cls:=.type "dict",data:=.dict (ι []) } }) PySem.F.kt_called_dict (PySem.F.kt_typeCall_dict_1 _) PySem.F.entry_dict_init (kt_code_dict_new _ #[Z,Z]) ?_;rintro O S ⟨rfl,rfl⟩;let f:(s.heap.push { cls:=.type "dict",data:=.dict (ι []) }).DictOf knd s.heap.objs.size []:=O7 s.heap;refine#[f.typeIs,PySem.F.args_dict_init_2 _ _,?_];unfold nz.«dict.__init__»;refine Ih ?_;unfold Builtin.Dict.selfAndRest;refine Ih$ wpAny_notOrdered_dict f.typeIs ?_;show ξ _ _ (pure (s.heap.objs.size,[Ξ z])) _ _ _;refine Ij ?_;show ξ _ _ (Builtin.Dict.updateFrom "dict.__init__" s.heap.objs.size (.ref z) [] .none) _ _ _;unfold Builtin.Dict.updateFrom;generalize hH:s.heap.push { cls:=.type "dict",data:=.dict (ι []) }=H at f ⊢;let G:∀b o,s.heap.get? b=δ o->H.get? b=δ o:=λb o e=>by rw[<- hH];exact Il _ e
 refine Ih$ Mb #[_,G _ _ j,Z] ?_;rw[Iw HA];refine Ih$ vN (s:={ s with heap:=H }) (G _ _ j) (by simpa using N) λM t k1=>?_;simp only[Pk,M4];refine Ih$ Mg ?_;let g:∀b o,s.heap.get? b=δ o->M.get? b=δ o:=λb o e=>k1 _ _ (G _ _ e);refine Ih$ wpAny_pyIter_zip (s:={ s with heap:=M,toks:=t }) (g _ _ j) ?_;obtain⟨oD,eD,y,B,rD⟩:=f;obtain⟨p,q,m⟩:=m;obtain⟨oc,C,_⟩:=U.ob;obtain⟨od,I,_⟩:=V.ob;obtain⟨oa,J,_⟩:=id W;obtain⟨ob,L,_⟩:=id X;let F:Fh s.heap.objs.size z u v c d a b:=#[Lh$ Iq j,Lh$ Iq P,Lh$ Iq m,Lh$ Iq C,Lh$ Iq I,Lh$ Iq J,Lh$ Iq L];refine Ij #[Mn zP _,ML (Qi (knd:=knd) (A:=A.in1) (R:=λr s'=>r= .ok (.ret .none)/\Q (.ref s.heap.objs.size) s') (by simpa using N) D F more hn n hP x.size 0 { s with heap:=M,toks:=t } 0 Z (Is _)
  #[.inl #[g _ _ j,p,q,g _ _ m],g _ _ P,U.kp λo e=>g _ _ e,V.kp λo e=>g _ _ e,W.kp λo e=>g _ _ e,X.kp λo e=>g _ _ e] #[oD,eD,y,k1 _ _ B,rD] λl T k2 d2=>#[Z,?_]) λr s' q=>?_]
 .exact h l T d2 λe o n1 n2 n3 n4 w=>k2 e o (Iz$ Iq w) n1 n2 n3 n4 (g _ _ w)
 .obtain⟨rfl,q⟩:=q;exact#[Z,q]
end
section
variable {X:Cx}{e1 e2:fr}{ta:TA}{p p2 pos pos2:Pos}
inductive EC(K:Ω)(Q:VK)(e:List V)(c:Hp):Prop
 |mk(a b:ε)(d:List bq)(f:List V)(_:e=[.ref a,.ref b])(_:aC K c a (d.map kV))(_:aC K c b f)(_:d.length=f.length)(_:∀l,c l=ζ->Q (.ref l) (aj c l (.dK (bV [] (d.zip f)))))
def Hj(K:Ω)(ta:TA):TE:=λa H Q=>ta a H (EC K Q)
theorem Y7{P:ψ}{w:dg}:∀{K:List bq} {U:List η},aw (K.map kV) U->∀(i:Nat) (k:bq),K[i]?=δ k->∃u,U[i]?=δ u/\(aO P w).is k u=μ
 | [],_,_,i,k,h=>by simp at h
 |k0::K,_,.cons (b:=u) h t,0,k,e=>by
  let E:k0=k:=by simpa using e
  subst E;exact#[u,Z,Kr h]
 |k0::K,_,.cons h t,i+1,k,e=>by simpa using Y7 (P:=P) (w:=w) t i k (by simpa using e)
theorem rE:∀{K:List bq} {y:List V} {u:List η},aw y u->KV (K.zip y) (K.zip u)
 | [],_,_,_=>by simp only[List.zip_nil_left];exact .nil
 |_::_,_,_,.nil=>by simp only[List.zip_nil_right];exact .nil
 |k::K,_,_,.cons h t=>.cons #[Z,h] (rE t)
theorem Xe(m:Gl X "dict")(n:X.mg "dict"=ζ)(t:Gl X "zip")(v:X.mg "zip"=ζ)(N:X.calm=μ)(O:PA X [e1,e2] ta)
  (T:Θ [e1,e2] X.env=(ν,eval e1 X.env)::Θ [e2] X.env:=by rfl) (U:(hY pos2$ Θ [e2] X.env).any (·.1)=ν:=by rfl)
  (f:Θ [Expr.Call (.Name "zip" p2) [e1,e2] [] pos2] X.env=(ν,eval (.Call (.Name "zip" p2) [e1,e2] [] pos2) X.env)::Θ [] X.env:=by rfl) (x:(hY pos$ Θ [] X.env).any (·.1)=ν:=by rfl):
  PE X (.Call (.Name "dict" p) [.Call (.Name "zip" p2) [e1,e2] [] pos2] [] pos) (Hj X.K ta):=by
 intro P s V H Q I h;refine Lk$ qr I m n SN ?_;refine Li ?_ f x;rw[f];show ξ _ _ (spliced ((ν,eval _ X.env)::hY pos (Θ [] X.env))) _ _ s;refine LB ?_;refine Lk$ qr I t v SM ?_;refine Li (aL (O pos2 P s V H _ I h) λus S z=>?_) T U;obtain⟨vs,H1,d,W,Y⟩:=z;obtain⟨a,b,c,ys,e,gx,gy,hl,q⟩:=Y;subst e;cases W with
 |cons r rr=>
  cases rr with
  |cons r' y=>
   cases y;cases r;cases r';obtain⟨A,F,G,z1⟩:=d.tuple gx;obtain⟨j,R,C,z2⟩:=d.tuple gy;let l1:=F.length;let l2:=R.length;rw[Ik]at l1 z1;let la:a < S.heap.objs.size:=by obtain⟨o,D,_⟩:=G;exact Iq D
   let lb:b < S.heap.objs.size:=by obtain⟨o,D,_⟩:=C;exact Iq D
   refine CM (b1:=ν) (b2:=ν) (xs:=A.toArray) (ys:=j.toArray) G C λE J u' v' i1 i2 k=>?_;refine Mh ?_;let Dz:=xV S.heap.objs.size a b la lb;refine Qt (s:={ S with heap:=E }) (knd:=aO X.prog X.w) (more:=c.zip j) (d.ok.hd N) Dz J u' #[_,_,v'] i1 i2 (iA.kp (b:=ν) G λo e=>k _ _ e) (iA.kp (b:=ν) C λo e=>k _ _ e) (by rw[Oo,Ip];omega) (by rw[Ip];omega) (λi hi=>?_) λh2 tk dd k2=>?_
   .rw[Ip]at hi;let L:i < c.length:=by omega
    let M:i < j.length:=by omega
    obtain⟨u,hu,ku⟩:=Y7 F i _ (Ii L);refine#[u,j[i],c[i],by simpa using hu,by simp [M],ku,?_];rw[OM];exact#[Ii L,Ii M]
   .let g:KV (bV []$ c.zip ys) (merged []$ c.zip j):=KV.merge (rE R) .nil;let zl:(bV []$ c.zip ys).length<=υ:=by rw[g.length];let:=RZ ([]:List (bq×η)) (c.zip j);rw[Oo]at this;simp only[M0]at this;omega
    let k3:∀e o,S.heap.get? e=δ o->h2.get? e=δ o:=λe o w=>by let l:=Iq w;exact k2 e o (Iz$ IE l$ Mo _ _) (Iz$ IE l$ Mo _ _) (Iz l) (Iz$ IE l$ Mo _ _)$ k _ _ w
    let B:S.heap.objs.size<=E.objs.size:=MF (LP (Mo _ 4)$ Iq J);exact#[.ref E.objs.size,_,d.laid k3 B$ Q3 zl (beq_eq_false_iff_ne.mpr$ IC$ Iz$ IE d.big B) g dd,Z,q _$ d.hok.fresh B]
end
section
variable {X:Cx}{st:ey}{ss:List ey}{e:fr}{es:List fr}
def Hh:TS:=λ_ _ _=>False
theorem sG:lS X ss Hh:=λ_ _ _ _ _ _ h=>False.elim h
end
end _L
namespace _L
open PySem PySem.Spec PyProof.Rows PySem.SeqAt
inductive D5(K:Ω)(x y:V)(H:Hp)(Q:VK):Prop
 |mk(a b d e:_)(_:x= .ref a)(_:y= .ref b)(_:aC K H a d)(_:aC K H b e)(_:(d.all cX=μ/\e.all cX=μ/\Q (.bl (pT d e)) H)∨∃(w:π) (c:ε) (zs:List V) (u:π) (i:Int),d=[.str w,.ref c]/\aC K H c zs/\e=[.str u,.int i]/\Q (.bl ν) H)
theorem By{X:Cx}(d:X.A.units+1 < cLine):gp X (compareOp .Eq) (D5 X.K):=by
 intro p s m H x y v U Q I f g h;obtain⟨a,b,n,Y,rfl,rfl,k,l,h | ⟨w,c,M,u,i,rfl,o,rfl,q⟩⟩:=h
 .exact Bx (P8 d) p s m H _ _ v U Q I f g #[a,b,n,Y,Z,Z,k,l,h]
 cases f;cases g;obtain⟨N,r,P,_⟩:=I.tuple k;obtain⟨O,R,t,_⟩:=I.tuple l;obtain⟨S,V,z,_⟩:=I.tuple o;cases r with
 |cons B r=>
  cases r with
  |cons C r=>
   cases r;cases R with
   |cons D R=>
    cases R with
    |cons E R=>
     cases R;obtain⟨T,rfl⟩:=B;cases C;obtain⟨F,rfl⟩:=D;obtain⟨G,rfl⟩:=E;refine eq_tupleAt (e:=λj=>if j=0 then w==u else ν) (show s.heap.IsTuple a _ from P) (show s.heap.IsTuple b _ from t) (P8 d) (λj J L=>?_) ?_
     .match j,J,L with
      |0,_,_=>exact RX w T u F
      |1,_,_=>exact EqAt.tuple_int i G (show s.heap.IsTuple c _ from z) (by simpa [Around.in1,Around.units] using d)
     .let e:((ru$ min 2 2).all (λj=>if j=0 then w==u else ν)&&(2:Nat)==2)=ν:=by show((if 0=0 then w==u else ν)&&((if 1=0 then w==u else ν)&&μ)&&μ)=ν;simp
      exact#[.bl ν,H,I,LD HR e,q]
end _L
namespace _L
open PySem PySem.Spec PyProof.Rows
section
open PySem.W
theorem ZW{K:Ω}(X:K.In h)(a:h.get? x=δ o)(b:o.cls= .ref C)(H:clsIn K B≠ζ)(tB:typeIn K (.ref B)=δ (.type "type"))(m:mroIn K B (.type "BaseException")=δ μ)(c:mroIn K C (.ref B)=δ ν):
  Looks M h (excMatches (.ref x)$ .ref B) ν:=by
 let L:Looks M h (typeOf$ .ref x) (.ref C):=b▸(Ro a).andThen .now;let l:=PQ (M:=M) X tB;let _L:Looks M h (isInstance (.ref B)$ .type "tuple") ν:=l.andThen (Rz tc_notTuple);let d:Looks M h (isType$ .ref B) μ:=by
  unfold clsIn at H;split at H
  .rename_i e
   intro A Q E s k q;unfold isType loadHead;exact Ih$ NZ (k _ _$ X _ _ e)$ Ij q
  .exact absurd Z H
 let f:Looks M h (isExcClass$ .ref B) μ:=by unfold isExcClass;exact d.andThen (by rw[Iw Z];exact N4 X m)
 let g:=N4 (M:=M) X c;intro A Q E s k q;unfold excMatches;refine Ih$ _L A _ E s k ?_;rw[Iy HA];refine Ih$ Ij ?_;dsimp only;refine Ih ?_;rw[LV];refine Ih$ Ih$ f A _ E s k ?_;simp only[MJ,Ix,LC];refine Ij ?_;dsimp only;rw[MD];refine Ij ?_;refine Ih$ L A _ E s k ?_;refine Ih ?_;rw[LV];refine Ih$ Ih$ g A _ E s k ?_;simp only[Ix,LC];refine Ij ?_;dsimp only;rw[MD];refine Ij ?_;exact Ij q
end
def yZ(K:Ω)(A B:ε)(t:Fq)(b c:TS):TS:=λD a H=>t D (λx C d _ h=>(mroIn K C (.ref A)=δ μ/\∀T,h T=ζ->b D a (aj (aj h T$ fb T) x$ gI C d T x))∨(mroIn K C (.ref A)=δ ν/\mroIn K C (.ref B)=δ μ/\∀T,h T=ζ->c D a (aj (aj h T$ fb T) x$ gI C d T x))) a H
end _L
namespace _L
open PySem PySem.Spec PyProof.Rows
open PySem.W
section
variable {X:Cx}{st a₀ b₀:ey}{as bs:List ey}{tb:Fq}{ta tc:TS}{ca cb:π}{np np' hp hp' pos:Pos}{A B:ε}
theorem wM{more:List ExceptHandler}(hst:X.stack=X.env::X.outer)(hfr:X.env.frame=δ X.env.locals)(hb:Gx X st tb)(hg:Gl X ca)(hm:X.mg ca=δ (.ref A))(hA:clsIn X.K A≠ζ)(tA:typeIn X.K (.ref A)=δ (.type "type"))(mA:mroIn X.K A (.type "BaseException")=δ μ)
  (hg':Gl X cb) (hm':X.mg cb=δ (.ref B)) (hB:clsIn X.K B≠ζ) (tB:typeIn X.K (.ref B)=δ (.type "type")) (mB:mroIn X.K B (.type "BaseException")=δ μ)
  (hs:∀e,lS (X.mark e λ_ _=>False) (a₀::as) ta) (hs':∀e,lS (X.mark e λ_ _=>False) (b₀::bs) tc) (hda:(ca==("__debug__":π))=ν:=by decide) (hdb:(cb==("__debug__":π))=ν:=by decide):
  PS X (.Try [st] (.ExceptHandler (δ$ .Name ca np) ζ (a₀::as) hp:: .ExceptHandler (δ$ .Name cb np') ζ (b₀::bs) hp'::more) [] [] pos) (yZ X.K A B tb ta tc):=by
 intro pins s σ H D I h;refine wpAny_Try_except$ wpAny_execs_cons$ wpAny_mono (hb pins s σ H D _ I h) (λf s1 q=>?_) λe s1 q=>?_
 .cases f with
  |next=>exact wpAny_execs_nil (wpAny_execs_nil q)
  |ret v=>exact q
  |brk=>exact q
  |cont=>exact q
 obtain⟨x,C,d,T,H',rfl,I1,hx,hT,hTx,q⟩:=q;obtain⟨⟨ox,vs,h1,h2,h3,h4,h5,h6⟩,_⟩:=I1.hok x _ hx;obtain⟨⟨oT,tz,t1,t2,t3⟩,_⟩:=I1.hok T _ hT;let hsz:=(bU.mp h6).1;let fr1:X.A.frames=δ (X.env::X.outer):=by rw[<- hst];exact I1.ok.frames
 let fl1:s1.heap.FunFrames X.base (X.env::X.outer):=by rw[<- hst];exact I1.stack
 refine QN (base:=X.base) fr1 fl1 hfr h1 h5 h6 hTx t1 t2 t3 λg2 Nd=>?_;let hx1:(dX T s1.heap).get? x=δ ox:=(Heap.get?_update_other _ _ hTx).trans h1;refine AZ (s:={ s1 with heap:=g2 }) Nd hx1 h5 hsz λg3 Nd3=>?_;obtain⟨T',hn,hT'x,I3⟩:=(I1.cleared hT t1 t2 t3).noted (C:=C) (d:=d) (t':=s1.toks) hx hx1 h2 h4 h5 hsz (by unfold hV;rw[hst];exact Nd3);let I3:aq X pins σ (aj (aj H' T'$ fb T') x$ gI C d T' x) { s1 with heap:=g3 }:=I3;obtain⟨⟨ox3,vs3,k1,k2,k3,k4,k5,k6⟩,_⟩:=I3.hok x _ jc;let hT3:aj (aj H' T'$ fb T') x (gI C d T' x) T'=δ (fb T'):=by rw[ji hT'x,jc]
 obtain⟨⟨oT3,tz3,u1,u2,u3⟩,_⟩:=I3.hok T' _ hT3;let suite:∀{E':η->θ->Prop} {c₀:ey} {cs:List ey} {tz:TS} {hp:Pos},(∀e,lS (X.mark e λ_ _=>False) (c₀::cs) tz)->tz D σ (aj (aj H' T'$ fb T') x$ gI C d T' x)->xa (χ X.prog X.w) (X.A.mark$ δ$ .ref x) (Code.handlers (.ref x) [.ExceptHandler ζ ζ (c₀::cs) hp] X.env) (λr s₂=>match r with | .ok f=>SP X pins D f s₂ | .error y=>cameBackBy (χ X.prog X.w) X.A X.env E' y s₂) { s1 with heap:=g3 }:=by
  intro E' c₀ cs tz hp hz qz;refine codeAny_handlers_suite ?_;unfold setFlight;refine wpAny_bind$ wpAny_field k1 k5 k6 ?_;rw[if_pos (show(Ξ T' != dr)=μ from by simp)];refine wpAny_setField u1 u2 (bU.mp u3).1 ?_;let I4:=I3.cleared hT3 u1 u2 u3;refine wpAny_mono (hz (.ref x) pins _ _ _ D (I4.mark (.ref x) λ_ _=>False) qz) (λf s6 q6=>?_) λ_ _ z=>z.elim;cases f with
  |next=>obtain⟨σ',H6,I6,nx⟩:=q6;exact#[_,_,I6.unmark I.ok,nx]
  |brk=>obtain⟨σ',H6,I6,nx⟩:=q6;exact#[_,_,I6.unmark I.ok,nx]
  |cont=>obtain⟨σ',H6,I6,nx⟩:=q6;exact#[_,_,I6.unmark I.ok,nx]
  |ret v=>obtain⟨y,σ',H6,I6,rv,nx⟩:=q6;exact#[y,_,_,I6.unmark I.ok,rv,nx]
 rcases q with ⟨mC,q⟩ | ⟨mC,mC2,q⟩
 .refine wpAny_handleBy_cons (codeAny_handlers_test ?_) (by intro z;cases z);refine zu (I3.mark (.ref x) λ_ _=>False) hg hm ?_ hda;refine qQ I3.kIn k1 k2 hA tA mA mC _ _ _ _ (λ_ _ e=>e) ?_;exact suite hs$ q T' hn
 .refine wpAny_handleBy_cons (codeAny_handlers_test ?_) (by intro z;cases z);refine zu (I3.mark (.ref x) λ_ _=>False) hg hm ?_ hda;refine ZW I3.kIn k1 k2 hA tA mA mC _ _ _ _ (λ_ _ e=>e) ?_;refine wpAny_handleBy_cons (codeAny_handlers_test ?_) (by intro z;cases z);refine zu (I3.mark (.ref x) λ_ _=>False) hg' hm' ?_ hdb;refine qQ I3.kIn k1 k2 hB tB mB mC2 _ _ _ _ (λ_ _ e=>e) ?_;exact suite hs'$ q T' hn
end
end _L
namespace _L
open PySem PySem.Spec PyProof.Rows
def Cz(t:TE)(T:CT):CT:=λa H Q R=>t a H λx b=>T a b (λy h=>∀p,h p=ζ->Q (.ref p) (aj h p$ .tup [x,y])) R
theorem sw{X:Cx}{a b:fr}{t:TE}{T:CT}{P:Pos}{k}(l:PE X.nox a t)(m:ET X b T)(n:Θ [a,b] X.env=[(ν,eval a X.env),(ν,eval b X.env)]:=by rfl):ET X (.Tuple [a,b] k P) (Cz t T):=by intro p s d H Q R I h;refine Ru ?_;rw[n];show ξ _ _ (spliced ((ν,eval a X.env)::hY P [(ν,eval b X.env)])) _ _ s;refine LB$ Lj (l p s d H _ (I.wish _) h) (λu f c=>?_) λ_ _ z=>z.elim;obtain⟨x,o,i,r,q⟩:=c;let i:=i.unwish;show ξ _ _ (spliced ((ν,eval b X.env)::hY P [])) _ _ f;refine LB$ aL (m p f d o _ R i q) λv S c=>?_;obtain⟨y,g,j,w,A⟩:=c;refine Mh #[by show 2<=υ;decide,?_];let B:g S.heap.objs.size=ζ:=j.hok.fresh (Im _);refine#[.ref S.heap.objs.size,aj g S.heap.objs.size$ .tup [x,y],j.laid (t':=S.toks) (λb u e=>Il _ e) (Im _) ?_,Z,A _ B];exact#[by show 2<=υ;decide,_,.cons r$ .cons w .nil,#[_,Ir _ Z,Z,_,Z]]
section
variable {X:Cx}{pos:Pos}
inductive uh(K:Ω)(i j:Nat)(D:a7)(e:St)(x:V)(b:Hp):Prop
 |mk(a c d:_)(_:x= .ref a)(_:aC K b a [c,d])(_:D.nx ((e.set j (δ d)).set i (δ c)) b)
def yV(K:Ω)(t:TE)(i j:Nat):TS:=λD a H=>t a H (uh K i j D a)
theorem wK{t e:fr}{T:TE}{x y:π}{i j:Nat}(k:X.calm=μ)(c:X.N.Nodup)(l:X.N[i]?=δ x)(m:X.N[j]?=δ y)(L:oC X.env.scope x)(n:oC X.env.scope y)(w:PE X e T)
  (F:X.fn x=μ∨X.env.scope.names.lookup x=δ .local:=by first |exact .inl Z |exact .inr Z) (A:X.fn y=μ∨X.env.scope.names.lookup y=δ .local:=by first |exact .inl Z |exact .inr Z)
  (B:swapsWithSole [t] e pos.line X.env=pure ν:=by rfl) (C:swappedStores [t] e X.env=pure (δ [x,y]):=by rfl):PS X (.Assign [t] e pos) (yV X.K T i j):=by
 intro p s d H D I h;rw[Sm];refine Ih$ Mm ?_;rw[B];refine Ih$ Ij ?_;rw[Iy HA];refine Ih$ aL (w p s d H _ I h) λv S z=>?_;obtain⟨xv,f,g,R,a,v1,v2,E,G,q⟩:=z;rw[C];refine Ih$ Ij ?_;subst E;cases R;obtain⟨J,r,M,hz⟩:=g.tuple G;cases r with
 |cons Q r=>
  cases r with
  |cons O r=>
   cases r
   rename_i u U
   unfold assignStores;refine Ih$ Mg$ Ih$ Pr (items:=(ι [u,U])) (I.ok.hd k) M λP V=>?_;let W:aq X p d f { S with heap:=P }:=g.kept (t':=S.toks) λb o e=>V b o (Iz$ Iq e) e;refine Ih ?_;show ξ _ _ (assignInOrder [λv=>bindName X.env y v,λv=>bindName X.env x v] [U,u]) _ _ _;refine Ih$ IM$ Ni$ zb W c m n O (λs3 Y=>?_) A;refine Ih$ IM$ Ni$ zb Y c l L Q (λs4 I5=>?_) F;exact Ij$ Ij #[_,f,I5,q]
end
end _L
namespace _L
open PySem PySem.Spec PyProof.Rows
theorem bu.m(r:bu k A)(h:j<=k:=by omega):bu j A:=r.mono h
theorem bY{N P:List π}{s:sB}(a:s.kind=.function:=by rfl)(b:s.isCoroutine=ν:=by rfl)(c:s.isGenerator=ν:=by rfl)(d:N.Nodup:=by decide +kernel)(e:N.take P.length=P:=by rfl)(f:∀x∈P,s.names.lookup x=δ .local ∨ s.names.lookup x=δ .cell:=by decide +kernel)(g:∀y∈s.names,y.2≠.free:=by decide +kernel):am N P s:=#[a,b,c,d,e,f,g]
theorem pk{N:List π}{s t:sB}{M:List π}{i:List Nat}(a:∀y∈t.names,y.2≠.cell:=by decide +kernel)(b:t.kind=.function:=by rfl)(c:∀y∈t.names,y.2=.local->t.names.lookup y.1=δ .local:=by decide +kernel)(d:∀y∈t.names,y.2=.free->s.names.lookup y.1=δ .cell:=by decide +kernel)(e:M.drop n=i.map (λi=>N.getD i Str.empty):=by decide +kernel)(f:M.length=n+i.length:=by rfl)(g:∀j∈i,t.names.lookup (N.getD j Str.empty)=δ .free:=by decide +kernel):bp N s t M n i:=#[a,b,c,d,e,f,g]
end _L
local macro_rules|`(tactic|obtain $p:rcasesPat:=$t)=>`(tactic|(refine _L.aV λG k=>?_;rcases $t:term with $p:rcasesPat<;>(refine k ?_;clear k)))
namespace _K
open PySem PySem.Spec PyProof.Rows _L
abbrev z0z:List π:=["_law_box_here","_law_wide"]
abbrev z1z:List π:=["term"]
abbrev z2z:List π:=["_law_box_here"]
abbrev z3z:List π:=["statement","behind"]
abbrev z4z:List π:=["_law_term_here","_law_held"]
abbrev z5z:List π:=["statement"]
abbrev z6z:List π:=["_law_box_here","_law_names_here","_law_heads","_law_spare","_law_deep"]
abbrev z7z:List π:=["self","statement","behind"]
abbrev z8z:List π:=["term","held"]
abbrev z9z:List π:=["_law_program","_law_one","_law_held","_law_state","_law_deep"]
abbrev z10z:List π:=["_law_box_here","_law_names_here","_law_deep"]
abbrev z11z:List π:=["self","body","behind"]
abbrev z12z:List π:=["part","n","held"]
abbrev z13z:List π:=["self","part","args","deep"]
abbrev z14z:List π:=["_law_program","_law_body_here","_law_held","_law_state","_law_deep"]
abbrev z15z:List π:=["_law_state","_law_entry"]
abbrev z16z:List π:=["body","behind"]
abbrev z17z:List π:=["_law_box_here","_law_a","_law_b"]
abbrev z18z:List π:=["name","params","body"]
abbrev z19z:List π:=["_law_box_here","_law_f","_law_inner_here","_law_w"]
abbrev z20z:List π:=["self","deed","deep"]
abbrev z21z:List π:=["_law_program","_law_f","_law_args","_law_state","_law_deep"]
abbrev z22z:List π:=["_law_box_here","_law_total"]
abbrev z23z:List π:=["self","statement","place","behind"]
abbrev z24z:List π:=["sign","left","right"]
abbrev z25z:List π:=["self","cells","most"]
abbrev z26z:List π:=["self","parts","cells","most"]
abbrev z27z:List π:=["_law_box_here","_law_names_here"]
abbrev z28z:List π:=["parts","f","args","cells","most"]
abbrev z29z:List π:=["_law_box_here","_law_total","_law_letters","_law_wide","_law_spot_here","_law_signs","_law_first","_law_form","_law_found","_law_k","_law_one","_law_word","_law_some","_law_odd"]
abbrev z30z:List π:=["_law_k","_law_box_here","_law_letters"]
abbrev z31z:List π:=["_law_j","_law_box_here","_law_letters"]
abbrev z32z:List π:=["num","var","op","go","ask","back","chain","sets","iff","ends","calls","reads","gives"]
abbrev z33z:List π:=["_law_one","_law_box_here","_law_names_here"]
abbrev z34z:List π:=["_law_box_here","_law_total","_law_room"]
abbrev z35z:List π:=["_law_box_here","_law_f","_law_g","_law_w"]
abbrev z36z:List π:=["_law_program","_law_f","_law_args","_law_cells_here","_law_most"]
abbrev z37z:List π:=["_law_parts","_law_f","_law_args","_law_cells_here","_law_most"]
abbrev z38z:List π:=["_law_box_here","_law_names_here","_law_heads","_law_spare","_law_deep","_law_kind","_law_x","_law_f","_law_params","_law_body_here"]
abbrev z39z:List π:=["_law_box_here","_law_f","_law_inner_here","_law_w","_law_n","_law_i","_law_s","_law_x","_law_y","_law_body_here","_law_spot_here","_law_start","_law_loop"]
abbrev z40z:List π:=["_law_box_here","_law_f","_law_inner_here","_law_w","_law_n","_law_i","_law_s","_law_x","_law_y","_law_spot_here","_law_body_here","_law_kept","_law_some","_law_start","_law_loop"]
abbrev z41z:List π:=["_law_box_here","_law_program","_law_total","_law_f","_law_params","_law_body_here"]
abbrev z42z:List π:=["_law_program","_law_one","_law_held","_law_state","_law_deep","_law_entry","_law_cell","_law_args"]
abbrev z43z:List π:=["_law_program","_law_f","_law_args","_law_state","_law_deep","_law_name","_law_params","_law_body_here","_law_found"]
variable {P:ψ}{w:dg}{K:Ω}{mg:π->Option η}{base:fv}
def top(i:Nat):ey:=PySem.Challenge.pw_againbook_k23_whole_run_is_plain.main.body.getD i (.Pass #[0,0,0,0])
abbrev BR:ey:=top 47
abbrev tj:ey:=top 48
abbrev ie:ey:=top 50
def aA(p:ε)(H h:Hp):Prop:=∀b o,b≠p->H b=δ o->h b=δ o
theorem aA.refl:aA p H H:=λ_ _ _ h=>h
theorem aA.trans(a:aA p H d)(b:aA p d e):aA p H e:=λc o n h=>b c o n (a c o n h)
theorem aA.of_eq{H a:Hp}(h:∀b,b≠p->a b=H b):aA p H a:=λb o n e=>by rw[h b n];exact e
theorem aA.upd_new{o:HO}(a:aA p H h)(n:h r=ζ):aA p H (aj h r o):=λb u N e=>by let q:=a b u N e;rw[ji$ jk q n];exact q
theorem aA.upd_own(a:aA p H h)(n:H r=ζ):aA p H (aj h r o):=λb u N e=>by rw[ji$ jk e n];exact a b u N e
structure ar(H:Hp)(p:ε):Prop where
 ob:∃a b:Int,0<=a/\1<=b/\b<=2147483646/\H p=δ (.lst [.int a,.int b])
theorem ar.eq{c:Hp}(B:ar H p)(e:c p=H p):ar c p:=by obtain⟨a,b,d,f,g,h⟩:=B.ob;exact#[a,b,d,f,g,by rw[e];exact h]
theorem ar.upd_new{o:HO}(B:ar H p)(n:H r=ζ):ar (aj H r o) p:=by obtain⟨a,b,c,d,e,h⟩:=B.ob;exact B.eq (by rw[ji$ jk h n])
theorem ar.ne(B:ar H p)(n:H r=ζ):r≠p:=by obtain⟨a,b,c,d,e,h⟩:=B.ob;exact IC$ jk h n
inductive aW(c:List V)(H:Hp)(Q:VK)(a:XK):Prop
 |mk(p:ε)(w:Int)(_:c=[.ref p,.int w])(_:ar H p)(_:0 < w)(_:w<=1000000000000000000)(_:∀(d:Int) (H':Hp),0<=d->d < w->ar H' p->(∀b,b≠p->H' b=H b)->Q (.int d) H')
inductive oj(K:Ω)(e:List V)(H:Hp)(Q:VK)(c:XK):Prop
 |mk(a:ε)(d:List Int)(k:Int)(_:e=[.ref a,.int k])(_:aG K H a (d.map HW))(_:0<=k)(_:k < 1000)(_:∀(r:ε) (H':Hp),H r=ζ->ar H' r->(∀b,b≠r->H' b=H b)->Q (.ref r) H')
theorem gM:(10:Int) ^ (18:Int).toNat=1000000000000000000:=by decide
theorem rB{ns:List Int}{k:Int}(H:0<=k)(a:k < (ns.length:Int)):∃v:Int,dC (ns.map HW) k=δ (.int v):=by
 let h:k.toNat < ns.length:=by omega
 let e:k=((k.toNat:Nat):Int):=by omega
 let q:dC (ns.map HW) ((k.toNat:Nat):Int)=δ (.int ns[k.toNat]):=jN (by rw[Iv,Ii h];rfl);rw[<- e]at q;exact#[_,q]
structure Cl(P:ψ)(w:dg)(K:Ω)(mg:π->Option η)(base:fv)(L:Nat)(f:ε)(fd:bm)(ps:List π)(sp:Sp)(py:π):Prop where
 g:ak P w K mg base aD L f fd ps sp
 b:ay K fd ps []
 k:rs K (.ref f)=μ
 m:mg py=δ (.ref f)
theorem Cl.e{X:Cx}{e:fr}(c:Cl X.prog X.w X.K X.mg X.base L f o q s a)(i:bu L X.A)(j:PA X (e::E) t)(l:Gl X a:=by rfl)(h:(a==("__debug__":π))=ν:=by decide)(n:Θ (e::E) X.env=(ν,eval e X.env)::Θ E X.env:=by rfl)(H:(hY d$ Θ E X.env).any (·.1)=ν:=by rfl):PE X (.Call (.Name a p) (e::E) [] d) (dP s [] E0 t):=kK c.g i l c.m c.k c.b .nil bN j h n H
theorem jx{X:Cx}(h:PE X a t):PE X (.Subscript a (.Constant (.int i) j p) b) (dQ (eS X.K) t$ tC$ .int i):=js j7 h jf λ_ _=>Z
theorem jy{X:Cx}{p:Pos}(i:Nat)(h:X.N.Nodup)(H:PE X e t)(b:X.N[i]?=δ x:=by rfl)(c:oC X.env.scope x:=by exact ω Z)(d:swapsWith e (δ$ .Name x a) p.line X.env=pure ν:=by rfl)(f:X.fn x=μ∨X.env.scope.names.lookup x=δ .local:=by first |exact .inl Z |exact .inr Z |assumption):PS X (.Assign [.Name x a] e p) (dn t$ bG i):=kW h b c H d f
theorem jq{K:Ω}{H:Hp}{Q:VK}(h:H p=δ (.tup x))(a:dC x n=δ v)(q:Q v H)(e:b[i]?=δ (δ$ .ref p):=by rfl):dQ (eS K) (aZ i) (tC$ .int n) b H Q:=#[_,e,p,x,n,v,Z,Z,aC.of h,a,q]
theorem jW{X:Cx}(h:PE X a t):PT X (.Compare a [.Eq] [.Constant (.str x) j p] b) (iS$ dQ D4 t$ tC$ .str x):=jB zq h jj Z
theorem zc{X:Cx}(h:PE X a t):PT X (.Compare a [.Eq] [.Constant (.int x) j p] b) (iS$ dQ D4 t$ tC$ .int x):=jB zq h jf Z
theorem ii:am ["_law_box_here","_law_wide","_law_digit","_law_one","_law_mixed"] z0z (ae tj):=bY
theorem wn(F:aK K "_law_take" "_law_take" tj f x):ak P w K mg base aD 1 f x z0z aW:=by
 refine F.ok ii ?_ λC A O s H V Q E z h=>?_
 .rintro _ _ _ _ ⟨p,w,rfl,_⟩;rfl
 obtain⟨p,W,rfl,B,d,g,q⟩:=h;obtain⟨a,b,l,i,j,e⟩:=B.ob;refine#[_,jd (jw (jB JW (js jr (pv 0) jf (λ_ _=>Z)) jf$ au _)
   (jd (jy 2 ii.nd$ jv kY (js jr (pv 0) jf (λ_ _=>Z))$ pv 1)
   (jd (kQ (jv Jw (js jr (pv 0) jf (λ_ _=>Z))$ pv 1)$ qW (pv 0) jf zH)
   (jg$ jo$ pv 2))) jp)
  (jd (jy 3 ii.nd$ jv kY (jv zo (js jr (pv 0) jf (λ_ _=>Z)) jf) jf)
  (jd (kQ (jv jT (jv kY (jv jT (jv zo (pv 3) jf) jf) jf) jf)$ qW (pv 0) jf zH)
  (jd (jy 4 ii.nd$ jv Jw (jv jT (jv zo (pv 3) jf)$ js jr (pv 0) jf (λ_ _=>Z)) jf)
  (jd (jw (jB JW (pv 1) (jv qX jf jf)$ au _) (jg$ jy 4 ii.nd$ jv zo (pv 4)$ pv 4) jp)
  (jg$ jo$ jv kY (pv 4)$ pv 1))))),?_]
 refine#[_,Z,p,_,_,_,Z,Z,aG.of e,Z,_,_,Z,Z,_,Z,?_];refine bZ (λc=>?_) (λc=>?_)
 .let D:(0:Int) < a:=Ll c;refine#[_,Z,p,_,_,_,Z,Z,aG.of e,Z,_,Z,_,_,Z,Z,d,?_];refine#[_,Z,p,_,_,_,Z,Z,aG.of e,Z,_,Z,_,_,Z,Z,#[d,g],_,Z,p,_,_,0,Z,Z,e,Z,_,Z,?_];refine q (a % W) _ (Lm _ Hz) (I8 _ d) #[a / W,b,RD l Hz,i,j,jc] λb n=>ji n
 .let I:0<=b*69621 % 2147483647:=Lm _ HA;let J:b*69621 % 2147483647 < 2147483647:=I8 _ HA;refine#[_,Z,p,_,_,_,Z,Z,aG.of e,Z,_,_,Z,Z,.inr #[HA,HA],_,_,Z,Z,(by show(0:Int) < 2147483647;decide),?_];refine#[_,Z,_,_,Z,Z,.inr #[HA,HA],_,_,Z,Z,_,_,Z,Z,(by show(0:Int) < 2147483646;decide),_,_,Z,Z,_,Z,p,_,_,1,Z,Z,e,Z,?_];generalize m:b*69621 % 2147483647=o at*;let N:0<=(o*48271+30103) % 2147483646:=Lm _ HA;let L:(o*48271+30103) % 2147483646 < 2147483646:=I8 _ HA;generalize r:(o*48271+30103) % 2147483646=t at*;refine#[_,Z,_,_,Z,Z,.inr #[HA,HA],_,Z,p,_,_,_,Z,Z,aG.of jc,Z,_,_,Z,Z,_,_,Z,Z,#[HA,HA],?_];let X:0<=(o*2147483647+(t+1)) / 8191:=by omega
  let R:(o*2147483647+(t+1)) / 8191 < 18446744073709551616:=by omega
  generalize u:(o*2147483647+(t+1)) / 8191=M at*;refine#[_,Z,_,_,Z,Z,#[HA,HA,HA],_,_,Z,Z,_,Z,?_];let v:ar (aj H p$ .lst [.int a,.int$ t+1]) p:=#[a,t+1,l,Hz,Hz,jc];refine bZ (λy=>?_) (λy=>?_)
  .refine#[_,Z,_,Z,_,_,Z,Z,.inl #[Hz,Hz],?_];refine#[_,Z,_,Z,_,_,Z,Z,d,?_];exact q _ _ (Lm _ Hz) (I8 _ d) v λb n=>ji n
  .refine#[_,Z,_,Z,_,_,Z,Z,d,?_];exact q _ _ (Lm _ Hz) (I8 _ d) v λb n=>ji n
theorem lY:am ["_law_script","_law_k","_law_cell","_law_seed"] ["_law_script","_law_k"] (ae BR):=bY
theorem Bk(F:aK K "_law_box" "_law_box" BR f I)(m:mg "len"=ζ)(M:mg "int"=ζ):ak P w K mg base aD 1 f I ["_law_script","_law_k"] (oj K):=by
 refine F.ok lY ?_ λJ A o s H W Q E X h=>?_
 .rintro _ _ _ _ ⟨a,ns,k,rfl,_⟩;rfl
 obtain⟨a,ns,k,rfl,d,i,L,q⟩:=h;refine#[_,jd (jy 2 lY.nd$ jv jT (jv zo jf$ pv 1) jf)
  (jd (jw (jB Kq (pv 1) (jS jL Z m LI$ ja (pv 0) jb)$ au _)
   (jg$ jy 2 lY.nd$ js jr (pv 0) (pv 1) (λ_ _=>Z))
   (jg (jw (jB JW (jS jL Z m LI$ ja (pv 0) jb) jf$ au _)
    (jg$ jy 2 lY.nd$ jv jT (pv 2)$ jv zo (jv kY (js jr (pv 0) (jv kY (pv 1)$ jS jL Z m LI$ ja (pv 0) jb) (λ_ _=>Z)) jf) jf) jp)))
  (jd (jy 3 lY.nd$ jv jT (jv kY (jv jT (jv zo (jv kY (pv 2) jf) jf)$ jv zo jf$ pv 1) jf) jf)
  (jg$ jo$ jG$ ja (jv zo (pv 2)$ jC kG Z M Nk$ ja (j9 sq (pv 2) (jv qX jf jf)$ au _) jb)$ ja (pv 3) jb))),?_]
 let e:(ns.map HW).length=ns.length:=Ik _;let T:∀c:Int,∃v:V,∃x:Int,v= .int x/\1<=x/\x<=2147483646/\v= .int ((c % 2147483629*48271+40692*k) % 2147483646+1):=λc=>by let N:0<=(c % 2147483629*48271+40692*k) % 2147483646:=Lm _ HA;let O:(c % 2147483629*48271+40692*k) % 2147483646 < 2147483646:=I8 _ HA;exact#[_,_,Z,Hz,Hz,Z]
 let j:∀(c:Int) (r:ε),H r=ζ->Q (.ref r) (aj H r$ .lst [.int$ c*(if decide ((10:Int) ^ (18:Int).toNat<=c)=μ then 1 else 0),.int ((c % 2147483629*48271+40692*k) % 2147483646+1)]):=λc r R=>by
  refine q r _ R #[_,_,?_,?_,?_,jc] λb n=>ji n
  .rw[gM];by_cases h:(1000000000000000000:Int)<=c
   .rw[IW h,Iw Z];omega
   .rw[II h,Iy Iu];omega
  .let N:0<=(c % 2147483629*48271+40692*k) % 2147483646:=Lm _ HA;omega
  .let O:(c % 2147483629*48271+40692*k) % 2147483646 < 2147483646:=I8 _ HA;omega
 let B:∀c:Int,uV c (if decide ((10:Int) ^ (18:Int).toNat<=c)=μ then 1 else 0):=λc=>.inr (by split<;>decide);refine ah λF0 u=>#[_,Z,_,_,Z,Z,.inl #[HA,HA],_,_,Z,Z,u _ _ ?_];clear u;refine ah λS y=>?_;let l:∀c:Int,S [δ$ .ref a,δ$ .int k,δ$ .int c,ζ] H:=λc=>y _ _ (ah λF2 U=>#[_,Z,_,_,Z,Z,(by show(0:Int) < 2147483629;decide),_,_,Z,Z,.inr #[HA,HA],_,Z,_,_,Z,Z,.inl #[HA,HA],_,_,Z,Z,_,_,Z,Z,(by show(0:Int) < 2147483646;decide),_,_,Z,Z,U _ _ (#[_,Z,_,Z,_,_,Z,Z,#[HA,HA,HA],_,_,Z,Z,.inr #[_,Z,_,_,Z,Z,B c,_,Z,bK,j c]])]);clear y;refine nP λG g=>#[_,Z,_,Z,a,_,Z,.inl d,_,_,Z,Z,_,Z,g _ _ ?_];clear g;refine bZ (λc=>?_) (λc=>?_)
 .let C:k < (((ns.map HW).length:Nat):Int):=Ll c;rw[e]at C;obtain⟨v,p⟩:=rB (ns:=ns) i C;exact#[_,Z,_,Z,a,_,_,_,Z,Z,d,p,l v]
 .let C:¬k < (((ns.map HW).length:Nat):Int):=NG (xm.mpr c);rw[e]at C;refine nP λG g=>#[_,Z,a,_,Z,.inl d,_,_,Z,Z,_,Z,g _ _ ?_];clear g;refine bZ (λz=>?_) (λz=>?_)
  .let D:(0:Int) < (((ns.map HW).length:Nat):Int):=Ll z;obtain⟨v,p⟩:=rB (ns:=ns) (k:=k % (((ns.map HW).length:Nat):Int)) (Lm _ Hz) (by let:=I8 k D;rw[e]at this;rw[e];exact this);exact#[_,Z,_,Z,_,Z,_,Z,a,_,Z,.inl d,_,_,Z,Z,D,a,_,_,_,Z,Z,d,p,_,_,Z,Z,(by show(0:Int) < 2147483629;decide),_,_,Z,Z,.inr #[HA,HA],_,_,Z,Z,l _]
  .exact l _
theorem nE(i j:π):(i++j).length=i.length+j.length:=by show(i.cps++j.cps).size=i.cps.size+j.cps.size;exact N8
theorem zI:1000000<=υ:=by rw[Nx];decide
theorem ao{H:Hp}{o:HO}(h:H b=δ u)(n:H r=ζ):aj H r o b=δ u:=by rw[ji$ jk h n];exact h
theorem ua{z:π}{k:Int}(H:0<=k)(a:k < (z.length:Int)):∃c:Nat,dC z.cps.toList k=δ c:=by
 let b:z.cps.toList.length=z.length:=IP;let h:k.toNat < z.cps.toList.length:=by omega
 let e:k=((k.toNat:Nat):Int):=by omega
 let q:dC z.cps.toList ((k.toNat:Nat):Int)=δ z.cps.toList[k.toNat]:=jN (Ii h);rw[<- e]at q;exact#[_,q]
theorem KC{ys:List π}{k:Int}(H:0<=k)(a:k < (ys.length:Int)):∃y∈ys,dC (ys.map HV) k=δ (.str y):=by
 let h:k.toNat < ys.length:=by omega
 let e:k=((k.toNat:Nat):Int):=by omega
 let q:dC (ys.map HV) ((k.toNat:Nat):Int)=δ (.str ys[k.toNat]):=jN (by rw[Iv,Ii h];rfl);rw[<- e]at q;exact#[_,ME h,q]
def be(s:List π)(lo h:Option Int):List π:=(s.drop$ HT.sIx s.length 0 lo).take (HT.sIx s.length s.length h - HT.sIx s.length 0 lo)
theorem zJ(s:List π)(lo h:Option Int):aX (s.map HV) lo h=(be s lo h).map HV:=by unfold aX be;rw[Ik,Nf,RN]
theorem zV{lo:Option Int}(h:y∈be s lo H):y∈s:=Pl (Lg h)
theorem qB(s:List π)(lo h:Option Int):(be s lo h).length<=s.length:=by unfold be;rw[IU,L9];omega
theorem Jn:∀{ys:List π},(∀y∈ys,y.length<=1)->(ys.map (·.length)).sum<=ys.length
 | [],_=>Im _
 |y::r,h=>by let a:=h y ID;let b:=Jn (ys:=r) λz H=>h z (IK _ H);rw[La,List.sum_cons,IL];omega
theorem Jo{z:π}{ys:List π}(H:z.length=0)(h:∀y∈ys,y.length<=1):(Txt.join z ys).length<=ys.length:=by show(Builtin.Str.glued z ys).length<=_;rw[size_glued,H,Nat.mul_zero,Nat.add_zero];exact Jn h
def du:π:="abcdefghijklmnopqrstuvwxyz"
theorem J9:du.length=26:=by decide+kernel
def oM(d:Int)(k:Nat):Nat:=97+((d+5*(0+(k:Int))) % 26).toNat
theorem vH(H:i < 20)(a:j < 20)(h:oM d i=oM d j):i=j:=by unfold oM at h;omega
theorem A0(H:0<=k)(a:k < 26)(h:dC du.cps.toList k=δ c):c=97+k.toNat:=by
 let q:∀m:Fin 26,dC du.cps.toList (m.val:Int)=δ (97+m.val):=by decide+kernel
 let e:=q #[k.toNat,Hz];let E:((k.toNat:Nat):Int)=k:=by omega
 dsimp only at e;rw[E,h]at e;injection e
def Sh(A S:π)(d:Int)(c:Nat)(w:π):Prop:=if d=2 then ∃R:π,w=R++#[(ι [c])] else w=A++#[(ι [c])]++S∨w=A++#[(ι [c])]++S++"z"∨w="qqqqqqq"++#[(ι [c])]
theorem kN(a b:π):(a++b).cps.toList=a.cps.toList++b.cps.toList:=by show(a.cps++b.cps).toList=_;exact Array.toList_append
theorem XD{R:π}(h:R++(#[(ι [c])]:π)=r++#[(ι [C])]):c=C:=by let e:=LD (FO ∘ Str.cps) h;let e:(R++(#[(ι [c])]:π)).cps.toList=(r++(#[(ι [C])]:π)).cps.toList:=e;rw[kN,kN]at e;let:=List.append_inj_right' e Z;injection this
theorem vJ{S:π}(h:A++(#[(ι [c])]:π)++S=A++#[(ι [C])]++S):c=C:=by let e:=LD (FO ∘ Str.cps) h;let e:(A++(#[(ι [c])]:π)++S).cps.toList=(A++(#[(ι [C])]:π)++S).cps.toList:=e;rw[kN,kN,kN,kN]at e;let:=O2 (Ng e);injection this
theorem Em{A S : π}{d : Int}{c C : Nat}{w : π}(i : A.length + S.length <= 5)(h : Sh A S d c w)(H : Sh A S d C w) : c = C := by
  unfold Sh at h H;let l : ∀ c : Nat, (#[(ι [c])] : π).length = 1 :=λ_ => Z;let L : (Str.ofString "z").length = 1 := by decide +kernel
  let f : (Str.ofString "qqqqqqq").length = 7 := by decide +kernel
  split at h
  · rename_i a
    rw [Iw a] at H;obtain ⟨R, rfl⟩ := h;obtain ⟨r, e⟩ := H;exact XD e
  · rename_i a
    rw [Iy a] at H;rcases h with rfl | rfl | rfl <;> rcases H with e | e | e
    · exact vJ e
    all_goals first
      | exact XD e
      | (have g := LD Str.length e
         simp only [nE, l, L, f] at g;omega)
      | skip
    let E := LD (FO ∘ Str.cps) e;let E : (A ++ (#[(ι [c])] : π) ++ S ++ ("z" : π)).cps.toList = (A ++ (#[(ι [C])] : π) ++ S ++ ("z" : π)).cps.toList := E;rw [kN, kN (A ++ _ ++ S)] at E;let b := Ng E;rw [kN, kN, kN, kN] at b;let := O2 (Ng b);injection this
theorem XE{y:List π}:y.Nodup↔∀i j:Nat,i < j->j < y.length->y[i]?≠y[j]?:=by
 unfold List.Nodup;rw[List.pairwise_iff_getElem];refine#[λh i j H a e=>?_,λh i j b a H e=>h i j H a ?_]
 .rw[Ii (by omega:i < y.length),Ii a]at e;injection e with e;exact h i j Hz a H e
 .rw[Ii b,Ii a,e]
theorem tV{A S:π}{d D:Int}{Y:List π}(b:A.length+S.length<=5)(g:Y.length<=20)(h:∀j y,Y[j]?=δ y->Sh A S D (oM d j) y):Y.Nodup:=by rw[XE];intro i j c H e;let a:=h i _ (Ii (by omega:i < Y.length));let f:=h j _ (Ii H);rw[Ii (by omega:i < Y.length),Ii H]at e;injection e with e;rw[e]at a;let:=vH Hz Hz (Em b a f);omega
theorem ZX{y:List π}(h:y.Nodup)(b:a∉y):(y.set n a).Nodup:=by
 rw[XE]at h ⊢;intro i j H c e;rw[ND]at c;by_cases d:n=i
 .rw[d,MW Hz,Ml Hz]at e;exact b$ IA e.symm
 .by_cases f:n=j
  .rw[f,MW Hz,Ml Hz]at e;exact b$ IA e
  .rw[Ml d,Ml f]at e;exact h i j H c e
theorem vS{y:List π}(h:nQ (.str a) (y.map HV)=ν):a∉y:=λm=>by unfold nQ at h;rw[PV]at h;exact h (.str a) (cJ.mpr #[a,m,Z]) (by simp [mH])
theorem vk{ss:List π}{d1 d2:Int}(h:ss.length=(1+d1).toNat)(a:0<=d2)(b:d2 < 1+d1):(be ss ζ$ δ d2).length+(be ss (δ$ d2+1) ζ).length<=d1.toNat:=by
 obtain⟨k,rfl⟩:∃k:Nat,d2=k:=#[d2.toNat,(Pz a).symm];obtain⟨n,rfl⟩:∃n:Nat,d1=n:=#[d1.toNat,(Pz Hz).symm];let H:k<=n:=by omega
 let h:ss.length=n+1:=by rw[h];omega
 clear a b;unfold be;rw[show((k:Int)+1)=((k+1:Nat):Int) from Z,HT.sIx_nat,HT.sIx_nat,IU,IU,L9,h,MO$ Lp H,MO$ Nat.le_succ_of_le H];refine IB (Nat.add_le_add (Ov _ _)$ Ov _ _) ?_;show k - 0+(n+1 - (k+1))<=n;rw[Oc,Nat.add_sub_add_right,Pt H];exact Im _
theorem Ge{S:π}:Sh A S d c ("qqqqqqq"++#[(ι [c])]):=by
 unfold Sh;split
 .exact#[_,Z]
 .exact .inr$ .inr Z
theorem Gf{A S:π}{d:Int}{c:Nat}{w:π}(h:if d=2 then ∃R:π,w=R++#[(ι [c])] else w=A++#[(ι [c])]++S∨w=A++#[(ι [c])]++S++"z"):Sh A S d c w:=by
 unfold Sh;split at h
 .rename_i e;rw[Iw e];exact h
 .rename_i e;rw[Iy e];exact h.elim .inl λz=>.inr (.inl z)
def pre(s:List π)(d:Int):π:=Txt.join "" (be s ζ$ δ d)
def eY(s:List π)(d:Int):π:=Txt.join "" (be s (δ$ d+1) ζ)
inductive eG(b:List V)(H:Hp)(Q:VK)(a:XK):Prop
 |mk(p:ε)(n:Int)(_:b=[.ref p,.int n])(_:ar H p)(_:1<=n)(_:n<=20)(_:∀(r:ε) (ys:List π) (H':Hp),H r=ζ->H' r=δ (.lst (ys.map HV))->(ys.length:Int)=n->(∀y∈ys,y.length<=20)/\ys.Nodup->ar H' p->aA p H H'->Q (.ref r) H')
theorem a8:am z29z z22z (ae ie):=bY
def Qu:sB:=#[.function,[(".0",.local),("_law_k",.local),("_law_take",.globalImplicit),("_law_box_here",.free),("_law_letters",.free)],ν,ν,[]]
theorem YF:(z30z:List π).Nodup:=by decide+kernel
theorem YG:bp z29z (ae ie) Qu z30z 1 [0,2]:=pk
def Qv:sB:=#[.function,[(".0",.local),("_law_j",.local),("_law_take",.globalImplicit),("_law_box_here",.free),("_law_letters",.free)],ν,ν,[]]
theorem YH:(z31z:List π).Nodup:=by decide+kernel
theorem YI:bp z29z (ae ie) Qv z31z 1 [0,2]:=pk
theorem JH{p:ε}{Q:List V->Hp->Prop}(o:n<=20)(B:ar f p)
  (q:∀(S:List π) (H:Hp),S.length=n->(∀s∈S,s.length<=1)->ar H p->(∀b,b≠p->H b=f b)->Q (S.map HV) H):
  eJ (uY 0 n) 1 [δ$ .ref p,δ$ .str du] (bG 0) mv (dQ wP (aZ 2)$ dP aW [] E0$ al (aZ 1)$ al (tC$ .int 26) aJ) Q f:=by
 refine XV (λi y H=>∃S:List π,y=S.map HV/\S.length=i/\(∀s∈S,s.length<=1)/\ar H p/\∀b,b≠p->H b=f b)
  #[[],Z,Z,(λ_ h=>nomatch h),B,λ_ _=>Z] (IB o HA) (λi y H #[S,e,l,_]=>by rw[e,Ik,l];exact Im _) ?_ ?_
 .intro i y H x a;obtain⟨S,rfl,g,j,m,E⟩:=a;refine#[_,Z,_,Z,p,26,Z,m,HA,HA,λd A D r t u=>?_];obtain⟨c,v⟩:=ua (z:=du) D (by rw[J9];exact r);refine#[_,_,c,Z,Z,HA,v,S++[#[(ι [c])]],by rw[IN];rfl,by rw[Io,g];rfl,λs hs=>?_,t,λb N=>(u b N).trans (E b N)];rcases γ.mp hs with hs |hs
  .exact j s hs
  .rw[ρ.mp hs];exact Im 1
 .intro y H a;obtain⟨S,rfl,g,j,m,E⟩:=a;exact q S H g j m E
def Rw(p g r:ε)(n d D b e:Int)(i c:Nat)(s y:List π)(H:Hp)(L:Nat)(Z:π->Prop):_L.St->Hp->Prop:=λa h=>∃W:π,(W.length<=L/\Z W)/\
 a=[δ$ .ref p,δ$ .int n,δ$ .str du,δ$ .int (1+d),δ$ .int D,δ$ .ref g,δ$ .int b,δ$ .int e,δ$ .ref r,δ$ .int (0+(i:Int)),δ$ .str #[(ι [c])],δ$ .str W,ζ,ζ]/\
 h g=δ (.lst$ s.map HV)/\h r=δ (.lst$ y.map HV)/\ar h p/\aA p H h
def Rf(p r:ε)(n:Int)(H:Hp):_L.St->Hp->Prop:=λa h=>a[8]?=δ (δ$ .ref r)/\∃Y:List π,h r=δ (.lst$ Y.map HV)/\(Y.length:Int)=n/\((∀y∈Y,y.length<=20)/\Y.Nodup)/\ar h p/\aA p H h
theorem QU(Y:List π):(Y.map HV).all cX=μ:=by rw[Rc];intro v h;obtain⟨y,_,rfl⟩:=cJ.mp h;rfl
theorem tS(Y:List π)(j:Nat)(y:π):(Y.map HV).set j (HV y)=(Y.set j y).map HV:=(RW ..).symm
inductive NI(p g r:ε)(n b c d e:Int)(v:List π)(H:Hp)(i:Nat)(x:_L.St)(a:Hp):Prop
 |mk(s t u:Option V)(w:List π)(f:x=[δ (.ref p),δ (.int n),δ (.str du),δ (.int (1+b)),δ (.int c),δ (.ref g),δ (.int d),δ (.int e),δ (.ref r),s,t,u,ζ,ζ])(h:a g=δ (.lst (v.map HV)))(k:a r=δ (.lst (w.map HV)))(l:w.length=i)(m:(∀y∈w,y.length<=20)/\∀j y,w[j]?=δ y->Sh (pre v c) (eY v c) e (oM d j) y)(o:ar a p)(q:aA p H a)
theorem sd(F:aK K "_law_names" "_law_names" ie f fd)(GT:ak P w K mg base aD 1 fT f4 z0z aW)(x:ay K f4 z0z [])(C:rs K (.ref fT)=μ)
  (M:mg "_law_take"=δ (.ref fT)) (mr:mg "range"=ζ):ak P w K mg base aD 2 f fd z22z eG:=by
 refine F.ok a8 ?_ λc1 A o1 s H vs Q E D h=>?_
 .rintro _ _ _ _ ⟨p,n,rfl,_⟩;rfl
 obtain⟨p,n,rfl,B,a3,a4,q⟩:=h;refine#[_,(@jd _ _ _ _ _ (@kW _ _ (2) _ _ _ _ a8.nd Z (ov Z) (@jj _ _ _ _) Hv$ .inl Z)$ @jd _ _ _ _ _ (@kW _ _ (3) _ _ _ _ a8.nd Z (ω Z) (@jv _ _ _ _ _ _ _ _ jT (@jf _ _ _ _)$ @kK _ _ _ _ _ _ _ _ _ _ _ _ _ _ _ _ GT D Z M C x .nil bN (@ja _ _ _ _ _ (@pv _ 0 _ _ Hv (.inr$ .inl Z) HA HA) (@ja _ _ _ _ _ (@jf _ _ _ _) (@jb _) Hv) Hv) HA Hv Hv) Hv$ .inl Z)$ @jd _ _ _ _ _ (@kW _ _ (4) _ _ _ _ a8.nd Z (ω Z) (@kK _ _ _ _ _ _ _ _ _ _ _ _ _ _ _ _ GT D Z M C x .nil bN (@ja _ _ _ _ _ (@pv _ 0 _ _ Hv (.inr$ .inl Z) HA HA) (@ja _ _ _ _ _ (@pv _ 3 _ _ Hv (.inl Z) HA HA) (@jb _) Hv) Hv) HA Hv Hv) Hv$ .inl Z)$ @jd _ _ _ _ _ (@Y4 _ _ _ _ _ _ _ _ _ _ (5) (z30z) (1) ([0,2]) _ _ _ _ a8.nd Z (ω Z) Z (@ze _ _ _ _ _ _ Z mr (@ja _ _ _ _ _ (@pv _ 3 _ _ Hv (by first |exact ω Z |exact ov (ω Z) |exact ov$ ov Z) HA HA) (@jb _) Hv) Hv) YG (λ_ _ _ _ _=>(@ju _ _ (0) _ YF Z (ω Z) (by first |exact .inl Z |exact .inr Z))) (λ_ _ _ _ _=>(@zQ _)) (λ_ _ _ _ _=>(@js _ _ _ _ _ _ _ KA (@pv _ 2 _ _ Hv (by first |exact ω Z |exact ov (ω Z) |exact ov$ ov Z) HA HA) (@kK _ _ _ _ _ _ _ _ _ _ _ _ _ _ _ _ GT D Z M C x .nil bN (@ja _ _ _ _ _ (@pv _ 1 _ _ Hv (by first |exact ω Z |exact ov (ω Z) |exact ov$ ov Z) HA HA) (@ja _ _ _ _ _ (@jf _ _ _ _) (@jb _) Hv) Hv) HA Hv Hv) (λ_ _=>Z))) Hv (by first |exact .inl Z |exact .inr Z) (by intro _;rfl))$ @jd _ _ _ _ _ (@kW _ _ (6) _ _ _ _ a8.nd Z (ω Z) (@kK _ _ _ _ _ _ _ _ _ _ _ _ _ _ _ _ GT D Z M C x .nil bN (@ja _ _ _ _ _ (@pv _ 0 _ _ Hv (.inr$ .inl Z) HA HA) (@ja _ _ _ _ _ (@jf _ _ _ _) (@jb _) Hv) Hv) HA Hv Hv) Hv$ .inl Z)$ @jd _ _ _ _ _ (@kW _ _ (7) _ _ _ _ a8.nd Z (ω Z) (@kK _ _ _ _ _ _ _ _ _ _ _ _ _ _ _ _ GT D Z M C x .nil bN (@ja _ _ _ _ _ (@pv _ 0 _ _ Hv (.inr$ .inl Z) HA HA) (@ja _ _ _ _ _ (@jf _ _ _ _) (@jb _) Hv) Hv) HA Hv Hv) Hv$ .inl Z)$ @jd _ _ _ _ _ (@kW _ _ (8) _ _ _ _ a8.nd Z (ω Z) (@jG _ _ _ _$ @jb _) Hv$ .inl Z)$ @jd _ _ _ _ _ (@kX _ _ _ _ _ _ _ _ IZ Z (@ze _ _ _ _ _ _ Z mr (@ja _ _ _ _ _ (@pv _ 1 _ _ Hv (.inl Z) HA HA) (@jb _) Hv) Hv) (@ju _ _ (9) _ a8.nd Z (ω Z)$ .inl Z) (@jd _ _ _ _ _ (@kW _ _ (10) _ _ _ _ a8.nd Z (ω Z) (@js _ _ _ _ _ _ _ KA (@pv _ 2 _ _ Hv (.inr$ .inl Z) HA HA) (@jv _ _ _ _ _ _ _ _ kY (@jv _ _ _ _ _ _ _ _ jT (@pv _ 6 _ _ Hv (.inl Z) HA HA)$ @jv _ _ _ _ _ _ _ _ zo (@jf _ _ _ _)$ @pv _ 9 _ _ Hv (.inl Z) HA HA)$ @jf _ _ _ _) (λ_ _=>Z)) Hv$ .inl Z)$ @jd _ _ _ _ _ (@jZ _ _ _$ @kW _ _ (11) _ _ _ _ a8.nd Z (ω Z) (@jv _ _ _ _ _ _ _ _ zL (@jv _ _ _ _ _ _ _ _ zL (@kH _ _ _ _ _ _ _ _ _ _ _ _ MQ Np No Xb (@jj _ _ _ _) (@ja _ _ _ _ _ (@jK _ _ _ _ _ _ _ _ _ _ kM (@pv _ 5 _ _ Hv (.inl Z) HA HA) (@kL _)$ @jI _ _ _$ @pv _ 4 _ _ Hv (.inl Z) HA HA) (@jb _) Hv) Hv Hv Hv Hv Hv)$ @pv _ 10 _ _ Hv (.inl Z) HA HA)$ @kH _ _ _ _ _ _ _ _ _ _ _ _ MQ Np No Xb (@jj _ _ _ _) (@ja _ _ _ _ _ (@jK _ _ _ _ _ _ _ _ _ _ kM (@pv _ 5 _ _ Hv (.inl Z) HA HA) (@jI _ _ _$ @jv _ _ _ _ _ _ _ _ jT (@pv _ 4 _ _ Hv (.inl Z) HA HA)$ @jf _ _ _ _)$ @kL _) (@jb _) Hv) Hv Hv Hv Hv Hv) Hv$ .inl Z)$ @jd _ _ _ _ _ (@jZ _ _ _$ @jw _ _ _ _ _ _ _ _ (@PW.pt _ _ _$ @Q1 _ _ _ _ _ _ _ (zc$ @pv _ 7 _ _ Hv (.inl Z) HA HA)$ @Kf _ _ _ _$ zc$ @jv _ _ _ _ _ _ _ _ kY (@pv _ 9 _ _ Hv (.inl Z) HA HA)$ @jf _ _ _ _) (@jg _ _ _$ @kW _ _ (11) _ _ _ _ a8.nd Z (ω Z) (@jv _ _ _ _ _ _ _ _ zL (@pv _ 11 _ _ Hv (.inl Z) HA HA)$ @jj _ _ _ _) Hv$ .inl Z)$ @jp _)$ @jd _ _ _ _ _ (@jZ _ _ _$ @jw _ _ _ _ _ _ _ _ (zc$ @pv _ 7 _ _ Hv (.inl Z) HA HA) (@jg _ _ _$ @kW _ _ (11) _ _ _ _ a8.nd Z (ω Z) (@jv _ _ _ _ _ _ _ _ zL (@kH _ _ _ _ _ _ _ _ _ _ _ _ MQ Np No Xb (@jj _ _ _ _) (@ja _ _ _ _ _ (@zg _ _ _ _ _ _ _ (z31z) (1) ([0,2]) _ _ _ _ Z (@ze _ _ _ _ _ _ Z mr (@ja _ _ _ _ _ (@kK _ _ _ _ _ _ _ _ _ _ _ _ _ _ _ _ GT D Z M C x .nil bN (@ja _ _ _ _ _ (@pv _ 0 _ _ Hv (by first |exact ω Z |exact ov (ω Z) |exact ov$ ov Z) HA HA) (@ja _ _ _ _ _ (@jf _ _ _ _) (@jb _) Hv) Hv) HA Hv Hv) (@jb _) Hv) Hv) YI (λ_ _ _ _ _=>(@ju _ _ (0) _ YH Z (ω Z) (by first |exact .inl Z |exact .inr Z))) (λ_ _ _ _ _=>(@zQ _)) (λ_ _ _ _ _=>(@js _ _ _ _ _ _ _ KA (@pv _ 2 _ _ Hv (by first |exact ω Z |exact ov (ω Z) |exact ov$ ov Z) HA HA) (@kK _ _ _ _ _ _ _ _ _ _ _ _ _ _ _ _ GT D Z M C x .nil bN (@ja _ _ _ _ _ (@pv _ 1 _ _ Hv (by first |exact ω Z |exact ov (ω Z) |exact ov$ ov Z) HA HA) (@ja _ _ _ _ _ (@jf _ _ _ _) (@jb _) Hv) Hv) HA Hv Hv) (λ_ _=>Z))) (by intro _;rfl)) (@jb _) Hv) Hv Hv Hv Hv Hv)$ @pv _ 10 _ _ Hv (.inl Z) HA HA) Hv$ .inl Z)$ @jp _)$ @jd _ _ _ _ _ (@jZ _ _ _$ @jw _ _ _ _ _ _ _ _ (@jB _ _ _ _ _ _ _ _ zB (@pv _ 11 _ _ Hv (.inl Z) HA HA) (@jh _ _ _ _ _$ @Xc _ _ Hv) Z) (@jg _ _ _$ @kW _ _ (11) _ _ _ _ a8.nd Z (ω Z) (@jv _ _ _ _ _ _ _ _ zL (@jj _ _ _ _)$ @pv _ 10 _ _ Hv (.inl Z) HA HA) Hv$ .inl Z)$ @jp _)$ @jg _ _ _$ @jR _ _ _ _ (@kH _ _ _ _ _ _ _ _ _ _ _ _ IH IR IQ jP (@pv _ 8 _ _ Hv (.inl Z) HA HA) (@ja _ _ _ _ _ (@pv _ 11 _ _ Hv (.inl Z) HA HA) (@jb _) Hv) Hv Hv Hv Hv Hv) Hv) (by intro _;rfl))$ @jd _ _ _ _ _ (@jZ _ _ _$ @jw _ _ _ _ _ _ _ _ (@jB _ _ _ _ _ _ _ _ zq (@kK _ _ _ _ _ _ _ _ _ _ _ _ _ _ _ _ GT D Z M C x .nil bN (@ja _ _ _ _ _ (@pv _ 0 _ _ Hv (.inr$ .inl Z) HA HA) (@ja _ _ _ _ _ (@jf _ _ _ _) (@jb _) Hv) Hv) HA Hv Hv) (@jf _ _ _ _)$ au _) (@jd _ _ _ _ _ (@kW _ _ (12) _ _ _ _ a8.nd Z (ω Z) (@jG _ _ _ _$ @Xc _ _ Hv) Hv$ .inl Z)$ @jd _ _ _ _ _ (@kW _ _ (13) _ _ _ _ a8.nd Z (ω Z) (@js _ _ _ _ _ _ _ jr (@pv _ 12 _ _ Hv (.inl Z) HA HA) (@kK _ _ _ _ _ _ _ _ _ _ _ _ _ _ _ _ GT D Z M C x .nil bN (@ja _ _ _ _ _ (@pv _ 0 _ _ Hv (.inr$ .inl Z) HA HA) (@ja _ _ _ _ _ (@jf _ _ _ _) (@jb _) Hv) Hv) HA Hv Hv) (λ_ _=>Z)) Hv$ .inl Z)$ @jg _ _ _$ @jw _ _ _ _ _ _ _ _ (@jB _ _ _ _ _ _ _ _ JC (@pv _ 13 _ _ Hv (.inl Z) HA HA) (@pv _ 8 _ _ Hv (.inl Z) HA HA) Z) (@jg _ _ _$ @kQ _ _ _ _ _ _ (@pv _ 13 _ _ Hv (.inl Z) HA HA) (@qW _ _ _ _ _ _ _ (@pv _ 8 _ _ Hv (.inl Z) HA HA) (@kK _ _ _ _ _ _ _ _ _ _ _ _ _ _ _ _ GT D Z M C x .nil bN (@ja _ _ _ _ _ (@pv _ 0 _ _ Hv (.inr$ .inl Z) HA HA) (@ja _ _ _ _ _ (@pv _ 1 _ _ Hv (.inl Z) HA HA) (@jb _) Hv) Hv) HA Hv Hv) zH (by intro _;rfl)) Hv Hv Hv)$ @jp _)$ @jp _)$ @jg _ _ _$ @jo _ _ _ _$ @pv _ 8 _ _ Hv (.inl Z) HA HA),?_];refine eX λE0 f0=>f0 _ _ ?_;refine eX λG a=>#[_,Z,p,6,Z,B,HA,HA,λd1 H1 a' b0 U e1=>#[_,_,Z,Z,a _ _ ?_]];refine eX λE2 f2=>#[_,Z,_,Z,p,_,Z,U,Hz,Hz,λd2 H2 b1 b2 B2 e2=>f2 _ _ ?_];clear f0 a f2;refine eX λG a=>#[_,Z,_,Z,Hz,Hz,?_];refine JH (p:=p) Hz B2 λss H3 a2 e B3 e3 g hg=>a _ _ ?_;clear a;let k3:aA p H H3:=(aA.of_eq e1).trans ((aA.of_eq e2).trans$ aA.of_eq e3);let v:g≠p:=B3.ne hg;refine eX λG a=>#[_,Z,p,26,Z,B3.upd_new hg,HA,HA,λW H4 b3 b4 B4 e4=>a _ _ ?_];refine eX λE2 f2=>#[_,Z,p,3,Z,B4,HA,HA,λI H5 b5 b7 B5 e5=>f2 _ _ ?_];clear a f2;let h2:H5 g=δ (.lst$ ss.map HV):=by rw[e5 g v,e4 g v];exact jc
 let k5:aA p H H5:=(k3.upd_new hg).trans ((aA.of_eq e4).trans$ aA.of_eq e5);refine eX λG a=>#[HA,λr u=>a _ _ ?_];clear a;let m:r≠p:=B5.ne u;let h4:g≠r:=jk h2 u;let n3:H g=ζ:=by
  cases z:H g with
  |none=>rfl
  |some o=>have:=k3 g o v z;rw[hg]at this;cases this
 let X:H r=ζ:=by
  cases z:H r with
  |none=>rfl
  |some o=>have:=k5 r o m z;rw[u]at this;cases this
 let b9:=zI;refine eX λG a=>gu λJ j=>#[_,Z,_,Z,Hz,Hz,j _ _ ?_];clear j;refine qi (lo:=0) (NI p g r n d1 d2 W I ss H) #[ζ,ζ,ζ,[],Z,ao h2 u,jc,Z,#[(λ_ h=>nomatch h),(λ_ _ h=>nomatch h)],B5.upd_new u,k5.upd_new u] ?_ ?_
 .intro E0 _ i σ H' hi fE Gq T b;obtain⟨ok,oo,ow,ys,rfl,L,Y,h0,d,B',k'⟩:=b;clear a;obtain⟨c,hc⟩:=ua (z:=du) (k:=(W+5*(0+(i:Int))) % 26) (Lm _ HA) (by rw[J9];exact I8 _ HA);refine T ?_;clear T;show cR (dn _ _) _ E0 _ _;refine eX λG a=>#[_,Z,_,Z,_,Z,_,_,Z,Z,.inl #[HA,HA],_,_,Z,Z,_,_,Z,Z,(by show(0:Int) < 26;decide),_,_,c,Z,Z,HA,hc,a _ _ ?_];clear a;let b':(#[(ι [c])]:π).length=1:=rfl;let h5:c=oM W i:=A0 (Lm _ HA) (I8 _ HA) hc;refine eX λG a=>dE (Rw p g r n d1 d2 W I i c ss ys H 13 (·=pre ss d2++#[(ι [c])]++eY ss d2)) (λE2 _ t=>?_) λO H1 b=>?_
  .clear a fE;refine#[Z,_,Z,_,Z,_,Z,g,_,Z,aG.of L,λs1 n1=>?_];let z1:=Jn (ys:=be ss ζ (δ d2)) λy d=>e y (zV d);let z2:=qB ss ζ (δ d2);refine#[_,s1,be ss ζ$ δ d2,Z,Z,aG.of (by rw[jc,zJ]),HA,Hz,?_];let j1:=Jo (z:="") (ys:=be ss ζ (δ d2)) Hw λy d=>e y (zV d);refine#[_,Z,_,_,Z,Z,Hz,?_];refine#[Z,_,Z,_,Z,_,_,Z,Z,_,Z,g,_,Z,aG.of$ ao L n1,λs2 n2=>?_];let z3:=Jn (ys:=be ss (δ$ d2+1) ζ) λy d=>e y (zV d);let z4:=qB ss (δ$ d2+1) ζ;refine#[_,s2,be ss (δ$ d2+1) ζ,Z,Z,aG.of (by rw[jc,zJ]),HA,Hz,?_];let j2:=Jo (z:="") (ys:=be ss (δ$ d2+1) ζ) Hw λy d=>e y (zV d);refine#[_,_,Z,Z,by rw[nE];omega,?_];exact t _ _ #[_,#[by show(Txt.join ("":π) (be ss ζ$ δ d2)++(#[(ι [c])]:π)++Txt.join ("":π) (be ss (δ$ d2+1) ζ)).length<=13;rw[nE,nE];omega,Z],Z,ao (ao L n1) n2,ao (ao Y n1) n2,(B'.upd_new n1).upd_new n2,(k'.upd_new n1).upd_new n2]
  obtain⟨w1,⟨c2,z1⟩,rfl,g1,r1,U,k1⟩:=b;refine a _ _ ?_;clear a;refine eX λG a=>dE (Rw p g r n d1 d2 W I i c ss ys H 14 (λw=>w=pre ss d2++#[(ι [c])]++eY ss d2∨w=pre ss d2++#[(ι [c])]++eY ss d2++"z")) (λE2 _ t=>?_) λO H2 b=>?_
  .clear a fE;refine#[_,Z,Z,_,Z,?_];refine bZ (λS=>?_) (λS=>?_)
   .refine#[_,Z,_,_,Z,Z,(by show(0:Int) < 2;decide),Z,_,Z,?_];refine bZ (λcb=>?_) (λcb=>?_)
    .let hz:(Str.ofString "z").length=1:=by decide+kernel
     refine#[_,Z,_,_,Z,Z,by rw[hz];omega,?_];exact t _ _ #[_,#[by rw[nE,hz];omega,.inr (by rw[z1])],Z,g1,r1,U,k1]
    .exact t _ _ #[w1,#[Hz,.inl z1],Z,g1,r1,U,k1]
   .exact vG$ t _ _ #[w1,#[Hz,.inl z1],Z,g1,r1,U,k1]
  obtain⟨w2,⟨c3,z2⟩,rfl,g2,r2,B2,k2⟩:=b;refine a _ _ ?_;clear a;refine eX λG a=>dE (Rw p g r n d1 d2 W I i c ss ys H 14 (λw=>if I=2 then ∃R:π,w=R++#[(ι [c])] else w=pre ss d2++#[(ι [c])]++eY ss d2∨w=pre ss d2++#[(ι [c])]++eY ss d2++"z")) (λE2 _ t=>?_) λO H3 b=>?_
  .clear a fE;refine#[_,Z,Z,_,Z,?_];refine bZ (λS=>?_) (λS=>?_)
   .refine#[Z,_,Z,p,8,Z,B2,HA,HA,λd6 H6 d0 d3 B6 e6=>?_];refine#[_,Z,Hz,Hz,?_];refine JH (p:=p) Hz B6 λtt H7 c4 h3 B7 e7 g7 n7=>?_;let jt:=Jo (z:="") (ys:=tt) Hw h3;let zt:=Jn h3;refine#[_,g7,tt,Z,Z,aG.of jc,HA,Hz,?_];refine#[_,Z,_,_,Z,Z,Hz,?_];let g8:H7 g=δ (.lst$ ss.map HV):=by rw[e7 g v,e6 g v];exact g2
    let r8:H7 r=δ (.lst$ ys.map HV):=by rw[e7 r m,e6 r m];exact r2
    let e5:I=2:=by injection Ll S
    exact t _ _ #[_,#[by rw[nE];omega,(Iw e5).mpr #[_,Z]],Z,ao g8 n7,ao r8 n7,B7.upd_new n7,(k2.trans ((aA.of_eq e6).trans$ aA.of_eq e7)).upd_new n7]
   .let e5:I≠2:=λz=>S (by rw[z];exact IW Z);exact t _ _ #[w2,#[Hz,(Iy e5).mpr z2],Z,g2,r2,B2,k2]
  obtain⟨w3,⟨c5,z3⟩,rfl,g3,r3,B3,k3⟩:=b;refine a _ _ ?_;clear a;refine eX λG a=>dE (Rw p g r n d1 d2 W I i c ss ys H 14$ Sh (pre ss d2) (eY ss d2) I c) (λE2 _ t=>?_) λO H4 b=>?_
  .clear a fE;refine#[_,Z,HA,λt0 N=>?_];refine#[t0,_,Z,.inr$ aC.of jc,Z,ZJ Hv,_,Z,?_];refine bZ (λS=>?_) (λS=>?_)
   .let hq:(Str.ofString "qqqqqqq").length=7:=by decide+kernel
    refine#[_,Z,_,_,Z,Z,by rw[hq];omega,?_];exact t _ _ #[_,#[by rw[nE,hq];omega,Ge],Z,ao g3 N,ao r3 N,B3.upd_new N,k3.upd_new N]
   .exact t _ _ #[w3,#[Hz,Gf z3],Z,ao g3 N,ao r3 N,B3.upd_new N,k3.upd_new N]
  obtain⟨w4,⟨c6,z4⟩,rfl,g4,r4,B4,k4⟩:=b;refine a _ _ ?_;clear a;refine#[_,Z,.inl #[Z,_,aG.of r4],_,Z,r,_,_,Z,Z,r4,by rw[Ik];omega,?_];refine fE _ _ #[_,_,_,ys++[w4],Z,by rw[ji h4];exact g4,by rw[jc,IN];rfl,by rw[Io,h0];rfl,#[λy hm=>?_,λj y hj=>?_],B4.eq$ ji$ IC m,k4.upd_own X]
  .rcases γ.mp hm with hm |hm
   .exact d.1 y hm
   .rw[ρ.mp hm];omega
  .by_cases h6:j < ys.length
   .rw[Mf h6]at hj;exact d.2 j y hj
   .let lj:=(τ.mp hj).1;rw[Io,Mt]at lj;let ej:j=ys.length:=by omega
    rw[ej,LN$ Im _,M6]at hj;injection hj with hj;rw[<- hj,ej,h0,<- h5];exact z4
 .intro σ H' b;obtain⟨ok,oo,ow,ys,rfl,L,Y,h0,d,B',k'⟩:=b;let h1:(ys.length:Int)=n:=by omega
  let f5:=vk (ss:=ss) (d1:=d1) (d2:=d2) Hz Hz Hz;let j1:(pre ss d2).length<=_:=Jo (z:="") (ys:=be ss ζ (δ d2)) Hw λy d=>e y (zV d);let j2:(eY ss d2).length<=_:=Jo (z:="") (ys:=be ss (δ$ d2+1) ζ) Hw λy d=>e y (zV d);let nd:=tV Hz Hz d.2;let d:=d.1;refine a _ _ ?_;clear a;refine ah λF1 a=>dE (Rf p r n H) (λE2 _ t=>?_) λO H1 b=>?_
  .clear a;refine nP λG' g'=>#[_,Z,p,6,Z,B',HA,HA,λd6 H6 d0 d3 B6 e6=>#[Z,_,Z,g' _ _ ?_]];clear g';let r6:H6 r=δ (.lst$ ys.map HV):=by rw[e6 r m];exact Y
   let k6:aA p H H6:=k'.trans (aA.of_eq e6);refine bZ (λS=>?_) (λS=>?_)
   .refine eX λE3 f3=>#[HA,λt0 N=>f3 _ _ ?_];clear f3;let t1:t0≠p:=B6.ne N;refine eX λE4 f3=>#[_,Z,_,Z,p,13,Z,B6.upd_new N,HA,HA,λd7 H7 d9 d' B7 e7=>?_];let t7:H7 t0=δ (.lst ((z32z:List π).map HV)):=((e7 t0 t1).trans jc).trans (LD (λl=>δ (HO.lst l)) Hw);let r7:H7 r=δ (.lst$ ys.map HV):=by rw[e7 r m];exact ao r6 N
    let k7:aA p H H7:=(k6.upd_new N).trans (aA.of_eq e7);obtain⟨od,h7,h8⟩:=KC (ys:=(z32z:List π)) d9 (by simpa using d');refine#[t0,_,_,_,Z,Z,aG.of t7,h8,f3 _ _ ?_];clear f3;let h':od.length<=20:=by
     let:∀y∈(z32z:List π),y.length<=20:=by decide+kernel
     exact this od h7
    refine nP λG' g'=>#[_,Z,_,Z,r,_,Z,.inl$ aG.of r7,Z,QU _,_,Z,g' _ _ ?_];clear g';refine bZ (λcb=>?_) (λcb=>?_)
    .refine#[_,Z,_,Z,_,Z,_,Z,p,n,Z,B7,Hz,Hz,λd8 H8 a0 c9 B8 e8=>?_];let r8:H8 r=δ (.lst$ ys.map HV):=by rw[e8 r m];exact r7
     let k8:aA p H H8:=k7.trans (aA.of_eq e8);refine#[r,_,d8,d8.toNat,Z,Z,r8,?_,?_]
     .unfold mQ;rw[Iw a0,Ik,Iw Hz]
     refine t _ _ #[Z,ys.set d8.toNat od,by rw[jc,tS],by rw[ND];exact h1,#[λy hm=>?_,ZX nd$ vS (by let c0:(!nQ (.str od) (ys.map HV))=μ:=cb;rw[PZ]at c0;exact c0)],B8.eq$ ji$ IC m,k8.upd_own X];rcases List.mem_or_eq_of_mem_set hm with hm |hm
     .exact d y hm
     .rw[hm];exact h'
    .exact t _ _ #[Z,ys,r7,h1,#[d,nd],B7,k7]
   .exact t _ _ #[Z,ys,r6,h1,#[d,nd],B6,k6]
  obtain⟨a1,y0,r1,l1,y1,U,k1⟩:=b;refine a _ _ ?_;exact#[_,a1,q r y0 H1 X r1 l1 y1 U k1]
def ai(H h:Hp):Prop:=∀b x,H b=δ (.tup x)->h b=δ (.tup x)
theorem af.tm(a:af H c):ai H c:=λb x h=>a b _ h
theorem je{H:Hp}{o:HO}(n:H p=ζ):af H (aj H p o):=λb u e=>ao e n
theorem bH{b:Bool}{A B:Prop}(h:b=μ)(x:A):if b=μ then A else B:=by rw[Iw h];exact x
theorem aH{b:Bool}{A B:Prop}(h:b=ν)(x:B):if b=μ then A else B:=by rw[h,Iy Iu];exact x
theorem aI:υ=16777216:=by rw[Nx]
theorem ar.same(B:ar H p)(s:af H c):ar c p:=by obtain⟨a,b,d,e,f,h⟩:=B.ob;exact#[a,b,d,e,f,s _ _ h]
theorem aA.of_same(s:af H h):aA p H h:=λb o _ e=>s _ _ e
theorem aA.tm(k:aA p H h)(B:ar H p):ai H h:=λb x e=>by obtain⟨a,c,_,_,_,f⟩:=B.ob;exact k b _ (jE e f (by intro w;cases w)) e
theorem aA.none(k:aA p H h)(B:ar h p)(n:h r=ζ):H r=ζ:=by
 cases z:H r with
 |none=>rfl
 |some o=>have:=k _ _ (B.ne n) z;rw[n]at this;cases this
theorem ZY{K:Ω}{a:ε}{xs:List V}{t:TE}{Q:List V->Hp->Prop}(u:xs.length<=υ)(Pv:Nat->List V->Hp->Prop)(l:Pv 0 [] H)
  (n:∀i Y h,Pv i Y h->aG K h a xs/\Y.length<=i) (o:∀i x Y h,xs[i]?=δ x->Pv i Y h->t (δ x::d) h λy c=>Pv (i+1) (Y++[y]) c) (q:∀Y h,Pv xs.length Y h->Q Y h):
  eJ (yd K a) 1 d (bG 0) mv t Q H:=by
 refine#[λi m Y h=>m=xs.length - i/\i<=xs.length/\Pv i Y h,#[xs.length,Hy,Is _,l],?_];intro i m Y h f;obtain⟨rfl,z,p⟩:=f;obtain⟨g,A⟩:=n i Y h p;by_cases b:i < xs.length
 .refine .inr #[#[xs,xs[i],g,Ii b],Hz,Pv$ i+1,λr c s=>#[xs.length - (i+1),Hz,Z,b,s],λv c T j y=>?_];obtain⟨e,y⟩:=y;subst e;obtain⟨w,rfl⟩:=rJ j;exact#[#[[δ _],Z,Z],o i v Y c (y xs g) p]
 .let e:i=xs.length:=by omega
  subst e;exact .inl #[#[xs,g,Im _],q Y h p]
theorem zX{K:Ω}{xs:List V}{t:TE}{Q:List V->Hp->Prop}(u:xs.length<=υ)(Pv:Nat->List V->Hp->Prop)(l:Pv 0 [] H)
  (n:∀i Y h,Pv i Y h->aC K h a xs/\Y.length<=i) (o:∀i x Y h,xs[i]?=δ x->Pv i Y h->t (δ x::d) h λy c=>Pv (i+1) (Y++[y]) c) (q:∀Y h,Pv xs.length Y h->Q Y h):
  eJ (uO K a) 1 d (bG 0) mv t Q H:=by
 refine#[λi m Y h=>m=xs.length - i/\i<=xs.length/\Pv i Y h,#[xs.length,Hy,Is _,l],?_];intro i m Y h f;obtain⟨rfl,z,p⟩:=f;obtain⟨g,A⟩:=n i Y h p;by_cases b:i < xs.length
 .refine .inr #[#[xs,xs[i],g,Ii b],Hz,Pv$ i+1,λr c s=>#[xs.length - (i+1),Hz,Z,b,s],λv c T j y=>?_];obtain⟨e,y⟩:=y;subst e;obtain⟨w,rfl⟩:=rJ j;exact#[#[[δ _],Z,Z],o i v Y c (y xs g) p]
 .let e:i=xs.length:=by omega
  subst e;exact .inl #[#[xs,g,Im _],q Y h p]
abbrev i':ey:=top 49
abbrev n9:ey:=top 51
inductive Tm where
 |num (n:Int) |var (x:π) |op (i:Nat) (a b:Tm)
def Tm.depth:Tm->Nat
 | .num _=>0
 | .var _=>0
 | .op _ a b=>max a.depth b.depth+1
def lD:π:="+-*/<="
theorem tU:lD.length=6:=by decide+kernel
def Gc(i:Nat):π:=#[(ι [lD.cps.toList.getD i 0])]
theorem Ci(H:0<=d)(a:d < 6):dC lD.cps.toList d=δ (lD.cps.toList.getD d.toNat 0):=by
 let b:lD.cps.toList.length=6:=by decide+kernel
 let h:d.toNat < lD.cps.toList.length:=by omega
 let e:d=((d.toNat:Nat):Int):=by omega
 let q:dC lD.cps.toList ((d.toNat:Nat):Int)=δ (lD.cps.toList.getD d.toNat 0):=jN (by rw[Mz,Ii h];rfl);rw[<- e]at q;exact q
def Tm.Good(y:List π):Tm->Prop
 | .num n=>0<=n/\n < 1000000000000000000
 | .var x=>x∈y
 | .op i a b=>i < 6/\a.Good y/\b.Good y
def aQ(H:Hp):Tm->ε->Prop
 | .num n,p=>H p=δ (.tup [.str "num",.int n])
 | .var x,p=>H p=δ (.tup [.str "var",.str x])
 | .op i a b,p=>∃q r,H p=δ (.tup [.str "op",.str (Gc i),.ref q,.ref r])/\aQ H a q/\aQ H b r
theorem aQ.mono{H a:Hp}(h:∀b x,H b=δ (.tup x)->a b=δ (.tup x)):∀{t:Tm} {p:ε},aQ H t p->aQ a t p
 | .num _,_,e=>h _ _ e
 | .var _,_,e=>h _ _ e
 | .op _ _ _,_,z=>by obtain⟨q,r,e,E,c⟩:=z;exact #[q,r,h _ _ e,aQ.mono h E,aQ.mono h c]
theorem aQ.same(h:af H a)(e:aQ H t p):aQ a t p:=e.mono λb x z=>h b _ z
theorem aQ.but(B:ar H p)(k:aA p H h)(e:aQ H t a):aQ h t a:=e.mono λb X z=>by obtain⟨x,y,_,_,_,d⟩:=B.ob;exact k b _ (jE z d (by intro q;cases q)) z
theorem aQ.new{H:Hp}{o:HO}(n:H r=ζ)(e:aQ H t a):aQ (aj H r o) t a:=e.mono λb x z=>ao z n
inductive gK(c:List V)(H:Hp)(Q:VK)(a:XK):Prop
 |mk(p:ε)(_:c=[.ref p])(_:ar H p)(_:∀(d:Int) (H':Hp),0<=d->d < 1000000000000000000->ar H' p->(∀b,b≠p->H' b=H b)->Q (.int d) H')
inductive cV(n:Nat)(b:List V)(H:Hp)(Q:VK)(a:XK):Prop
 |mk(p g:ε)(d:Int)(c:List π)(_:b=[.ref p,.ref g,.int d])(_:ar H p)(_:H g=δ (.lst (c.map HV)))(_:1<=c.length)(_:c.length<=20)(_:0<=d)(_:d < (n:Int))(_:∀(r:ε) (T:Tm) (H':Hp),aQ H' T r->(T.depth:Int)<=d->T.Good c->ar H' p->aA p H H'->Q (.ref r) H')
theorem qc{Y:List π}(B:ar H p)(h:H g=δ (.lst$ Y.map HV)):g≠p:=by
 obtain⟨x,y,_,_,_,b⟩:=B.ob;refine jE h b λz=>?_;injection z with z
 match Y,z with
 |a::r,z=>injection z with c _;cases c
theorem tK:am z2z z2z (ae i'):=bY
theorem ZZ(F:aK K "_law_number" "_law_number" i' f t)(C:Cl P w K mg base 1 I u z0z aW "_law_take"):ak P w K mg base aD 2 f t z2z gK:=by
 refine F.ok tK (λv H Q E h=>?_) (λx A o s H v Q E a h=>?_)
 .obtain⟨p,rfl,_⟩:=h;rfl
 obtain⟨p,rfl,B,q⟩:=h;refine#[_,(jd (jw (zc$ C.e a$ ja (pv 0)$ ja jf jb) (jg$ jo$ C.e a$ ja (pv 0)$ ja (jv qX jf jf) jb) jp)$ jg$ jo$ C.e a$ ja (pv 0)$ ja jf jb),?_];refine#[_,Z,p,4,Z,B,HA,HA,λL M y G m r=>#[Z,_,Z,?_]];refine bZ (λc=>?_) (λc=>?_)
 .refine#[_,Z,_,_,Z,Z,#[HA,HA,HA],p,_,Z,m,HA,HA,λD g d i j k=>?_];let z:=gM;exact q D g d Hz j λb n=>(k b n).trans (r b n)
 .refine#[_,Z,p,9,Z,m,HA,HA,λD g d i j k=>?_];exact q D g d Hz j λb n=>(k b n).trans (r b n)
theorem nC:am ["_law_box_here","_law_names_here","_law_deep","_law_kind","_law_one"] z10z (ae n9):=bY
theorem wo(F:aK K "_law_term" "_law_term" n9 f fd)(cF:Cl P w K mg base (n+2) f fd z10z (cV n) "_law_term")(S:Cl P w K mg base 1 fT f0 z0z aW "_law_take")(cN:Cl P w K mg base 2 fN f2 z2z gK "_law_number")(ml:mg "len"=ζ):ak P w K mg base aD (n+3) f fd z10z (cV$ n+1):=by
 refine F.ok nC ?_ λc0 A T s H vs Q E u h=>?_
 .rintro _ _ _ _ ⟨p,g,d,ys,rfl,_⟩;rfl
 obtain⟨p,g,d,ys,rfl,B,hg,v,x,h1,h2,q⟩:=h;refine#[_,(jd (jy 3 nC.nd$ S.e u.m$ ja (pv 0)$ ja jf jb)$ jd (jZ$ jw (PW.pt$ YR (jB Kq (pv 3) jf$ au _)$ Q0$ PW.pt$ Q1 (jB JW (pv 3) jf$ au _)$ Kf$ zc$ pv 2) (jg$ jo$ jh$ ja jj$ ja (cN.e u.m$ ja (pv 0) jb) jb) jp)$ jd (jw (jB Kq (pv 3) jf$ au _) (jg$ jo$ jh$ ja jj$ ja (js jr (pv 1) (S.e u.m$ ja (pv 0)$ ja (jS jL Z ml LI$ ja (pv 1) jb) jb) (λ_ _=>Z)) jb) jp)$ jd (jy 4 nC.nd$ cF.e u$ ja (pv 0)$ ja (pv 1)$ ja (jv kI (pv 2) jf) jb)$ jg$ jo$ jh$ ja jj$ ja (js KA jj (S.e u.m$ ja (pv 0)$ ja jf jb) (λ_ _=>Z))$ ja (pv 4)$ ja (cF.e u$ ja (pv 0)$ ja (pv 1)$ ja (jv kI (pv 2) jf) jb) jb),?_];let b0:=zI;let j:g≠p:=qc B hg;refine ah λF1 l=>#[_,Z,p,6,Z,B,HA,HA,λM O k0 k1 R e1=>l _ _ ?_];clear l;let k:O g=δ (.lst$ ys.map HV):=by rw[e1 g j];exact hg
 let U:aA p H O:=aA.of_eq e1;let num:∀(D:Int) (a:Hp) (r:ε),0<=D->D < 1000000000000000000->ar a p->(∀b,b≠p->a b=O b)->a r=ζ->Q (.ref r) (aj a r$ .tup [.str "num",.int D]):=λD a r C I i o N=>
  q r (.num D) _ jc (by show((0:Nat):Int)<=d;omega) #[C,I] (i.upd_new N) ((U.trans$ aA.of_eq o).upd_new N)
 refine ah λF1 l=>dE (λJ H'=>J=[δ$ .ref p,δ$ .ref g,δ$ .int d,δ$ .int M,ζ]/\H'=O/\(M<=3∨d≠0)) (λE2 eR fm=>?_) λJ H' W=>?_
 .clear l;refine nP λG' G=>#[_,Z,_,_,Z,Z,_,Z,?_];refine bZ (λc=>?_) (λc=>?_)
  .refine G _ _$ AU ?_;show iw _ E2 _ _;unfold iw;rw[eR];exact#[_,Z,p,Z,R,λD a C I i o=>#[bK,λr N=>num D a r C I i o N]]
  refine#[_,Z,_,_,Z,Z,_,Z,?_];refine bZ (λc2=>?_) (λc2=>?_)
  .refine#[_,Z,Z,_,Z,G _ _ ?_];refine bZ (λc3=>?_) (λc3=>?_)
   .show iw _ E2 _ _;unfold iw;rw[eR];exact#[_,Z,p,Z,R,λD a C I i o=>#[bK,λr N=>num D a r C I i o N]]
   .exact fm _ _ #[Z,Z,.inr λz=>c3 (by rw[z];rfl)]
  .let c1:¬(3:Int) < M:=NG (xm.mpr c2);exact G _ _$ vG$ fm _ _ #[Z,Z,.inl Hz]
 obtain⟨rfl,eH,hk⟩:=W;rw[eH];refine l _ _ ?_;clear l;refine ah λF1 l=>nP λG' G=>#[_,Z,_,_,Z,Z,_,Z,G _ _ ?_];clear G;refine bZ (λc=>?_) (λc=>l _ _ ?_)
 .-- a variable
  refine#[_,Z,_,Z,_,Z,g,_,Z,.inl$ aG.of k,p,_,Z,R,by rw[Ik];omega,by rw[Ik];omega,λD a X L i o=>?_];rw[Ik]at L;obtain⟨y,hy,Y⟩:=KC (ys:=ys) X L;let t:a g=δ (.lst$ ys.map HV):=by rw[o g j];exact k
  refine#[g,_,_,_,Z,Z,aG.of t,Y,bK,λr N=>?_];exact q r (.var y) _ jc (by show((0:Nat):Int)<=d;omega) hy (i.upd_new N) ((U.trans$ aA.of_eq o).upd_new N)
 .let c':¬M < (4:Int):=NG (xm.mpr c);let hd:d≠0:=hk.resolve_left Hz;refine#[_,Z,_,Z,_,Z,_,_,Z,Z,p,g,d - 1,ys,Z,R,k,v,x,Hz,Hz,λr1 T1 a t1 d3 g0 i k2=>?_];let t:a g=δ (.lst$ ys.map HV):=k2 g _ j k;refine#[_,Z,p,6,Z,i,HA,HA,λs3 H3 s0 s1 B3 e3=>?_];let h0:H3 g=δ (.lst$ ys.map HV):=by rw[e3 g j];exact t
  let k3:aA p a H3:=aA.of_eq e3;refine#[lD,_,_,Z,Z,(by rw[tU];omega),Ci s0 s1,?_];refine#[_,Z,_,Z,_,Z,_,Z,_,_,Z,Z,p,g,d - 1,ys,Z,B3,h0,v,x,Hz,Hz,λr2 T2 H4 t2 d4 g1 B4 k4=>?_];refine#[uf,λr N=>?_];let t0:aQ H4 T1 r1:=(t1.but i k3).but B3 k4;refine q r (.op s3.toNat T1 T2) _ #[r1,r2,jc,t0.new N,t2.new N] ?_ #[Hz,g0,g1] (B4.upd_new N) (((U.trans k2).trans$ k3.trans k4).upd_new N);show((max T1.depth T2.depth+1:Nat):Int)<=d;omega
theorem vP:ak P w K mg base aD 2 f e z10z (cV 0):=by
 let n:∀v H Q E,¬cV 0 v H Q E:=λv H Q E h=>by obtain⟨p,g,d,y,_,_,_,_,_,i,b,_⟩:=h;let c:d < ((0:Nat):Int):=b;omega
 exact#[λv H Q E h=>absurd h (n v H Q E),λA o s H a u v Q E _ _ _ _ h=>absurd h (n v H Q E)]
theorem y4(F:aK K "_law_term" "_law_term" n9 f a)(b:ay K a z10z [])(m:mg "_law_term"=δ (.ref f))(c:Cl P w K mg base 1 g d z0z aW "_law_take")(C:Cl P w K mg base 2 h e z2z gK "_law_number")(M:mg "len"=ζ):
  ∀n:Nat,ak P w K mg base aD (n+2) f a z10z (cV n)
 |0=>vP
 |n+1=>wo F #[(y4 F b m c C M n),b,F.kp,m] c C M
end _K
namespace _K
open PySem PySem.Spec PyProof.Rows _L
variable {P:ψ}{w:dg}{K:Ω}{mg:π->Option η}{base:fv}
def Tm.vars:Tm->List π
 | .num _=>[]
 | .var x=>[x]
 | .op _ a b=>a.vars++b.vars
theorem kB:∀{t:Tm},t.Good y->∀x∈t.vars,x∈y
 | .num _,_,_,h=>nomatch h
 | .var _,g,_,h=>by rw[ρ.mp h];exact g
 | .op _ _ _,g,_,h=>(γ.mp h).elim (kB g.2.1 _) (kB g.2.2 _)
theorem j6:∀{l m:List π},l.Nodup->(∀x∈l,x∈m)->l.length<=m.length
 | [],_,_,_=>Is _
 |x::l,m,n,h=>by rw[NC]at n;let H:=h x ID;let q:=j6 (l:=l) (m:=m.erase x) n.2 λy a=>(List.mem_erase_of_ne (λe=>n.1 (by rw[<- e];exact a))).mpr (h y$ IK _ a);rw[List.length_erase_of_mem H]at q;let:0 < m.length:=List.length_pos_of_mem H;rw[IL];omega
theorem K6:∀{l m:List π},l.Nodup->m.Nodup->(∀x,x∈l↔x∈m)->l.Perm m
 | [],[],_,_,_=>.nil
 | [],y::m,_,_,h=>absurd ((h y).mpr ID) Hy
 |x::l,m,n,N,h=>by
  rw[NC]at n;let a:x∈m:=(h x).mp ID;refine(List.Perm.cons x$ K6 n.2 (N.erase x) λy=>?_).trans (List.perm_cons_erase a).symm;rw[N.mem_erase_iff];constructor
  .intro H;exact#[λe=>n.1 (by rw[<- e];exact H),(h y).mp$ IK _ H]
  .rintro ⟨b,H⟩;exact(Δ.mp ((h y).mpr H)).resolve_left b
theorem QV:∀{p:π} {l:List π},risingS p l=μ->(p::l).Pairwise λa b=>a.cps.toList<=b.cps.toList
 |p,[],_=>by simp
 |p,x::r,h=>by
  let H:(!ltCps x.cps.toList p.cps.toList&&risingS x r)=μ:=h;rw[Ly]at H;let i:=QV H.2;let c:p.cps.toList<=x.cps.toList:=by let z:=H.1;rw[ltCps_eq]at z;simpa using z
  rw[List.pairwise_cons]at i ⊢;refine#[λy hy=>?_,List.pairwise_cons.mpr i];rcases Δ.mp hy with rfl |hy
  .exact c
  .exact RO c$ i.1 y hy
theorem QW(h:sortedS l=μ):l.Pairwise λa b=>a.cps.toList<=b.cps.toList:=by
 cases l with
 |nil=>exact .nil
 |cons x r=>exact QV h
theorem X5{l:List π}(p:l.Perm m)(h:sortedS l=μ)(H:sortedS m=μ):l=m:=by refine List.Perm.eq_of_pairwise (λa b _ _ x y=>?_) (QW h) (QW H) p;let e:=List.le_antisymm x y;cases a;cases b;exact LD Str.mk$ Array.toList_inj.mp e
inductive Lf where
 |rd (x:π) (t:ε) (T:Tm)
 |st (x:π) (t:ε) (T:Tm)
 |wr (t u:ε) (T U:Tm)
 |cl (x f:π) (q:ε) (ts:List (ε×Tm))
 |gv (t:ε) (T:Tm)
def uP(H:Hp):Lf->List V->Prop
 | .rd x t T,v=>v=[.str "read",.str x,.ref t]/\aQ H T t
 | .st x t T,v=>v=[.str "set",.str x,.ref t]/\aQ H T t
 | .wr t u T U,v=>v=[.str "write",.ref t,.ref u]/\aQ H T t/\aQ H U u
 | .cl x f q a,v=>v=[.str "call",.str x,.str f,.ref q]/\H q=δ (.tup (a.map λc=>HX c.1))/\∀c∈a,aQ H c.2 c.1
 | .gv t T,v=>v=[.str "give",.ref t]/\aQ H T t
theorem uP.mono(k:ai H a)(h:uP H l v):uP a l v:=by
 cases l with
 |rd x t T |st x t T |gv t T=>exact#[h.1,h.2.mono k]
 |wr t u T U=>exact#[h.1,h.2.1.mono k,h.2.2.mono k]
 |cl x f q d=>exact#[h.1,k _ _ h.2.1,λc b=>(h.2.2 c b).mono k]
inductive Bd where
 |nil
 |lf (p:ε) (l:Lf) (r:Bd)
 |ite (p t:ε) (T:Tm) (a b r:Bd)
 |loop (p t:ε) (T:Tm) (a r:Bd)
def Bd.app:Bd->Bd->Bd
 | .nil,s=>s
 | .lf p l r,s=>.lf p l (r.app s)
 | .ite p t T a b r,s=>.ite p t T a b (r.app s)
 | .loop p t T a r,s=>.loop p t T a (r.app s)
def Bd.size:Bd->Nat
 | .nil=>0
 | .lf _ _ r=>r.size+1
 | .ite _ _ _ a b r=>a.size+b.size+r.size+1
 | .loop _ _ _ a r=>a.size+r.size+1
def Bd.dep:Bd->Nat
 | .nil=>0
 | .lf _ _ r=>r.dep
 | .ite _ _ _ a b r=>max (max a.dep b.dep+1) r.dep
 | .loop _ _ _ a r=>max (a.dep+1) r.dep
def di(y:List π)(T:Tm):Prop:=T.Good y/\T.depth < 6
def Lf.Ok(y:List π):Lf->Prop
 | .rd x _ T=>x∈y/\di y T
 | .st x _ T=>x∈y/\di y T
 | .wr _ _ T U=>di y T/\di y U
 | .cl x _ _ t=>x∈y/\t.length<=6/\∀c∈t,di y c.2
 | .gv _ T=>di y T
def Bd.Ok(y:List π):Bd->Prop
 | .nil=>True
 | .lf _ l r=>l.Ok y/\r.Ok y
 | .ite _ _ T a b r=>di y T/\a.Ok y/\b.Ok y/\r.Ok y
 | .loop _ _ T a r=>di y T/\a.Ok y/\r.Ok y
abbrev eQ:=List (π×Nat)
def Lf.Cs(F:eQ):Lf->Prop
 | .cl _ f _ t=>(f,t.length)∈F
 |_=>True
def Bd.Cs(F:eQ):Bd->Prop
 | .nil=>True
 | .lf _ l r=>l.Cs F/\r.Cs F
 | .ite _ _ _ a b r=>a.Cs F/\b.Cs F/\r.Cs F
 | .loop _ _ _ a r=>a.Cs F/\r.Cs F
theorem KD{F:eQ}:∀{a b:Bd},a.Cs F->b.Cs F->(a.app b).Cs F
 | .nil,_,_,h=>h
 | .lf _ _ _,_,h,k=>#[h.1,KD h.2 k]
 | .ite _ _ _ _ _ _,_,h,k=>#[h.1,h.2.1,KD h.2.2 k]
 | .loop _ _ _ _ _,_,h,k=>#[h.1,KD h.2 k]
theorem kC{F:eQ}(k:∀f∈F,f∈G):∀{a:Bd},a.Cs F->a.Cs G
 | .nil,_=>trivial
 | .lf _ l _,h=>#[by cases l<;>first |exact k _ h.1 |trivial,kC k h.2]
 | .ite _ _ _ _ _ _,h=>#[kC k h.1,kC k h.2.1,kC k h.2.2]
 | .loop _ _ _ _ _,h=>#[kC k h.1,kC k h.2]
def Lf.calls:Lf->eQ
 | .cl _ f _ t=>[(f,t.length)]
 |_=>[]
def Bd.calls:Bd->eQ
 | .nil=>[]
 | .lf _ l r=>l.calls++r.calls
 | .ite _ _ _ a b r=>a.calls++(b.calls++r.calls)
 | .loop _ _ _ a r=>a.calls++r.calls
theorem zj:∀b:Bd,b.Cs b.calls
 | .nil=>trivial
 | .lf _ l r=>#[by cases l<;>first |exact sn _ rc |trivial,kC (λ_ h=>ly _ h) (zj r)]
 | .ite _ _ _ a b r=>#[kC (λ_ h=>sn _ h) (zj a),kC (λ_ h=>ly _ (sn _ h)) (zj b),kC (λ_ h=>ly _ (ly _ h)) (zj r)]
 | .loop _ _ _ a r=>#[kC (λ_ h=>sn _ h) (zj a),kC (λ_ h=>ly _ h) (zj r)]
theorem zK{F:eQ}:∀{b:Bd},b.Cs F->∀f∈b.calls,f∈F
 | .nil,_,_,h=>nomatch h
 | .lf _ l r,k,f,h=>(γ.mp h).elim (λh=>by cases l<;>first | (rw[ρ.mp h];exact k.1) |exact nomatch h) (zK k.2 f)
 | .ite _ _ _ a b r,k,f,h=>(γ.mp h).elim (zK k.1 f) λh=>(γ.mp h).elim (zK k.2.1 f) (zK k.2.2 f)
 | .loop _ _ _ a r,k,f,h=>(γ.mp h).elim (zK k.1 f) (zK k.2 f)
theorem jX:∀(a b:Bd),(a.app b).size=a.size+b.size
 | .nil,b=>by show b.size=0+b.size;omega
 | .lf _ _ r,b=>by let:=jX r b;show(r.app b).size+1=r.size+1+b.size;omega
 | .ite _ _ _ x y r,b=>by let:=jX r b;show x.size+y.size+(r.app b).size+1=x.size+y.size+r.size+1+b.size;omega
 | .loop _ _ _ x r,b=>by let:=jX r b;show x.size+(r.app b).size+1=x.size+r.size+1+b.size;omega
theorem zw:∀(a b:Bd),(a.app b).dep=max a.dep b.dep
 | .nil,b=>(Nat.zero_max b.dep).symm
 | .lf _ _ r,b=>zw r b
 | .ite _ _ _ x y r,b=>by show max _ (r.app b).dep=max (max _ r.dep) b.dep;rw[zw r b,RU]
 | .loop _ _ _ x r,b=>by show max _ (r.app b).dep=max (max _ r.dep) b.dep;rw[zw r b,RU]
theorem KE:∀{a b:Bd},a.Ok y->b.Ok y->(a.app b).Ok y
 | .nil,_,_,h=>h
 | .lf _ _ _,_,g,h=>#[g.1,KE g.2 h]
 | .ite _ _ _ _ _ _,_,g,h=>#[g.1,g.2.1,g.2.2.1,KE g.2.2.2 h]
 | .loop _ _ _ _ _,_,g,h=>#[g.1,g.2.1,KE g.2.2 h]
def c8(H:Hp):Bd->List V->Prop
 | .nil,x=>x=[]
 | .lf p l r,x=>∃v y,x= .ref p::y/\H p=δ (.tup v)/\uP H l v/\c8 H r y
 | .ite p t T a b r,x=>∃q Q A B y,x= .ref p::y/\H p=δ (.tup [.str "if",.ref t,.ref q,.ref Q])/\aQ H T t/\H q=δ (.tup A)/\H Q=δ (.tup B)/\c8 H a A/\c8 H b B/\c8 H r y
 | .loop p t T a r,x=>∃q A y,x= .ref p::y/\H p=δ (.tup [.str "while",.ref t,.ref q])/\aQ H T t/\H q=δ (.tup A)/\c8 H a A/\c8 H r y
theorem c8.mono(k:ai H m):∀{x:List V},c8 H a x->c8 m a x:=by
 induction a with
 |nil=>exactλh=>h
 |lf p l r n=>rintro x ⟨v,y,e,c,d,f⟩;exact#[v,y,e,k _ _ c,d.mono k,n f]
 |ite p t T a b r i o I=>rintro x ⟨q,Q,A,B,y,e,c,g,d,f,j,s,u⟩;exact#[q,Q,A,B,y,e,k _ _ c,g.mono k,k _ _ d,k _ _ f,i j,o s,I u]
 |loop p t T a r i I=>rintro x ⟨q,A,y,e,c,g,d,f,j⟩;exact#[q,A,y,e,k _ _ c,g.mono k,k _ _ d,i f,I j]
theorem c8.app(k:c8 H b y):∀{x:List V},c8 H a x->c8 H (a.app b) (x++y):=by
 induction a with
 |nil=>intro x h;let e:x=[]:=h;rw[e];exact k
 |lf p l r I=>rintro x ⟨v,z,e,c,d,f⟩;exact#[v,z++y,by rw[e];rfl,c,d,I f]
 |ite p t T a b r _ _ i=>rintro x ⟨q,Q,A,B,z,e,c,g,d,f,j,m,n⟩;exact#[q,Q,A,B,z++y,by rw[e];rfl,c,g,d,f,j,m,i n]
 |loop p t T a r _ i=>rintro x ⟨q,A,z,e,c,g,d,f,j⟩;exact#[q,A,z++y,by rw[e];rfl,c,g,d,f,i j]
theorem c8.len:∀{x:List V},c8 H a x->x.length<=a.size:=by
 induction a with
 |nil=>intro x h;let e:x=[]:=h;rw[e];exact Im 0
 |lf p l r I=>rintro x ⟨v,y,e,d,f,c⟩;rw[e];exact Lp (I c)
 |ite p t T a b r _ _ i=>rintro x ⟨q,Q,A,B,y,e,d,j,f,c,g,m,k⟩;rw[e];exact Lp (IB (i k) (Ry _ _))
 |loop p t T a r _ i=>rintro x ⟨q,A,y,e,d,j,f,c,g⟩;rw[e];exact Lp (IB (i g) (Ry _ _))
inductive gU(H:Hp):V->Bd->Prop
 |lf (p:ε) (l:Lf) (vs:List V) (h1:H p=δ (.tup vs)) (h2:uP H l vs):gU H (.ref p) (.lf p l .nil)
 |ite (p t:ε) (T:Tm) (a b:Bd) (qa qb:ε) (as bs:List V) (h1:H p=δ (.tup [.str "if",.ref t,.ref qa,.ref qb])) (h0:aQ H T t) (h2:H qa=δ (.tup as)) (h3:H qb=δ (.tup bs)) (h4:c8 H a as) (h5:c8 H b bs):gU H (.ref p) (.ite p t T a b .nil)
 |loop (p t:ε) (T:Tm) (a:Bd) (qa:ε) (as:List V) (h1:H p=δ (.tup [.str "while",.ref t,.ref qa])) (h0:aQ H T t) (h2:H qa=δ (.tup as)) (h3:c8 H a as):gU H (.ref p) (.loop p t T a .nil)
theorem gU.bd(h:gU H v s):c8 H s [v]:=by
 cases h with
 |lf p l V c d=>exact#[V,[],Z,c,d,Z]
 |ite p t T a b q Q A B c e d f g i=>exact#[q,Q,A,B,[],Z,c,e,d,f,g,i,Z]
 |loop p t T a q A c e d f=>exact#[q,A,[],Z,c,e,d,f,Z]
theorem gU.mono(k:ai H g)(h:gU H v s):gU g v s:=by
 cases h with
 |lf p l V c d=>exact .lf p l V (k _ _ c) (d.mono k)
 |ite p t T a b q Q A B c e d f i j=>exact .ite p t T a b q Q A B (k _ _ c) (e.mono k) (k _ _ d) (k _ _ f) (i.mono k) (j.mono k)
 |loop p t T a q A c e d f=>exact .loop p t T a q A (k _ _ c) (e.mono k) (k _ _ d) (f.mono k)
theorem c8.last:∀{x:List V},c8 H a x->x=[]/\a= .nil∨∃z v b s,x=z++[v]/\a=b.app s/\c8 H b z/\gU H v s:=by
 induction a with
 |nil=>exactλh=>.inl #[h,Z]
 |lf p l r i=>
  rintro x ⟨u,y,e,f,g,n⟩;rcases i n with ⟨E,d⟩ | ⟨z,v,b,s,E,d,j,k⟩
  .exact .inr #[[],.ref p,.nil,.lf p l .nil,by rw[e,E];rfl,by rw[d];rfl,Z,.lf p l u f g]
  .exact .inr #[.ref p::z,v,.lf p l b,s,by rw[e,E];rfl,by rw[d];rfl,#[u,z,Z,f,g,j],k]
 |ite p t T a b r _ _ i=>
  rintro x ⟨q,Q,A,B,y,e,f,m,g,n,G,C,o⟩;rcases i o with ⟨E,d⟩ | ⟨z,v,c,s,E,d,j,k⟩
  .exact .inr #[[],.ref p,.nil,.ite p t T a b .nil,by rw[e,E];rfl,by rw[d];rfl,Z,.ite p t T a b q Q A B f m g n G C]
  .exact .inr #[.ref p::z,v,.ite p t T a b c,s,by rw[e,E];rfl,by rw[d];rfl,#[q,Q,A,B,z,Z,f,m,g,n,G,C,j],k]
 |loop p t T a r _ i=>
  rintro x ⟨q,A,y,e,f,m,g,G,o⟩;rcases i o with ⟨E,d⟩ | ⟨z,v,c,s,E,d,j,k⟩
  .exact .inr #[[],.ref p,.nil,.loop p t T a .nil,by rw[e,E];rfl,by rw[d];rfl,Z,.loop p t T a q A f m g G]
  .exact .inr #[.ref p::z,v,.loop p t T a c,s,by rw[e,E];rfl,by rw[d];rfl,#[q,A,z,Z,f,m,g,G,j],k]
theorem zR:∀{a b:Bd},(a.app b).Ok y->a.Ok y/\b.Ok y
 | .nil,_,h=>#[trivial,h]
 | .lf _ _ _,_,h=>#[#[h.1,(zR h.2).1],(zR h.2).2]
 | .ite _ _ _ _ _ _,_,h=>#[#[h.1,h.2.1,h.2.2.1,(zR h.2.2.2).1],(zR h.2.2.2).2]
 | .loop _ _ _ _ _,_,h=>#[#[h.1,h.2.1,(zR h.2.2).1],(zR h.2.2).2]
structure Nm(ss:List π)(M:π->Prop):Prop where
 nd:ss.Nodup
 so:sortedS ss=μ
 mem:∀x,x∈ss↔M x
theorem Nm.uniq(h:Nm a M)(g:Nm s M):a=s:=X5 (K6 h.nd g.nd λx=>(h.mem x).trans (g.mem x).symm) h.so g.so
open Classical in
noncomputable def canon(M:π->Prop):List π:=if h:∃s,Nm s M then Classical.choose h else []
theorem Nm.canon(h:Nm s M):s=canon M:=by let e:∃s,Nm s M:=#[s,h];unfold _K.canon;rw[dif_pos e];exact h.uniq$ OE e
theorem Nm.len{s y:List π}{M:π->Prop}(h:Nm s M)(H:∀x,M x->x∈y):s.length<=y.length:=j6 h.nd λx a=>H x ((h.mem x).mp a)
def Lf.use(M:π->Prop):Lf->π->Prop
 | .rd x _ T,y=>(M y/\y≠x)∨y∈T.vars
 | .st x _ T,y=>(M y/\y≠x)∨y∈T.vars
 | .wr _ _ T U,y=>M y∨y∈T.vars∨y∈U.vars
 | .cl x _ _ t,y=>(M y/\y≠x)∨∃c∈t,y∈c.2.vars
 | .gv _ T,y=>y∈T.vars
def Bd.use:Bd->(π->Prop)->π->Prop
 | .nil,M=>M
 | .lf _ l r,M=>l.use (r.use M)
 | .ite _ _ T a b r,M=>λy=>(a.use (r.use M) y∨b.use (r.use M) y)∨y∈T.vars
 | .loop _ _ T a r,M=>λy=>(a.use (λ_=>False) y∨r.use M y)∨y∈T.vars
theorem Ki:∀(a b:Bd) (M:π->Prop),(a.app b).use M=a.use (b.use M)
 | .nil,_,_=>rfl
 | .lf _ l r,b,M=>by show l.use ((r.app b).use M)=l.use (r.use (b.use M));rw[Ki r b M]
 | .ite _ _ T x y r,b,M=>by show(λz=>(x.use ((r.app b).use M) z∨y.use ((r.app b).use M) z)∨z∈T.vars)=λz=>(x.use (r.use (b.use M)) z∨y.use (r.use (b.use M)) z)∨z∈T.vars;rw[Ki r b M]
 | .loop _ _ T x r,b,M=>by show(λz=>(x.use (λ_=>False) z∨(r.app b).use M z)∨z∈T.vars)=λz=>(x.use (λ_=>False) z∨r.use (b.use M) z)∨z∈T.vars;rw[Ki r b M]
theorem Lf.use_in{M:π->Prop}{l:Lf}(h:l.Ok Y)(a:∀x,M x->x∈Y):∀y,l.use M y->y∈Y:=by
 intro y H;cases l with
 |rd x t T |st x t T=>exact H.elim (λz=>a y z.1) (kB h.2.1 y)
 |wr t u T U=>exact H.elim (a y) λz=>z.elim (kB h.1.1 y) (kB h.2.1 y)
 |cl x f q d=>exact H.elim (λz=>a y z.1) λ#[c,b,z]=>kB (h.2.2 c b).1 y z
 |gv t T=>exact kB h.1 y H
theorem Bd.use_in:∀{b:Bd} {M:π->Prop},b.Ok Y->(∀x,M x->x∈Y)->∀y,b.use M y->y∈Y
 | .nil,_,_,H,y,c=>H y c
 | .lf _ l r,_,h,H,y,c=>Lf.use_in h.1 (Bd.use_in h.2 H) y c
 | .ite _ _ T a b r,_,h,H,y,c=>c.elim (λz=>z.elim (Bd.use_in h.2.1 (Bd.use_in h.2.2.2 H) y) (Bd.use_in h.2.2.1 (Bd.use_in h.2.2.2 H) y)) (kB h.1.1 y)
 | .loop _ _ T a r,_,h,H,y,c=>c.elim (λz=>z.elim (Bd.use_in h.2.1 (λ_ w=>w.elim) y) (Bd.use_in h.2.2 H y)) (kB h.1.1 y)
end _K
namespace _K
open PySem PySem.Spec PyProof.Rows _L
variable {P:ψ}{w:dg}{K:Ω}{mg:π->Option η}{base:fv}
abbrev eh:ey:=top 4
abbrev BU:ey:=top 31
abbrev tw:ey:=top 32
abbrev xg:ey:=top 33
abbrev xf:ey:=top 34
inductive dm(n:Nat)(c:List V)(H:Hp)(Q:VK)(b:XK):Prop
 |mk(a:ε)(T:Tm)(d:List π)(_:c=[.ref a])(_:aQ H T a)(_:T.depth < n)(_:T.Good d)(_:d.length<=21)(_:∀(r:ε) (ss:List π) (H':Hp),H r=ζ->H' r=δ (.lst (ss.map HV))->ss.Nodup->(∀x,x∈ss↔x∈T.vars)->sortedS ss=μ->af H H'->Q (.ref r) H')
theorem tJ:am z1z z1z (ae eh):=bY
theorem wb{f:ε}{o:bm}(F:aK K "names_in" "names_in" eh f o){n:Nat}(C:Cl P w K mg base (n+1) f o z1z (dm n) "names_in")(M:mg "set"=ζ)(p:mg "sorted"=ζ):ak P w K mg base aD (n+2) f o z1z (dm$ n+1):=by
 refine F.ok tJ (λvs H Q E h=>?_) (λc0 A O s H vs Q E v h=>?_)
 .obtain⟨a,T,Y,rfl,_⟩:=h;rfl
 obtain⟨a,T,Y,rfl,t,dp,g,j,q⟩:=h;refine#[_,(jd (jw (jW$ jx$ pv 0) (jg$ jo$ jG jb) jp)$ jd (jw (jW$ jx$ pv 0) (jg$ jo$ jG$ ja (jx$ pv 0) jb) jp)$ jg$ jo$ jS (ql Z) Z p OR$ ja (jC (Jf Z) Z M SU$ ja (jv qZ (C.e v$ ja (jx$ pv 0) jb)$ C.e v$ ja (jx$ pv 0) jb) jb) jb),?_];cases T with
 |num m=>have b:H a=δ (.tup [.str "num",.int m]):=t;refine(jq b Z #[Z,_,Z,bH Hw ?_]);exact#[HA,λr N=>q r [] _ N jc NN (λx=>OD) Z (je N)]
 |var x=>have b:H a=δ (.tup [.str "var",.str x]):=t;refine(jq b Z #[Z,_,Z,aH Hw ?_]);refine(jq b Z #[Z,_,Z,bH Hw ?_]);exact(jq b Z #[gZ,λr N=>q r [x] _ N jc Hy (λy=>OD) Z (je N)])
 |op i B D=>obtain⟨p1,p2,b,h1,h2⟩:=t;let d0:max B.depth D.depth+1 < n+1:=dp;refine(jq b Z #[Z,_,Z,aH Hw ?_]);refine(jq b Z #[Z,_,Z,aH Hw ?_]);refine(jq b Z #[p1,B,Y,Z,h1,Hz,g.2.1,j,λr1 S H1 n1 e1 d1 G o1 u=>?_]);refine(jq (u _ _ b) Z #[p2,D,Y,Z,h2.same u,Hz,g.2.2,j,λr2 k H2 n2 e2 d2 I o2 J=>?_]);let l1:S.length<=21:=IB (j6 d1 λx d=>kB g.2.1 x ((G x).mp d)) j;let l2:k.length<=21:=IB (j6 d2 λx d=>kB g.2.2 x ((I x).mp d)) j;let b0:=zI;refine#[r1,r2,_,_,Z,Z,J _ _ e1,e2,(by rw[Ik,Ik];omega),λc nc=>?_];refine#[c,S++k,Z,aG.of (by rw[jc,IN]),(λL nd hs=>LP (Lp$ j6 nd hs) (by rw[Io];show S.length+k.length+1 < 4096;omega)),λl L nl dL R=>?_];let lL:=j6 dL λx d=>(R x).mp d;rw[Io]at lL;refine#[l,L,Z,jc,Hz,λz ss U W dz oz=>?_];let X:af H (aj (aj H2 c$ .lst$ S.map HV++k.map HV) l$ EW P w l L):=(u.trans J).trans ((je nc).trans$ je nl);refine q z ss _ (X.free U) jc (W.nodup_iff.mpr dz) (λx=>?_) oz$ X.trans$ je U;rw[W.mem_iff,R x,MM,G x,I x];exact γ.symm
theorem vO:ak P w K mg base aD 1 f d z1z (dm 0):=by
 let n:∀v H Q E,¬dm 0 v H Q E:=λv H Q E h=>by obtain⟨a,T,y,_,_,c,_⟩:=h;exact absurd c$ MN _
 exact#[λv H Q E h=>absurd h (n v H Q E),λA o s H b u v Q E _ _ _ _ h=>absurd h (n v H Q E)]
theorem yD(F:aK K "names_in" "names_in" eh f a)(b:ay K a z1z [])(c:mg "names_in"=δ (.ref f))(m:mg "set"=ζ)(M:mg "sorted"=ζ):
  ∀n:Nat,ak P w K mg base aD (n+1) f a z1z (dm n)
 |0=>vO
 |n+1=>wb F #[(yD F b c m M n),b,F.kp,c] m M
def Lf.own:Lf->List (ε×Tm)
 | .rd _ t T=>[(t,T)]
 | .st _ t T=>[(t,T)]
 | .wr t u T U=>[(t,T),(u,U)]
 | .cl _ _ _ a=>a
 | .gv t T=>[(t,T)]
def Bd.own:Bd->List (ε×Tm)
 | .nil=>[]
 | .lf _ l _=>l.own
 | .ite _ t T _ _ _=>[(t,T)]
 | .loop _ t T _ _=>[(t,T)]
def rT(c:ε×Tm):V:=.ref c.1
inductive mq(b:List V)(H:Hp)(Q:VK)(a:XK):Prop
 |mk(v:V)(s:Bd)(_:b=[v])(_:gU H v s)(_:∀(r:ε) (H':Hp),H' r=δ (.tup (s.own.map rT))->af H H'->Q (.ref r) H')
theorem Y8:aX (a::b::r) (δ 1) (δ 2)=[b]:=by
 unfold aX;let e:(1:Int)=((1:Nat):Int):=rfl;let E:(2:Int)=((2:Nat):Int):=rfl;rw[E,e,HT.sIx_nat,HT.sIx_nat,IL,IL];let c:min 1 (r.length+1+1)=1:=by omega
 let d:min 2 (r.length+1+1) - 1=1:=by omega
 rw[c,d];rfl
theorem yR:am ["statement","word"] z5z (ae BU):=bY
theorem Bq{f:ε}{j:bm}(F:aK K "own_terms" "own_terms" BU f j):ak P w K mg base aD 1 f j z5z mq:=by
 refine F.ok yR ?_ λC A o s H V Q E d h=>?_
 .rintro _ _ _ _ ⟨v,s,rfl,_⟩;rfl
 obtain⟨v,st,rfl,m,q⟩:=h;refine#[_,(jd (jy 1 yR.nd$ jx$ pv 0)$ jd (jw (jB zB (pv 1) (jh$ ja jj$ ja jj jb) Z) (jg$ jo$ jK qd (pv 0) (jI jf) kL) jp)$ jd (jw (jW$ pv 1) (jg$ jo$ jK qd (pv 0) (jI jf) kL) jp)$ jd (jw (jW$ pv 1) (jg$ jo$ jx$ pv 0) jp)$ jg$ jo$ jK qd (pv 0) (jI jf)$ jI jf),?_];cases m with
 |lf p l V c g=>
  cases l with
  |rd x t T |st x t T=>obtain⟨rfl,i⟩:=g;refine(jq c Z #[_,Z,bK,λl n=>#[l,_,Z,.inr$ aC.of jc,Z,Z,_,Z,bH Hw ?_]]);exact#[_,Z,_,Z,p,_,Z,ao c n,λr e d s=>q r e d ((je n).trans s)]
  |wr t u T U=>obtain⟨rfl,i,L⟩:=g;refine(jq c Z #[_,Z,bK,λl n=>#[l,_,Z,.inr$ aC.of jc,Z,Z,_,Z,aH Hw ?_]]);refine#[_,Z,Z,_,Z,bH Hw ?_];exact#[_,Z,_,Z,p,_,Z,ao c n,λr e d s=>q r e d ((je n).trans s)]
  |cl x M y N=>obtain⟨rfl,z,i⟩:=g;refine(jq c Z #[_,Z,bK,λl n=>#[l,_,Z,.inr$ aC.of jc,Z,Z,_,Z,aH Hw ?_]]);refine#[_,Z,Z,_,Z,aH Hw ?_];refine#[_,Z,Z,_,Z,bH Hw ?_];exact(jq (ao c n) Z$ q y _ (ao z n)$ je n)
  |gv t T=>obtain⟨rfl,i⟩:=g;refine(jq c Z #[_,Z,bK,λl n=>#[l,_,Z,.inr$ aC.of jc,Z,Z,_,Z,aH Hw ?_]]);refine#[_,Z,Z,_,Z,aH Hw ?_];refine#[_,Z,Z,_,Z,aH Hw ?_];exact#[_,Z,_,Z,_,Z,p,_,Z,ao c n,λr e d s=>q r e (by rw[Y8]at d;exact d) ((je n).trans s)]
 |ite p t T a b B O D R c G g I S W |loop p t T a B D c G g I=>refine(jq c Z #[_,Z,bK,λl n=>#[l,_,Z,.inr$ aC.of jc,Z,Z,_,Z,aH Hw ?_]]);refine#[_,Z,Z,_,Z,aH Hw ?_];refine#[_,Z,Z,_,Z,aH Hw ?_];exact#[_,Z,_,Z,_,Z,p,_,Z,ao c n,λr e d s=>q r e (by rw[Y8]at d;exact d) ((je n).trans s)]
theorem K7{K:Ω}{a:ε}{Y:List π}{t:TT}{T:TE}{q:List V->Hp->Prop}{b:_L.St}{H:Hp}(f:π->Bool)(L:Y.length<=1000)(A:H a=δ (.lst$ Y.map HV))
  (B:∀y g (Q:Bool->Hp->Prop),y∈Y->af H g->(∀j,af g j->Q (f y) j)->t (δ (.str y)::b) g Q)
  (C:∀y g (Q:VK),y∈Y->Q (.str y) g->T (δ (.str y)::b) g Q) (D:∀c,af H c->q ((Y.filter f).map HV) c):eJ (yd K a) 1 b (bG 0) t T q H:=by
 let F:=zI;refine#[λi m n c=>m=Y.length - i/\i<=Y.length/\n=((Y.take i).filter f).map HV/\af H c,#[Y.length,Hy,Is _,Hy,af.refl H],?_];rintro i m n c ⟨rfl,M,rfl,k⟩;let d:aG K c a (Y.map HV):=aG.of (k _ _ A);by_cases h:i < Y.length
 .let o:(Y.map HV)[i]?=δ (.str Y[i]):=by rw[Iv,Ii h];rfl
  refine .inr #[#[_,_,d,o],?_,λz j=>z=((Y.take$ i+1).filter f).map HV/\af H j,λz j #[G,I]=>#[Y.length - (i+1),Hz,Z,h,G,I],λv j N l y=>?_]
  .rw[Ik];let:=NJ f (Y.take i);rw[IU]at this;omega
  obtain⟨e,y⟩:=y;subst e;let p:=y _ d;rw[o]at p;cases p;obtain⟨w,rfl⟩:=rJ l;let r:Y[i]∈Y:=ME h;let s:Y.take (i+1)=Y.take i++[Y[i]]:=by rw[Mj,Ii h];rfl
  refine#[#[[δ _],Z,Z],B Y[i] _ _ r k λJ u=>?_];cases x:f Y[i] with
  |true=>
   refine bH Z$ C Y[i] J _ r #[?_,k.trans u];rw[s,Py,IN];let E:[Y[i]].filter f=[Y[i]]:=by simp [x]
   rw[E];rfl
  |false=>
   refine aH Z #[?_,k.trans u];rw[s,Py,IN];let E:[Y[i]].filter f=[]:=by simp [x]
   rw[E];simp
 .let e:i=Y.length:=by omega
  subst e;refine .inl #[#[_,d,Hy],?_];rw[Lx$ Im _];exact D c k
def Lf.bt(M:π->Prop):Lf->π->Prop
 | .rd x _ _,y=>M y/\y≠x
 | .st x _ _,y=>M y/\y≠x
 | .wr _ _ _ _,y=>M y
 | .cl x _ _ _,y=>M y/\y≠x
 | .gv _ _,_=>False
def Bd.bt(M:π->Prop):Bd->π->Prop
 | .nil,y=>M y
 | .lf _ l _,y=>l.bt M y
 | .ite _ _ _ a b _,y=>a.use M y∨b.use M y
 | .loop _ _ _ a _,y=>a.use (λ_=>False) y∨M y
theorem uF(h:gU H v s)(M:π->Prop)(y:π):s.use M y↔s.bt M y∨∃c∈s.own,y∈c.2.vars:=by
 cases h with
 |lf p l V _ _=>
  cases l with
  |rd x t T |st x t T=>exact#[λz=>z.elim .inl λw=>.inr #[_,ρ.mpr Z,w],λz=>z.elim .inl λ#[c,hc,w]=>.inr (by rw[ρ.mp hc]at w;exact w)]
  |wr t u T U=>
   refine#[λz=>z.elim .inl λw=>.inr (w.elim (λw=>#[_,ID ..,w]) λw=>#[_,IK _$ ρ.mpr Z,w]),λz=>z.elim .inl λ#[c,hc,w]=>.inr ?_];rcases Δ.mp hc with e |hc
   .rw[e]at w;exact .inl w
   .rw[ρ.mp hc]at w;exact .inr w
  |cl x f q d=>exact OD
  |gv t T=>exact#[λw=>.inr #[_,ρ.mpr Z,w],λz=>z.elim False.elim λ#[c,hc,w]=>by rw[ρ.mp hc]at w;exact w]
 |ite p t T a b Q g A B _ _ _ _ _ _ |loop p t T a Q A _ _ _ _=>exact#[λz=>z.elim .inl λw=>.inr #[_,ρ.mpr Z,w],λz=>z.elim .inl λ#[c,hc,w]=>.inr (by rw[ρ.mp hc]at w;exact w)]
structure NL(H:Hp)(g:ε)(ss:List π)(M:π->Prop)(ys:List π):Prop where
 at':H g=δ (.lst$ ss.map HV)
 nm:Nm ss M
 sub:∀x,M x->x∈ys
 y20:ys.length<=21
theorem NL.len{H:Hp}{g:ε}{s:List π}{M:π->Prop}{y:List π}(h:NL H g s M y):s.length<=21:=IB (h.nm.len h.sub) h.y20
theorem NL.same(h:NL H g a M y)(s:af H b):NL b g a M y:=#[s _ _ h.at',h.nm,h.sub,h.y20]
structure NU(H:Hp)(g:ε)(ss:List π)(M:π->Prop)(ys:List π):Prop where
 at':H g=δ (.lst$ ss.map HV)
 nd:ss.Nodup
 mem:∀x,x∈ss↔M x
 sub:∀x,M x->x∈ys
 y20:ys.length<=21
theorem NL.nu(h:NL H g s M y):NU H g s M y:=#[h.at',h.nm.nd,h.nm.mem,h.sub,h.y20]
inductive tY(n:Nat)(c:List V)(H:Hp)(Q:VK)(a:XK):Prop
 |mk(v:V)(g:ε)(s:Bd)(b:List π)(M:π->Prop)(d:List π)(_:c=[v,.ref g])(_:gU H v s)(_:NL H g b M d)(_:s.Ok d)(_:s.dep < n+1)(_:s.size<=10000000)(_:∀(r:ε) (zs:List π) (H':Hp),H' r=δ (.lst (zs.map HV))->(∀y,y∈zs↔s.bt M y)->zs.length<=50->af H H'->Q (.ref r) H')
inductive gi(n:Nat)(c:List V)(H:Hp)(Q:VK)(a:XK):Prop
 |mk(v:V)(g:ε)(s:Bd)(b:List π)(M:π->Prop)(d:List π)(_:c=[v,.ref g])(_:gU H v s)(_:NL H g b M d)(_:s.Ok d)(_:s.dep < n+1)(_:s.size<=10000000)(_:∀(r:ε) (zs:List π) (H':Hp),H r=ζ->NL H' r zs (s.use M) d->af H H'->Q (.ref r) H')
inductive iu(n:Nat)(e:List V)(H:Hp)(Q:VK)(c:XK):Prop
 |mk(a g:ε)(b:Bd)(f:List V)(d:List π)(M:π->Prop)(h:List π)(_:e=[.ref a,.ref g])(_:H a=δ (.tup f))(_:c8 H b f)(_:NU H g d M h)(_:b.Ok h)(_:b.dep < n)(_:b.size<=10000000)(_:∀(r:ε) (zs:List π) (H':Hp),H r=ζ->NL H' r zs (b.use M) h->af H H'->Q (.ref r) H')
theorem Nm.empty:Nm [] (λ_=>False):=#[NN,Z,λx=>#[λh=>absurd h IF,False.elim]]
theorem yU:am ["statement","behind","word"] z3z (ae tw):=bY
def tR:sB:=#[.function,[(".0",.local),("name",.local),("statement",.free)],ν,ν,[]]
theorem DG:(["name","statement"]:List π).Nodup:=by decide+kernel
theorem De:bp ["statement","behind","word"] (ae tw) tR ["name","statement"] 1 [0]:=pk
theorem sh{L n:Nat}(F:aK K "used_behind_terms" "used_behind_terms" tw f fd)(J:Cl P w K mg base L fA f0 z16z (iu n) "used_ahead"):ak P w K mg base aD (L+1) f fd z3z (tY n):=by
 refine F.ok yU ?_ λc0 A O s H vs Q E R h=>?_
 .rintro _ _ _ _ ⟨v,g,s,G,M,Y,rfl,_⟩;rfl
 obtain⟨v,g,st,G,M,Y,rfl,hs,c,W,hd,hz,q⟩:=h;refine#[_,(jd (jy 2 yU.nd$ jx$ pv 0)$ jd (jw (jB zB (pv 2) (jh$ ja jj$ ja jj$ ja jj jb) Z) (jg$ jo$ @zg _ _ _ _ _ _ _ (["name","statement"]) (1) ([0]) _ _ _ _ Z (Jl$ pv 1) De (λ_ _ _ _ _=>(ju (i:=0) DG Z$ ω Z)) (λ_ _ _ _ _=>(@sy _ _ _$ jB JV (pv 0) (js (r:=eS K) j7 (pv 1) jf (λ_ _=>Z))$ au _)) (λ_ _ _ _ _=>(pv 0)) (by intro _;rfl)) jp)$ jd (jw (jW$ pv 2) (jg$ jo$ jv qZ (J.e R.m$ ja (jx$ pv 0)$ ja (pv 1) jb)$ J.e R.m$ ja (jx$ pv 0)$ ja (pv 1) jb) jp)$ jd (jw (jW$ pv 2) (jg$ jo$ jv qZ (J.e R.m$ ja (jx$ pv 0)$ ja (jG jb) jb)$ pv 1) jp)$ jd (jw (jW$ pv 2) (jg$ jo$ jG jb) jp)$ jg$ jo$ pv 1),?_];let g0:=c.len;cases hs with
 |lf p l vs d B=>
  cases l with
  |rd x t T |st x t T=>
   obtain⟨rfl,X⟩:=B;refine(jq d Z #[_,Z,eA,λl N=>#[l,_,Z,.inr$ aC.of jc,Z,Z,_,Z,bH Hw ?_]]);let S:af H (aj H l$ .tup [.str "set",.str "read",.str "call"]):=je N;refine#[_,Z,g,Z,#[_,aG.of$ S _ _ c.at'],K7 (λy=>!decide (HV y=HV x)) Hz (S _ _ c.at') (λy I Q' hy k C=>?_) (λy I Q' hy C=>#[_,Z,C]) λH' k r j=>?_]
   .exact#[_,Z,jq (k _ _$ S _ _ d) Z #[Z,_,Z,C _$ af.refl _]]
   .refine q r _ _ jc (λy=>?_) (IB (NJ ..) Hz) ((S.trans k).trans$ je j);rw[Rr,c.nm.mem y];exact and_congr_right λ_=>by simp
  |wr t u T U=>obtain⟨rfl,X,hU⟩:=B;refine(jq d Z #[_,Z,eA,λl N=>#[l,_,Z,.inr$ aC.of jc,Z,Z,_,Z,aH Hw ?_]]);refine#[_,Z,Z,_,Z,aH Hw ?_];refine#[_,Z,Z,_,Z,aH Hw ?_];refine#[_,Z,Z,_,Z,aH Hw ?_];exact#[_,Z,q g G _ (ao c.at' N) c.nm.mem Hz$ je N]
  |cl x f' q' ts=>
   obtain⟨rfl,h8,X⟩:=B;refine(jq d Z #[_,Z,eA,λl N=>#[l,_,Z,.inr$ aC.of jc,Z,Z,_,Z,bH Hw ?_]]);let S:af H (aj H l$ .tup [.str "set",.str "read",.str "call"]):=je N;refine#[_,Z,g,Z,#[_,aG.of$ S _ _ c.at'],K7 (λy=>!decide (HV y=HV x)) Hz (S _ _ c.at') (λy I Q' hy k C=>?_) (λy I Q' hy C=>#[_,Z,C]) λH' k r j=>?_]
   .exact#[_,Z,jq (k _ _$ S _ _ d) Z #[Z,_,Z,C _$ af.refl _]]
   .refine q r _ _ jc (λy=>?_) (IB (NJ ..) Hz) ((S.trans k).trans$ je j);rw[Rr,c.nm.mem y];exact and_congr_right λ_=>by simp
  |gv t T=>obtain⟨rfl,X⟩:=B;refine(jq d Z #[_,Z,eA,λl N=>#[l,_,Z,.inr$ aC.of jc,Z,Z,_,Z,aH Hw ?_]]);refine#[_,Z,Z,_,Z,aH Hw ?_];refine#[_,Z,Z,_,Z,aH Hw ?_];refine#[_,Z,Z,_,Z,bH Hw ?_];exact#[pf,λr j=>q r [] _ jc (λy=>#[λh=>absurd h IF,λh=>(show False from h).elim]) (Is _) ((je N).trans$ je j)]
 |ite p t T a b qa qb as bs d h0 B h3 h4 h5=>refine(jq d Z #[_,Z,eA,λl N=>#[l,_,Z,.inr$ aC.of jc,Z,Z,_,Z,aH Hw ?_]]);refine#[_,Z,Z,_,Z,bH Hw ?_];let S:af H (aj H l$ .tup [.str "set",.str "read",.str "call"]):=je N;let h6:max (max a.dep b.dep+1) 0 < n+1:=hd;let h7:a.size+b.size+0+1<=10000000:=hz;refine(jq (S _ _ d) Z #[_,Z,qa,g,a,as,G,M,Y,Z,S _ _ B,h4.mono$ af.tm S,(c.same S).nu,W.2.1,Hz,Hz,λr1 z1 I _ D k1=>?_]);let z:=S.trans k1;refine(jq (z _ _ d) Z #[_,Z,qb,g,b,bs,G,M,Y,Z,z _ _ h3,h5.mono$ af.tm z,(c.same z).nu,W.2.2.1,Hz,Hz,λr2 z2 H2 _ n2 k2=>?_]);let l1:=D.len;let l2:=n2.len;let b0:=zI;refine#[r1,r2,_,_,Z,Z,k2 _ _ D.at',n2.at',by rw[Ik,Ik];omega,λr j=>q r (z1++z2) _ (by rw[jc,IN]) (λy=>?_) (by rw[Io];omega) ((z.trans k2).trans$ je j)];rw[MM,D.nm.mem y,n2.nm.mem y];exact OD
 |loop p t T a qa as d h0 B h3=>refine(jq d Z #[_,Z,eA,λl N=>#[l,_,Z,.inr$ aC.of jc,Z,Z,_,Z,aH Hw ?_]]);refine#[_,Z,Z,_,Z,aH Hw ?_];refine#[_,Z,Z,_,Z,bH Hw ?_];let S:af H (aj H l$ .tup [.str "set",.str "read",.str "call"]):=je N;let h6:max (a.dep+1) 0 < n+1:=hd;let h7:a.size+0+1<=10000000:=hz;refine(jq (S _ _ d) Z #[pf,λe ne=>?_]);let z:=S.trans (je (o:=.lst []) ne);refine#[qa,e,a,as,[],λ_=>False,Y,Z,z _ _ B,h3.mono$ af.tm z,(NL.nu #[jc,Nm.empty,λ_ w=>w.elim,c.y20]),W.2.1,Hz,Hz,λr1 z1 I _ D k1=>?_];let l1:=D.len;let s3:=z.trans k1;let b0:=zI;refine#[_,Z,r1,g,_,_,Z,Z,D.at',s3 _ _ c.at',by rw[Ik,Ik];omega,λr j=>q r (z1++G) _ (by rw[jc,IN]) (λy=>?_) (by rw[Io];omega) (s3.trans$ je j)];rw[MM,D.nm.mem y,c.nm.mem y];exact OD
theorem Bz(h:gU H v s):∀c∈s.own,aQ H c.2 c.1:=by
 cases h with
 |lf p l V _ d=>
  cases l with
  |rd x t T |st x t T |gv t T=>intro c hc;rw[ρ.mp hc];exact d.2
  |wr t u T U=>
   intro c hc;rcases Δ.mp hc with e |hc
   .rw[e];exact d.2.1
   .rw[ρ.mp hc];exact d.2.2
  |cl x f q i=>exact d.2.2
 |ite p t T a b Q j A B _ g _ _ _ _ |loop p t T a Q A _ g _ _=>intro c hc;rw[ρ.mp hc];exact g
theorem BA(h:gU H v s)(o:s.Ok y):s.own.length<=100/\∀c∈s.own,di y c.2:=by
 let O:∀(t:ε) (T:Tm),di y T->[(t,T)].length<=100/\∀c∈[(t,T)],di y c.2:=λt T h=>#[by show 1<=100;omega,λc hc=>by rw[ρ.mp hc];exact h];cases h with
 |lf p l V _ g=>
  cases l with
  |rd x t T |st x t T=>exact O t T o.1.2
  |wr t u T U=>
   refine#[by show 2<=100;omega,λc hc=>?_];rcases Δ.mp hc with e |hc
   .rw[e];exact o.1.1
   .rw[ρ.mp hc];exact o.1.2
  |cl x f q i=>exact#[IB o.1.2.1 HA,o.1.2.2]
  |gv t T=>exact O t T o.1
 |ite p t T a b Q j A B _ d _ _ _ _ |loop p t T a Q A _ d _ _=>exact O t T o.1
theorem zY:∀(a b c:Bd),(a.app b).app c=a.app (b.app c)
 | .nil,_,_=>rfl
 | .lf p l r,b,c=>by show Bd.lf p l ((r.app b).app c)=_;rw[zY r b c];rfl
 | .ite p t T x y r,b,c=>by show Bd.ite p t T x y ((r.app b).app c)=_;rw[zY r b c];rfl
 | .loop p t T x r,b,c=>by show Bd.loop p t T x ((r.app b).app c)=_;rw[zY r b c];rfl
theorem qJ:∀(a:Bd),a.app .nil=a
 | .nil=>rfl
 | .lf p l r=>by show Bd.lf p l (r.app .nil)=_;rw[qJ r]
 | .ite p t T x y r=>by show Bd.ite p t T x y (r.app .nil)=_;rw[qJ r]
 | .loop p t T x r=>by show Bd.loop p t T x (r.app .nil)=_;rw[qJ r]
inductive OI(v:V)(g r k:ε)(s:Bd)(M:π->Prop)(b:Hp)(i:Nat)(n:_L.St)(a:Hp):Prop
 |mk(l:Option V)(m:List π)(d:n=[δ v,δ (.ref g),δ (.ref k),l])(e:a k=δ (.lst (m.map HV)))(f:∀y,y∈m↔s.bt M y∨∃c∈s.own.take i,y∈c.2.vars)(h:m.length<=50+21*i)(j:aA k b a)
theorem tO:am ["statement","behind","names","term"] z3z (ae xg):=bY
theorem si{L:Nat}(F:aK K "used_ahead_of" "used_ahead_of" xg f fd)(cB:Cl P w K mg base (L+9) fB f0 z3z (tY n) "used_behind_terms")(cO:Cl P w K mg base 1 fO f2 z5z mq "own_terms")(cN:Cl P w K mg base 7 fN f3 z1z (dm 6) "names_in")(m0:mg "list"=ζ)(m2:mg "set"=ζ)(m3:mg "sorted"=ζ):ak P w K mg base aD (L+10) f fd z3z (gi n):=by
 refine F.ok tO ?_ λc0 A o1 s H vs Q E t h=>?_
 .rintro _ _ _ _ ⟨v,g,s,ss,M,Y,rfl,_⟩;rfl
 obtain⟨v,g,st,ss,M,Y,rfl,j,u,U,hd,hz,q⟩:=h;refine#[_,(jd (jy 2 tO.nd$ jC JD Z m0 boot_list$ ja (cB.e t.m$ ja (pv 0)$ ja (pv 1) jb) jb)$ jd (kX IZ Z (zn$ cO.e t.m$ ja (pv 0) jb) (ju (i:=3) tO.nd Z$ ω Z)$ jg$ jR$ kH IH M9 M8 QH (pv 2)$ ja (cN.e t.m$ ja (pv 3) jb) jb)$ jg$ jo$ jS (ql Z) Z m3 OR$ ja (jC (Jf Z) Z m2 SU$ ja (pv 2) jb) jb),?_];refine ah λF1 C=>#[_,Z,_,Z,v,g,st,ss,M,Y,Z,j,u,U,hd,hz,λr1 G H1 e1 m1 l1 k1=>#[r1,_,Z,.inl$ aG.of e1,λN I=>C _ _ ?_]];clear C;let s2:af H (aj H1 N$ .lst$ G.map HV):=k1.trans (je I);let J:=j.mono (af.tm s2);obtain⟨o2,O⟩:=BA j U;let a:aj H1 N (.lst$ G.map HV) N=δ (.lst$ G.map HV):=jc;let h0:H N=ζ:=k1.free I;generalize aj H1 N (.lst$ G.map HV)=H2 at s2 J a;refine ah λF1 C=>?_;refine gu λF kF=>#[_,Z,v,st,Z,J,λr H3 t W=>#[r,Z,#[_,aC.of t],kF _ _ ?_]];clear kF;let r0:r≠N:=jE t (W _ _ a) (by intro z;cases z);let s3:=s2.trans W;let b0:=zI;refine qA (K:=K) (xs:=st.own.map rT) (OI v g r N st M H3) #[_,G,Z,W _ _ a,λy=>?_,Hz,aA.refl] (λi σ H' hi h=>?_) ?_ (λσ H' h=>C _ _ ?_)
 .rw[m1 y];exact#[.inl,λz=>z.elim (λw=>w) λ#[c,p,_]=>absurd p IF]
 .obtain⟨_,_,_,_,_,_,k⟩:=h;exact aC.of$ k _ _ r0 t
 .clear C;intro E _ i x σ H4 B fE Gq D h;obtain⟨o3,X,rfl,h1,R,h3,k4⟩:=h;rw[Iv]at B;cases p:st.own[i]? with
  |none=>rw[p]at B;cases B
  |some c=>
   rw[p]at B;cases B;refine D ?_;clear D;let cm:=IA p;let hi:i < st.own.length:=by
    rcases NA i st.own.length with z |z
    .exact z
    .rw[Lr z]at p;cases p
   let tm:ai H3 H4:=λb xs e=>k4 b _ (jE e (W _ _ a) (by intro z;cases z)) e;show oy _ E [δ v,δ$ .ref g,δ$ .ref N,δ$ .ref c.1] H4;refine#[_,Z,.inl #[Z,_,aG.of h1],_,Z,c.1,c.2,Y,Z,((Bz j c cm).mono$ af.tm s3).mono tm,(O c cm).2,(O c cm).1,u.y20,λr5 s5 H5 n5 e5 d5 m5 o5 k5=>?_];let l5:s5.length<=21:=IB (j6 d5 λx B=>kB (O c cm).1 x ((m5 x).mp B)) u.y20;refine#[N,r5,_,_,Z,Z,k5 _ _ h1,e5,by rw[Ik,Ik];omega,fE _ _ #[_,X++s5,Z,by rw[jc,IN],λy=>?_,by rw[Io];omega,λb o nb e=>?_]]
   .rw[MM,R y,m5 y,Mj,p];refine#[λz=>z.elim (λz=>z.elim .inl λ#[d,hd,w]=>.inr #[d,Lw _ hd,w]) λw=>.inr #[c,IG _$ ρ.mpr Z,w],λz=>z.elim (λw=>.inl (.inl w)) λ#[d,hd,w]=>?_];rcases γ.mp hd with hd |hd
    .exact .inl$ .inr #[d,hd,w]
    .let ed:d=c:=ρ.mp hd;rw[ed]at w;exact .inr w
   .rw[ji nb];exact k5 _ _$ k4 b o nb e
 .obtain⟨o3,X,rfl,h1,R,h3,k4⟩:=h;clear C;rw[Ik]at R h3;let s4:af H H':=λb o e=>k4 b o (jk e h0) (s3 _ _ e);refine#[_,Z,N,X,Z,aG.of h1,(λL nd j=>LP (Lp$ j6 nd j) (by show X.length+1 < 4096;omega)),λl L S h4 hm=>?_];let sub:∀y∈L,y∈Y:=λy hy=>Bd.use_in U u.sub y ((uF j M y).mpr (by let:=(R y).mp ((hm y).mp hy);rwa [Ln]at this));let lL:=IB (j6 h4 sub) u.y20;refine#[l,L,Z,jc,Hz,λr' s0 T pm nd so=>?_];refine q r' s0 _ ((s4.trans$ je S).free T) #[jc,#[pm.nodup_iff.mpr nd,so,λy=>?_],Bd.use_in U u.sub,u.y20] ((s4.trans$ je S).trans$ je T);rw[pm.mem_iff,hm y,R y,uF j M y,Ln]
theorem none_of(s:af H h)(n:h r=ζ):H r=ζ:=by
 cases z:H r with
 |none=>rfl
 |some o=>have:=s _ _ z;rw[n]at this;cases this
inductive UI(a g:ε)(b:Bd)(p:List V)(M:π->Prop)(q:List π)(H:Hp)(i:Nat)(s:_L.St)(d:Hp):Prop
 |mk(n:ε)(o:Option V)(c m:Bd)(r:List π)(e:s=[δ (.ref a),δ (.ref g),δ (.ref n),o])(f:b=c.app m)(h:c8 H c (p.take (p.length - i)))(j:NL d n r (m.use M) q)(k:af H d)(l:H n=ζ)
theorem oh:am ["body","behind","names","statement"] z16z (ae xf):=bY
theorem Bu{L:Nat}(F:aK K "used_ahead" "used_ahead" xf f fd)(cU:Cl P w K mg base (L+10) fU f0 z3z (gi n) "used_ahead_of")(J:mg "sorted"=ζ)(N:mg "reversed"=ζ):ak P w K mg base aD (L+11) f fd z16z (iu$ n+1):=by
 refine F.ok oh ?_ λc0 A O s H vs Q E hr h=>?_
 .rintro _ _ _ _ ⟨a,g,b,xs,R,M,Y,rfl,_⟩;rfl
 obtain⟨a,g,b,xs,R,M,Y,rfl,ha,hb,d,ho,hd,hz,q⟩:=h;refine#[_,(jd (jy 2 oh.nd$ jS Xk Z J OR$ ja (pv 1) jb)$ jd (kX IZ Z (@sD _ _ _ _ _ _ _ Z N Pp (pv 0) HA HA Hv Hv) (ju (i:=3) oh.nd Z$ ω Z)$ jg$ jy 2 oh.nd$ cU.e hr.m$ ja (pv 3)$ ja (pv 2) jb)$ jg$ jo$ pv 2),?_];let g0:R.length<=21:=IB (j6 d.nd λx o=>d.sub x ((d.mem x).mp o)) d.y20;let b0:=aI;refine ah λF1 t=>#[_,Z,g,R,Z,aG.of d.at',Hz,λl c nl pm so=>t _ _ ?_];clear t;let T:Nm c M:=#[pm.nodup_iff.mpr d.nd,so,λx=>pm.mem_iff.trans (d.mem x)];let U:af H (aj H l$ .lst$ c.map HV):=je nl;let u:NL (aj H l$ .lst$ c.map HV) l c M Y:=#[jc,T,d.sub,d.y20];generalize aj H l (.lst$ c.map HV)=H1 at U u;let xl:=hb.len;refine ah λF1 t=>?_;refine gu λF kF=>#[_,Z,a,xs,Z,aC.of$ U _ _ ha,kF _ _ ?_];clear kF;refine XC (K:=K) (xs:=xs) (UI a g b xs M Y H) #[l,_,b,.nil,c,Z,(qJ b).symm,by rw[Oc,Ln];exact hb,u,U,nl] (λi σ H' hi h=>?_) ?_ (λσ H' h=>t _ _ ?_)
 .obtain⟨_,_,_,_,_,_,_,_,_,k,_⟩:=h;exact aC.of$ k _ _ ha
 .clear t;intro E _ i x σ H2 o fE Gq p h;obtain⟨I,o3,pre,eY,W,rfl,j,y,X,B,n2⟩:=h;let hi:i < xs.length:=by
   rcases NA i xs.length with z |z
   .exact z
   .rw[Lr (by simpa using z)]at o;cases o
  rw[Mu hi]at o;let et:xs.take (xs.length - i)=xs.take (xs.length - (i+1))++[x]:=by
   let C:xs.length - i=(xs.length - 1 - i)+1:=by omega
   let e2:xs.length - (i+1)=xs.length - 1 - i:=by omega
   rw[C,e2,Mj,o];rfl
  rw[et]at y;rcases y.last with ⟨e,_⟩ | ⟨ws,v,D,S,C,e2,h4,h5⟩
  .exact absurd e Hy
  obtain⟨ew,ev⟩:=Ra C Z;cases ev;subst e2;let h0:=zR (j▸ho);let G:=zR h0.1;let a1:b.dep=max (D.app S).dep eY.dep:=by rw[j,zw]
  let a2:(D.app S).dep=max D.dep S.dep:=zw ..;let h6:S.dep<=b.dep:=by rw[a1,a2];exact IB (Rm ..)$ Rx ..
  clear a1 a2;let h7:S.size<=b.size:=by rw[j,jX,jX];omega
  refine p ?_;clear p;show dn _ _ E [δ$ .ref a,δ$ .ref g,δ$ .ref I,δ x] H2;refine#[_,Z,_,Z,x,I,S,W,eY.use M,Y,Z,h5.mono$ af.tm B,X,G.2,Hz,Hz,λr z H3 nr n3 k3=>fE _ _ #[r,_,D,S.app eY,z,Z,by rw[j,zY],?_,by rw[Ki];exact n3,B.trans k3,none_of B nr]];rw[ew];exact h4
 .obtain⟨I,o3,pre,eY,W,rfl,j,y,X,B,n2⟩:=h;rw[M6]at y;let ep:pre= .nil:=by
   rcases y.last with ⟨_,e⟩ | ⟨ws,v,D,S,C,_⟩
   .exact e
   .exact absurd C Hy
  rw[ep]at j;refine#[_,Z,q I W H' n2 ?_ B];rw[j];exact X
theorem Be:ak P w K mg base aD k f e z16z (iu 0):=by
 let n:∀v H Q E,¬iu 0 v H Q E:=λv H Q E h=>by obtain⟨a,g,b,x,S,M,y,_,_,_,_,_,d,_⟩:=h;exact absurd d$ MN _
 exact#[λv H Q E h=>absurd h (n v H Q E),λA o s H c u v Q E _ _ _ _ h=>absurd h (n v H Q E)]
theorem EF(F:aK K "used_ahead" "used_ahead" xf f e)(FB:aK K "used_behind_terms" "used_behind_terms" tw r g)(d:aK K "used_ahead_of" "used_ahead_of" xg o b)
  (B:ay K e z16z []) (i:mg "used_ahead"=δ (.ref f)) (j:ay K g z3z []) (k:mg "used_behind_terms"=δ (.ref r)) (p:ay K b z3z []) (q:mg "used_ahead_of"=δ (.ref o)) (C:Cl P w K mg base 1 u s z5z mq "own_terms") (l:Cl P w K mg base 7 v t z1z (dm 6) "names_in") (M:mg "list"=ζ) (a:mg "set"=ζ) (m:mg "sorted"=ζ) (c:mg "reversed"=ζ):
  ∀n:Nat,ak P w K mg base aD (3*n+8) f e z16z (iu n)/\ak P w K mg base aD (3*n+10) o b z3z (gi n)
 |0=>by let h:ak P w K mg base aD 8 f e z16z (iu 0):=Be;let H:=sh (L:=8) (n:=0) FB #[h,B,F.kp,i];exact#[h,si (L:=0) d #[H,j,FB.kp,k] C l M a m]
 |n+1=>by
  let I:=(EF F FB d B i j k p q C l M a m c n).2;let h:=Bu (L:=3*n) F #[I,p,d.kp,q] m c;let E:3*n+11=3*(n+1)+8:=by omega
  rw[E]at h;let H:=sh (L:=3*(n+1)+8) (n:=n+1) FB #[h,B,F.kp,i];exact#[h,si (L:=3*(n+1)) d #[H,j,FB.kp,k] C l M a m]
abbrev BQ:ey:=top 36
abbrev sT:ey:=top 39
abbrev sQ:ey:=top 40
abbrev lu:ey:=top 41
abbrev sV:ey:=top 42
def Lf.cut:Lf->Nat
 | .st _ _ _=>0
 | .gv _ _=>0
 |_=>1
def Bd.cuts:Bd->Nat
 | .nil=>0
 | .lf _ l r=>l.cut+r.cuts
 | .ite _ _ _ a b r=>1+a.cuts+b.cuts+r.cuts
 | .loop _ _ _ a r=>1+a.cuts+r.cuts
def Bd.inn:Bd->Bd
 | .ite _ _ _ a b _=>a.app b
 | .loop _ _ _ a _=>a
 |_=>.nil
theorem zW:∀(a b:Bd),(a.app b).cuts=a.cuts+b.cuts
 | .nil,b=>by show b.cuts=0+b.cuts;omega
 | .lf _ l r,b=>by let:=zW r b;show l.cut+(r.app b).cuts=l.cut+r.cuts+b.cuts;omega
 | .ite _ _ _ x y r,b=>by let:=zW r b;show 1+x.cuts+y.cuts+(r.app b).cuts=1+x.cuts+y.cuts+r.cuts+b.cuts;omega
 | .loop _ _ _ x r,b=>by let:=zW r b;show 1+x.cuts+(r.app b).cuts=1+x.cuts+r.cuts+b.cuts;omega
inductive mf(b:List V)(H:Hp)(Q:VK)(a:XK):Prop
 |mk(v:V)(s:Bd)(_:b=[v])(_:gU H v s)(_:s.size<=10000000)(_:∀(r:ε) (xs:List V) (H':Hp),H' r=δ (.tup xs)->c8 H' s.inn xs->af H H'->Q (.ref r) H')
inductive gE(d:List V)(H:Hp)(Q:VK)(c:XK):Prop
 |mk(a:ε)(b:Bd)(e:List V)(_:d=[.ref a])(_:H a=δ (.tup e))(_:c8 H b e)(_:b.size<=10000000)(_:∀H',af H H'->Q (.int (b.cuts:Int)) H')
theorem Ef:am z5z z5z (ae BQ):=bY
theorem Bj(F:aK K "bodies_in" "bodies_in" BQ f y):ak P w K mg base aD 1 f y z5z mf:=by
 refine F.ok Ef ?_ λC A o s H V Q E j h=>?_
 .rintro _ _ _ _ ⟨v,s,rfl,_⟩;rfl
 obtain⟨v,st,rfl,z,B,q⟩:=h;refine#[_,(jd (jw (jW$ jx$ pv 0) (jg$ jo$ jv ky (jx$ pv 0)$ jx$ pv 0) jp)$ jd (jw (jW$ jx$ pv 0) (jg$ jo$ jx$ pv 0) jp)$ jg$ jo$ jh jb),?_];let D:=aI;cases z with
 |lf p l V c d=>
  cases l with
  |rd x t T |st x t T |wr t u T U |cl x f R S |gv t T=>obtain⟨rfl,_⟩:=d;refine(jq c Z #[Z,_,Z,aH Hw ?_]);refine(jq c Z #[Z,_,Z,aH Hw ?_]);exact#[pf,λr N=>q r [] _ jc Z (je N)]
 |ite p t T a b e G g I c J d i m n=>refine(jq c Z #[Z,_,Z,bH Hw ?_]);let L:a.size+b.size+0+1<=10000000:=B;let W:=m.len;let X:=n.len;exact(jq c Z$ jq c Z #[e,G,g,I,Z,Z,d,i,Hz,λr M j s=>q r _ M j ((n.mono$ af.tm s).app$ m.mono$ af.tm s) s])
 |loop p t T a e g c J d i=>refine(jq c Z #[Z,_,Z,aH Hw ?_]);refine(jq c Z #[Z,_,Z,bH Hw ?_]);exact(jq c Z$ q e g H d i$ af.refl H)
theorem xI(h:gU H v s):s.inn.size < s.size/\∃(p:ε) (w:π) (r:List V),v= .ref p/\H p=δ (.tup (.str w::r))/\s.cuts=(if nQ (.str w) [.str "set",.str "give"]=μ then 0 else 1)+s.inn.cuts:=by
 cases h with
 |lf p l i c d=>
  refine#[Nat.zero_lt_succ _,?_];cases l with
  |rd x t T |wr t u T U |cl x f Q j=>obtain⟨rfl,_⟩:=d;exact#[p,_,_,Z,c,by rw[Iy Hw];rfl]
  |st x t T |gv t T=>obtain⟨rfl,_⟩:=d;exact#[p,_,_,Z,c,by rw[Iw Hw];rfl]
 |ite p t T a b q k A B c e d g m n=>refine#[by show(a.app b).size < a.size+b.size+0+1;rw[jX];omega,p,_,_,Z,c,?_];rw[Iy Hw];show 1+a.cuts+b.cuts+0=1+(a.app b).cuts;rw[zW];omega
 |loop p t T a q A c e d g=>refine#[by show a.size < a.size+0+1;omega,p,_,_,Z,c,?_];rw[Iy Hw];show 1+a.cuts+0=1+a.cuts;omega
theorem hG:dC (v::y) 0=δ v:=jN (j:=0) Z
inductive MI(a n:ε)(b:Bd)(H:Hp)(m:Nat)(p:_L.St)(c:Hp):Prop
 |mk(l:Option V)(W:Bd)(o:List V)(k:Nat)(d:m=W.size)(e:p=[δ (.ref a),δ (.int (k:Int)),δ (.ref n),l])(f:c n=δ (.lst o))(g:c8 c W o)(h:k+W.cuts=b.cuts)(i:W.size<=10000000)(j:aA n H c)
theorem ig:am ["body","many","todo","statement"] ["body"] (ae sT):=bY
theorem v0(F:aK K "many_cuts" "many_cuts" sT f fd)(cB:Cl P w K mg base 1 fB f0 z5z mf "bodies_in")(m0:mg "list"=ζ):ak P w K mg base aD 2 f fd ["body"] gE:=by
 refine F.ok ig ?_ λc0 A o1 s H vs Q E hr h=>?_
 .rintro _ _ _ _ ⟨a,b,xs,rfl,_⟩;rfl
 obtain⟨a,b,xs,rfl,ha,hb,hz,q⟩:=h;refine#[_,(jd (jy 1 ig.nd jf)$ jd (jy 2 ig.nd$ jC JD Z m0 boot_list$ ja (pv 0) jb)$ jd (KM IZ (@sH _ _ _ (pv 2) (λ_=>Z))$ jd (jy 3 ig.nd$ BE IH PySem.F.slot_list_pop PySem.F.type_list_pop A4$ pv 2)$ jd (jZ$ jw (jB JC (jx$ pv 3) (jh$ ja jj$ ja jj jb) Z) (jg$ BK (i:=1) ig.nd Z (ω Z) jf AS) jp)$ jg$ jR$ kH IH M9 M8 YE (pv 2)$ ja (cB.e hr.m$ ja (pv 3) jb) jb)$ jg$ jo$ pv 1),?_];let b0:=aI;refine ah λU d=>d _ _ ?_;clear d;refine ah λU d=>#[_,Z,a,_,Z,.inr$ aC.of ha,λt C=>d _ _ ?_];clear d;let s0:af H (aj H t$ .lst xs):=je C;refine ah λU d=>?_;refine nJ (MI a t b H) b.size #[_,b,xs,0,Z,Z,jc,hb.mono$ af.tm s0,Hz,hz,λc o N e=>s0 _ _ e] ?_;intro m σ D E _ fE F X Y Gq y h;obtain⟨o3,W,zs,k,rfl,rfl,x,h2,h3,h4,h5⟩:=h;refine y #[_,Z,!zs.isEmpty,.inl #[zs,aG.of x,Z],?_];clear y;rcases h2.last with ⟨e1,e2⟩ | ⟨g,v,B,n,e1,e2,g1,g2⟩
 .rw[e1];refine Y _$ d _ _ #[_,Z,?_];rw[e2]at h3;let e3:k=b.cuts:=by let:k+0=b.cuts:=h3;omega
  rw[e3];exact q _ λc o e=>h5 c o (jk e C) e
 .rw[e1];let ne:(!(g++[v]).isEmpty)=μ:=by cases g<;>rfl
  rw[ne];refine X _ ?_;clear Y X d;let h6:W.size=B.size+n.size:=by rw[e2,jX]
  let h7:W.cuts=B.cuts+n.cuts:=by rw[e2,zW]
  obtain⟨h8,p,w',r,rfl,hp,hc⟩:=xI g2;rw[e1]at x;refine ah λU d=>#[_,Z,.inl #[Z,_,aG.of x],t,_,.ref p,Z,Z,x,Hy,d _ _ ?_];clear d;rw[List.dropLast_concat];let T:ai D (aj D t$ .lst g):=λc ys e=>by rw[ji$ jE e x (by intro z;cases z)];exact e
  let t2:aj D t (.lst g) t=δ (.lst g):=jc;let u:=g1.mono T;let I:=g2.mono T;let J:=T _ _ hp;let k2:aA t H (aj D t$ .lst g):=λc o N e=>by rw[ji N];exact h5 c o N e
  generalize aj D t (.lst g)=H2 at t2 u I J k2;clear T x h2 h5 g1 g2 hp;let R:∀(j:Nat) (H3:Hp),af H2 H3->j+B.cuts+n.inn.cuts=b.cuts->oy (Gh K "list" (hX K) (aZ 2)$ al (dP mf [] E0$ al (aZ 3) aJ) aJ) E [δ$ .ref a,δ$ .int (j:Int),δ$ .ref t,δ$ .ref p] H3:=λj H3 L hk=>by
   let g0:=I.mono (af.tm L);refine#[_,Z,.inl #[Z,_,aG.of$ L _ _ t2],_,Z,.ref p,n,Z,g0,Hz,λr' ys H4 h0 hy s4=>?_];let S:=L.trans s4;let l1:=u.len;let l2:=hy.len;refine#[t,r',g,ys,Z,Z,S _ _ t2,aC.of h0,Hz,fE (B.app n.inn).size _ _ (by rw[jX];omega) #[_,B.app n.inn,g++ys,j,Z,Z,jc,?_,by rw[zW];omega,by rw[jX];omega,λc o N e=>?_]]
   .let M:ai H4 (aj H4 t$ .lst$ g++ys):=λc z0 e=>by rw[ji$ jE e (S _ _ t2) (by intro z;cases z)];exact e
    exact(hy.mono M).app ((u.mono$ af.tm S).mono M)
   .rw[ji N];exact S _ _$ k2 c o N e
  refine ah λU d=>dE (λO H'=>∃j:Nat,O=[δ$ .ref a,δ$ .int (j:Int),δ$ .ref t,δ$ .ref p]/\af H2 H'/\j+B.cuts+n.inn.cuts=b.cuts) (λE2 _ fm=>?_) λO H' h=>?_
  .clear d fE;refine nO λG X Y=>(jq J hG #[bK,λl nl=>#[l,_,Z,.inr$ aC.of jc,Z,Z,_,Z,?_]]);cases hv:nQ (.str w') [.str "set",.str "give"] with
   |true=>rw[hv,Iw Z]at hc;exact Y _$ fm _ _ #[k,Z,je nl,Hz]
   |false=>rw[hv,Iy Iu]at hc;refine X _ #[_,Z,_,_,Z,Z,fm _ _ #[k+1,?_,je nl,Hz]];show [_,δ$ HW ((k:Int)+1),_,_]=[_,δ$ HW ((k+1:Nat):Int),_,_];rfl
  .obtain⟨j,rfl,L,hk⟩:=h;exact d _ _$ R j H' L hk
end _K
namespace _K
open PySem PySem.Spec PyProof.Rows _L
variable {P:ψ}{w:dg}{K:Ω}{mg:π->Option η}{base:fv}
inductive EN where
 |go (n:Int) |give (t:ε)
structure Wy where
 sets:List (π×ε)
 goal:EN
inductive Dd where
 |st (p:ε) |ask (t:ε)
structure Ct where
 M:π->Prop
 d:Dd
 ws:List Wy
structure Pc where
 M:π->Prop
 w:Wy
def aN(H:Hp):Tr->V->List V->Prop
 | .lf v,x,_=>x=v/\FT v=μ
 | .tp l,x,_=>l.isL=μ/\∃a X,x= .ref a/\H a=δ (.tup X)/\aN H l .non X
 | .nil,_,X=>X=[]
 | .cons h t,_,X=>h.isL=ν/\t.isL=μ/\∃y Y,X=y::Y/\aN H h y []/\aN H t .non Y
theorem aN.at{K:Ω}:∀{t:Tr} {x:V} {xs:List V},aN H t x xs->iH K H t x xs:=by
 intro t;induction t with
 |lf v |nil=>exactλh=>h
 |tp l d=>rintro x xs ⟨h,a,Y,e,b,c⟩;exact#[h,a,Y,e,aC.of b,d c]
 |cons h t i I=>rintro x xs ⟨E,f,y,Y,e,b,c⟩;exact#[E,f,y,Y,e,i b,I c]
theorem aN.mono(k:ai H d):∀{t:Tr} {x:V} {X:List V},aN H t x X->aN d t x X:=by
 intro t;induction t with
 |lf v |nil=>exactλh=>h
 |tp l f=>rintro x X ⟨h,a,Y,e,b,c⟩;exact#[h,a,Y,e,k _ _ b,f c]
 |cons h t i I=>rintro x X ⟨E,g,y,Y,e,b,c⟩;exact#[E,g,y,Y,e,i b,I c]
def aE:List Tr->Tr
 | []=>.nil
 |t::T=>.cons t (aE T)
theorem QX:∀t:List Tr,(aE t).isL=μ
 | []=>rfl
 |_::_=>rfl
def a5(t:List Tr):Tr:=.tp (aE t)
def bo(x:π):Tr:=.lf (.str x)
def oV(a:ε):Tr:=.lf (.ref a)
def aY(n:Int):Tr:=.lf (.int n)
section
variable {H:Hp}
theorem jA:aN H (aE []) .non []:=rfl
theorem jm{t:Tr}(h:t.isL=ν)(a:aN H t y [])(b:aN H (aE T) .non Y):aN H (aE (t::T)) .non (y::Y):=#[h,QX T,y,Y,Z,a,b]
theorem jD(h:H a=δ (.tup x))(b:aN H (aE t) .non x):aN H (a5 t) (.ref a) []:=#[QX t,a,x,Z,h,b]
theorem jM:aN H (bo x) (.str x) []:=#[Z,Z]
theorem JL:aN H (oV a) (.ref a) []:=#[Z,Z]
theorem j3:aN H (aY n) (.int n) []:=#[Z,Z]
theorem Jp(a:aN H (aE s) .non Y):∀{T:List Tr} {x:List V},aN H (aE T) .non x->aN H (aE$ T++s) .non (x++Y)
 | [],x,h=>by let e:x=[]:=h;rw[e];exact a
 |t::T,x,h=>by obtain⟨E,_,y,z,e,b,c⟩:=h;rw[e];exact jm E b (Jp a c)
theorem zz:∀{T:List Tr} {x:List V},aN H (aE T) .non x->x.length=T.length
 | [],x,h=>by let e:x=[]:=h;rw[e];rfl
 |t::T,x,h=>by obtain⟨_,_,y,z,e,_,a⟩:=h;rw[e,IL,IL,zz a]
theorem XF:∀(S:List π),aN H (aE$ S.map bo) .non (S.map HV)
 | []=>rfl
 |s::S=>jm Z jM (XF S)
theorem Y9:∀{T:List Tr} {x:List V},aN H (aE T) .non x->aN H (aE T.reverse) .non x.reverse
 | [],x,h=>by let e:x=[]:=h;rw[e];rfl
 |t::T,x,h=>by obtain⟨E,_,y,z,e,a,b⟩:=h;rw[e,Nb,Nb];exact Jp (jm E a jA)$ Y9 b
theorem q8:∀{T:List Tr} {X:List V},aN H (aE T) .non X->∀(i:Nat) (x:V),X[i]?=δ x->∃t,T[i]?=δ t/\aN H t x []
 | [],X,h,i,x,a=>by let e:X=[]:=h;rw[e]at a;simp at a
 |t::T,X,h,0,x,a=>by obtain⟨_,_,y,z,e,b,c⟩:=h;rw[e]at a;cases a;exact#[t,Z,b]
 |t::T,X,h,i+1,x,a=>by obtain⟨_,_,y,z,e,b,c⟩:=h;rw[e]at a;simpa using q8 c i x (by simpa using a)
end
def Ek(s:π×ε):Tr:=a5 [bo s.1,oV s.2]
def vE:EN->Tr
 | .go n=>a5 [bo "go",aY n]
 | .give t=>a5 [bo "give",oV t]
def gR(w:Wy):Tr:=a5 [a5$ w.sets.map Ek,vE w.goal]
def EY:Dd->Tr
 | .st p=>oV p
 | .ask t=>a5 [bo "ask",oV t]
noncomputable def Dg(c:Ct):Tr:=a5 [a5 ((canon c.M).map bo),EY c.d,a5$ c.ws.map gR]
theorem AO(g:EN):(vE g).isL=ν:=by cases g<;>rfl
theorem Di(d:Dd):(EY d).isL=ν:=by cases d<;>rfl
def mE(H:Hp)(p:Pc)(v:V)(g:ε)(y:List π):Prop:=∃(r:ε) (s:List π) (W:V),v= .ref r/\H r=δ (.tup [.ref g,W])/\NL H g s p.M y/\aN H (gR p.w) W []
theorem mE.same(h:mE H p v g y)(s:af H a):mE a p v g y:=by obtain⟨r,S,W,e,b,c,d⟩:=h;exact#[r,S,W,e,s _ _ b,c.same s,d.mono$ af.tm s]
theorem mE.but(h:mE H p v g y)(k:aA f H c)(d:H f=δ (.lst C))(n:g≠f):mE c p v g y:=by obtain⟨r,s,W,e,i,a,j⟩:=h;let t:ai H c:=λb x e=>k b _ (jE e d (by intro z;cases z)) e;exact#[r,s,W,e,t _ _ i,#[k _ _ n a.at',a.nm,a.sub,a.y20],j.mono t]
def Lf.isCut:Lf->Bool
 | .st _ _ _=>ν
 | .gv _ _=>ν
 |_=>μ
def Bd.deed:Bd->Dd
 | .lf p _ _=>.st p
 | .ite _ t _ _ _ _=>.ask t
 | .loop _ t _ _ _=>.ask t
 | .nil=>.st 0
inductive ik(b:List V)(H:Hp)(Q:VK)(a:XK):Prop
 |mk(v:V)(s:Bd)(_:b=[v])(_:gU H v s)(_:∀(d:V) (H':Hp),aN H' (EY s.deed) d []->af H H'->Q d H')
inductive gg(b:List V)(H:Hp)(Q:VK)(a:XK):Prop
 |mk(t:ε)(T:Tm)(c:List π)(_:b=[.ref t])(_:aQ H T t)(_:di c T)(_:c.length<=21)(_:∀(v:V) (g:ε) (H':Hp),mE H' #[λx=>x∈T.vars,#[[],.give t]] v g c->H g=ζ->af H H'->Q v H')
inductive on(K:Ω)(c:List V)(H:Hp)(Q:VK)(b:XK):Prop
 |mk(a:ε)(_:c=[.ref a])(_:aC K H a [.str "num",.int 0])(_:∀(r:ε),H r=ζ->Q (.ref r) (aj H r (.lst [])))
inductive oq(K:Ω)(b:List V)(H:Hp)(Q:VK)(a:XK):Prop
 |mk(t:ε)(c:List π)(_:b=[.ref t])(_:aC K H t [.str "num",.int 0])(_:c.length<=21)(_:∀(v:V) (g:ε) (H':Hp),mE H' #[λx=>x∈(Tm.num 0).vars,#[[],.give t]] v g c->H g=ζ->af H H'->Q v H')
open Classical in
noncomputable def fV(x:π)(t:ε)(p:Pc):Wy:=if p.M x then #[(x,t)::p.w.sets,p.w.goal] else p.w
inductive io(d:List V)(H:Hp)(Q:VK)(a:XK):Prop
 |mk(v b:V)(p t:ε)(x:π)(T:Tm)(c:Pc)(g:ε)(e:List π)(_:d=[v,b])(_:gU H v (.lf p (.st x t T) .nil))(_:mE H c b g e)(_:x∈e)(_:di e T)(_:c.w.sets.length<=10000000)(_:∀(v':V) (g':ε) (H':Hp),mE H' #[(Lf.st x t T).use c.M,fV x t c] v' g' e->H g'=ζ->af H H'->Q v' H')
theorem BX:am z5z z5z (ae sQ):=bY
theorem vX(F:aK K "deed_of" "deed_of" sQ f e):ak P w K mg base aD 1 f e z5z ik:=by
 refine F.ok BX ?_ λC A o s H V Q E z h=>?_
 .rintro _ _ _ _ ⟨v,s,rfl,_⟩;rfl
 obtain⟨v,st,rfl,g,q⟩:=h;refine#[_,(jd (jw (jB zB (jx$ pv 0) (jh$ ja jj$ ja jj jb) Z) (jg$ jo$ jh$ ja jj$ ja (jx$ pv 0) jb) jp)$ jg$ jo$ pv 0),?_];cases g with
 |lf p l V c d=>
  cases l with
  |rd x t T |st x t T |wr t u T U |cl x f B D |gv t T=>obtain⟨rfl,_⟩:=d;refine(jq c Z #[bK,λl n=>#[l,_,Z,.inr$ aC.of jc,Z,Z,_,Z,aH Hw ?_]]);exact#[_,Z,q _ _ JL$ je n]
 |ite p t T a b i I j J c m d y L M |loop p t T a i j c m d y=>refine(jq c Z #[bK,λl n=>#[l,_,Z,.inr$ aC.of jc,Z,Z,_,Z,bH Hw ?_]]);refine(jq (ao c n) Z #[bK,λr N=>?_]);exact q _ _ (jD jc$ jm Z jM$ jm Z JL jA) ((je n).trans$ je N)
theorem Bp{fN:ε}{fdN:bm}(F:aK K "names_in" "names_in" eh f b)(c:Cl P w K mg base (n+1) f b z1z (dm n) "names_in")(m:mg "set"=ζ)(M:mg "sorted"=ζ):ak P w K mg base aD (n+2) f b z1z (on K):=by
 refine F.ok tJ (λv H Q E h=>?_) (λC A o s H v Q E d h=>?_)
 .obtain⟨a,rfl,_⟩:=h;rfl
 obtain⟨a,rfl,g,q⟩:=h;refine#[_,(jd (jw (jW$ jx$ pv 0) (jg$ jo$ jG jb) jp)$ jd (jw (jW$ jx$ pv 0) (jg$ jo$ jG$ ja (jx$ pv 0) jb) jp)$ jg$ jo$ jS (ql Z) Z M OR$ ja (jC (Jf Z) Z m SU$ ja (jv qZ (c.e d$ ja (jx$ pv 0) jb)$ c.e d$ ja (jx$ pv 0) jb) jb) jb),?_];refine#[_,Z,a,_,_,_,Z,Z,g,Z,Z,_,Z,bH Hw ?_];exact#[pf,λr N=>q r N]
theorem og:am z1z z1z (ae lu):=bY
theorem se(F:aK K "place_of_give" "place_of_give" lu f d)(C:Cl P w K mg base 7 U i z1z (dm 6) "names_in"):ak P w K mg base aD 8 f d z1z gg:=by
 refine F.ok og ?_ λj A o s H V Q E l h=>?_
 .rintro _ _ _ _ ⟨t,T,y,rfl,_⟩;rfl
 obtain⟨t,T,y,rfl,p,O,b,q⟩:=h;refine#[_,(jg$ jo$ jh$ ja (C.e l.m$ ja (pv 0) jb)$ ja (jh$ ja (jh jb)$ ja (jh$ ja jj$ ja (pv 0) jb) jb) jb),?_];refine#[_,Z,t,T,y,Z,p,O.2,O.1,b,λg v a z B D M G I=>?_];let J:NL a g v (λx=>x∈T.vars) y:=#[B,#[D,G,M],kB O.1,b];refine#[pf,λe L=>#[_,Z,bK,λu c=>#[bK,λx N=>#[bK,λr n=>?_]]]];let S:af a (aj (aj (aj (aj a e$ .tup []) u$ .tup [.str "give",.ref t]) x$ .tup [.ref e,.ref u]) r$ .tup [.ref g,.ref x]):=(((je L).trans$ je c).trans$ je N).trans (je n);refine q _ g _ #[r,_,.ref x,Z,jc,J.same S,?_] z (I.trans S);exact jD (ao jc n)$ jm Z (jD (ao (ao (ao jc c) N) n) jA)$ jm Z (jD (ao (ao jc N) n)$ jm Z jM$ jm Z JL jA) jA
theorem Br(F:aK K "place_of_give" "place_of_give" lu f j)(C:Cl P w K mg base 7 G l z1z (on K) "names_in"):ak P w K mg base aD 8 f j z1z (oq K):=by
 refine F.ok og ?_ λp A o s H V Q E v h=>?_
 .rintro _ _ _ _ ⟨t,y,rfl,_⟩;rfl
 obtain⟨t,y,rfl,z,B,q⟩:=h;refine#[_,(jg$ jo$ jh$ ja (C.e v.m$ ja (pv 0) jb)$ ja (jh$ ja (jh jb)$ ja (jh$ ja jj$ ja (pv 0) jb) jb) jb),?_];refine#[_,Z,t,Z,z,λg a=>?_];let b:af H (aj H g$ .lst []):=je a;let c:NL (aj H g$ .lst []) g [] (λx=>x∈(Tm.num 0).vars) y:=#[jc,#[NN,Z,λx=>OD],λx h=>absurd h IF,B];generalize aj H g (.lst [])=d at b c;refine#[pf,λe D=>#[_,Z,bK,λu i=>#[bK,λx N=>#[bK,λr n=>?_]]]];let S:af d (aj (aj (aj (aj d e$ .tup []) u$ .tup [.str "give",.ref t]) x$ .tup [.ref e,.ref u]) r$ .tup [.ref g,.ref x]):=(((je D).trans$ je i).trans$ je N).trans (je n);refine q _ g _ #[r,_,.ref x,Z,jc,c.same S,?_] a (b.trans S);exact jD (ao jc n)$ jm Z (jD (ao (ao (ao jc i) N) n) jA)$ jm Z (jD (ao (ao jc N) n)$ jm Z jM$ jm Z JL jA) jA
end _K
namespace _K
open PySem PySem.Spec PyProof.Rows _L
variable {P:ψ}{w:dg}{K:Ω}{mg:π->Option η}{base:fv}
theorem vF{Y:List π}:nQ (.str x) (Y.map HV)=decide (x∈Y):=by
 by_cases h:x∈Y
 .rw[IW h];unfold nQ;rw[Rb];exact#[.str x,cJ.mpr #[x,h,Z],by simp [mH]]
 .rw[II h];unfold nQ;rw[xm];intro z;rw[Rb]at z;obtain⟨v,a,e⟩:=z;obtain⟨y,H,rfl⟩:=cJ.mp a;let E:x=y∨y=x:=by
   first
    |exact .inl (by simpa [mH] using e)
    |exact .inr (by simpa [mH] using e)
  rcases E with rfl |rfl
  .exact h H
  .exact h H
theorem CG{H:Hp}{w:Wy}{v:V}(h:aN H (gR w) v []):∃(W s:ε) (S:List V) (y:V),v= .ref W/\H W=δ (.tup [.ref s,y])/\H s=δ (.tup S)/\aN H (aE$ w.sets.map Ek) .non S/\aN H (vE w.goal) y []:=by obtain⟨_,W,x,rfl,a,_,_,l,b,e,⟨_,s,S,c,d,f⟩,_,_,g,Y,E,i,j⟩:=h;let k:Y=[]:=j;rw[k]at E;rw[E]at e;rw[e,c]at a;exact#[W,s,S,g,Z,a,d,f,i]
theorem nB:am ["statement","behind","way"] z3z (ae sV):=bY
theorem wj(F:aK K "place_of_set" "place_of_set" sV f fd)(cU:Cl P w K mg base 10 fU f0 z3z (gi 0) "used_ahead_of"):ak P w K mg base aD 11 f fd z3z io:=by
 refine F.ok nB ?_ λc0 A O s H vs Q E hr h=>?_
 .rintro _ _ _ _ ⟨v,bv,p,t,x,T,C,g,Y,rfl,_⟩;rfl
 obtain⟨v,bv,p,t,x,T,C,g,Y,rfl,X,hp,hx,ok,hl,q⟩:=h;refine#[_,(jd (jy 2 nB.nd$ jx$ pv 1)$ jd (jZ$ jw (jB zB (jx$ pv 0) (jx$ pv 1) Z) (jg$ jy 2 nB.nd$ jh$ ja (jv ky (jh$ ja (jK qd (pv 0) (jI jf) kL) jb)$ jx$ pv 2)$ ja (jx$ pv 2) jb) jp)$ jg$ jo$ jh$ ja (cU.e hr.m$ ja (pv 0)$ ja (jx$ pv 1) jb)$ ja (pv 2) jb),?_];let b0:=aI;obtain⟨r,ss,wv,rfl,b,B,hW⟩:=hp;let h0:=X;cases X with
 |lf _ _ vs h1 h2=>
  obtain⟨rfl,hT⟩:=h2;obtain⟨wa,sa,sx,y,rfl,i,D,j,hy⟩:=CG hW;refine ah λF1 d=>(jq b Z$ d _ _ ?_);clear d;let sl:=zz j;rw[Ik]at sl;refine ah λF1 d=>dE (λl I=>∃W:V,l=[δ$ .ref p,δ$ .ref r,δ W]/\aN I (gR$ fV x t C) W []/\af H I) (λE2 _ fm=>?_) λl I h=>?_
  .clear d;refine nO λG kT kF=>(jq h1 Z$ jq b Z #[g,_,Z,.inl$ aG.of B.at',Z,QU _,_,Z,?_]);rw[vF];by_cases a:x∈ss
   .rw[IW a];refine kT _ #[_,Z,_,Z,p,_,Z,h1,λs1 H1 J k1=>#[gZ,λu nu=>?_]];let L:=k1.trans (je (o:=.tup [.ref s1]) nu);refine(jq (L _ _ i) Z #[u,sa,_,_,Z,Z,jc,L _ _ D,by show 1+sx.length<=_;omega,λc H2 hc z=>?_]);let R:=L.trans z;refine(jq (R _ _ i) Z #[bK,λnw n=>fm _ _ #[.ref nw,Z,?_,R.trans$ je n]]);let tm:=af.tm (R.trans$ je (o:=.tup [.ref c,y]) n);unfold fV;rw[Iw ((B.nm.mem x).mp a)];refine jD jc$ jm Z (jD (ao hc n)$ jm Z ?_$ j.mono tm)$ jm (AO _) (hy.mono tm) jA;exact jD (ao (z _ _$ ao J nu) n)$ jm Z jM$ jm Z JL jA
   .rw[II a];refine kF _$ fm _ _ #[_,Z,?_,af.refl _];unfold fV;rw[Iy λw=>a ((B.nm.mem x).mpr w)];exact hW
  .obtain⟨W,rfl,S,k⟩:=h;refine d _ _ ?_;clear d;refine#[_,Z,jq (k _ _ b) Z #[.ref p,g,.lf p (.st x t T) .nil,ss,C.M,Y,Z,h0.mono$ af.tm k,B.same k,#[#[hx,ok],trivial],(by show 0 < 1;decide),(by show 0+1<=10000000;decide),λg' zs H3 n3 N3 z=>?_]];refine#[_,Z,bK,λr' N=>q _ g' _ #[r',zs,W,Z,jc,N3.same$ je N,S.mono$ af.tm$ z.trans$ je N] (k.free n3) ((k.trans z).trans$ je N)]
abbrev wV:ey:=cn (top 43) 1
abbrev wZ:ey:=cn (top 43) 2
abbrev wW:ey:=cn (top 43) 3
abbrev xh:ey:=cn (top 43) 4
abbrev sR:ey:=cn (top 43) 0
noncomputable def pL(m:Int)(p:ε)(l:Lf)(q:Pc×List Ct):Pc×List Ct:=match l with
 | .gv t T=>(#[λx=>x∈T.vars,#[[],.give t]],q.2)
 | .st x t T=>(#[(Lf.st x t T).use q.1.M,fV x t q.1],q.2)
 | .rd x t T=>(#[(Lf.rd x t T).use q.1.M,#[[],.go (m - (q.2.length:Int) - 1)]],q.2++[#[(Lf.rd x t T).use q.1.M,.st p,[q.1.w]]])
 | .wr t u T U=>(#[(Lf.wr t u T U).use q.1.M,#[[],.go (m - (q.2.length:Int) - 1)]],q.2++[#[(Lf.wr t u T U).use q.1.M,.st p,[q.1.w]]])
 | .cl x f a b=>(#[(Lf.cl x f a b).use q.1.M,#[[],.go (m - (q.2.length:Int) - 1)]],q.2++[#[(Lf.cl x f a b).use q.1.M,.st p,[q.1.w]]])
noncomputable def pB(m:Int):Bd->Pc->List Ct->Pc×List Ct
 | .nil,c,f=>(c,f)
 | .lf p l r,c,f=>pL m p l (pB m r c f)
 | .ite p t T a b r,c,f=>
  let q:=pB m r c f
  let o:=pB m b q.1 q.2
  let s:=pB m a q.1 o.2
  (#[(Bd.ite p t T a b .nil).use q.1.M,#[[],.go$ m - (q.2.length:Int) - ((Bd.ite p t T a b .nil).cuts:Int)]],s.2++[#[(Bd.ite p t T a b .nil).use q.1.M,.ask t,[s.1.w,o.1.w]]])
 | .loop p t T a r,c,f=>
  let q:=pB m r c f
  let d:Pc:=#[(Bd.loop p t T a .nil).use q.1.M,#[[],.go$ m - (q.2.length:Int) - ((Bd.loop p t T a .nil).cuts:Int)]]
  let s:=pB m a d q.2
  (d,s.2++[#[(Bd.loop p t T a .nil).use q.1.M,.ask t,[s.1.w,q.1.w]]])
theorem KF(m:Int):∀(a b:Bd) (c:Pc) (f:List Ct),pB m (a.app b) c f=pB m a (pB m b c f).1 (pB m b c f).2
 | .nil,_,_,_=>rfl
 | .lf p l r,b,c,f=>by show pL m p l (pB m (r.app b) c f)=pL m p l (pB m r _ _);rw[KF m r b c f]
 | .ite p t T x y r,b,c,f=>by let e:=KF m r b c f;show pB m (.ite p t T x y$ r.app b) c f=_;unfold pB;rw[e]
 | .loop p t T x r,b,c,f=>by let e:=KF m r b c f;show pB m (.loop p t T x$ r.app b) c f=_;unfold pB;rw[e]
theorem ki(m:Int):∀(b:Bd) (c:Pc) (F:List Ct),(pB m b c F).2.length=F.length+b.cuts
 | .nil,_,_=>rfl
 | .lf p l r,c,F=>by
  let e:=ki m r c F;show(pL m p l$ pB m r c F).2.length=F.length+(l.cut+r.cuts);cases l with
  |rd x t T |wr t u T U |cl x f a d=>show((pB m r c F).2++[_]).length=F.length+(1+r.cuts);rw[Io,e];show _+1=_;omega
  |st x t T |gv t T=>show(pB m r c F).2.length=F.length+(0+r.cuts);omega
 | .ite p t T x y r,c,F=>by let e:=ki m r c F;show((pB m x _ (pB m y _ _).2).2++[_]).length=_;rw[Io,ki m x,ki m y,e];show _+1=F.length+(1+x.cuts+y.cuts+r.cuts);omega
 | .loop p t T x r,c,F=>by let e:=ki m r c F;show((pB m x _ _).2++[_]).length=_;rw[Io,ki m x,e];show _+1=F.length+(1+x.cuts+r.cuts);omega
theorem XG(x:π)(t:ε)(p:Pc):(fV x t p).sets.length<=p.w.sets.length+1:=by
 unfold fV;split
 .exact Im _
 .exact LU _
theorem Za(m:Int):∀(b:Bd) (a:Pc) (f:List Ct),(pB m b a f).1.w.sets.length<=a.w.sets.length+b.size
 | .nil,_,_=>Im _
 | .lf p l r,a,f=>by
  let e:=Za m r a f;show(pL m p l$ pB m r a f).1.w.sets.length<=a.w.sets.length+(r.size+1);cases l with
  |st x t T=>have:=XG x t (pB m r a f).1;show(fV x t (pB m r a f).1).sets.length<=_;omega
  |_=>exact Is _
 | .ite p t T x y r,a,f=>Is _
 | .loop p t T x r,a,f=>Is _
theorem kO:∀b:Bd,b.cuts<=b.size
 | .nil=>Im _
 | .lf _ l r=>by
  let:=kO r;let h:l.cut<=1:=by cases l<;>first |exact Im _ |exact Is _
  show l.cut+r.cuts<=r.size+1;omega
 | .ite _ _ _ a b r=>by let:=kO a;let:=kO b;let:=kO r;show 1+a.cuts+b.cuts+r.cuts<=a.size+b.size+r.size+1;omega
 | .loop _ _ _ a r=>by let:=kO a;let:=kO r;show 1+a.cuts+r.cuts<=a.size+r.size+1;omega
structure CK(K:Ω)(C:ε):Prop where
 cl:ph K C
 nm:bP K C "many"
 nf:bP K C "found"
structure Cg(H:Hp)(C ia dx fa:ε)(m:Int)(cts:List Ct)(cs:List V):Prop where
 ins:H ia=δ (.ins C dx [("many",.int m),("found",.ref fa)])
 fd:H fa=δ (.lst cs)
 tr:aN H (aE$ cts.map Dg) .non cs
theorem Cg.same(h:Cg H C i d f m c a)(s:af H b):Cg b C i d f m c a:=#[s _ _ h.ins,s _ _ h.fd,h.tr.mono$ af.tm s]
theorem Cg.len(h:Cg H C i d f m c a):a.length=c.length:=by rw[zz h.tr,Ik]
theorem Cg.tm(h:Cg H C i d f m c g)(k:aA f H a):ai H a:=λb x e=>k b _ (jE e h.fd (by intro z;cases z)) e
structure uX(H:Hp)(C ia dx fa:ε)(m:Int)(cts:List Ct)(cs:List V)(pc:Pc)(bv:V)(g:ε)(ys:List π)(b:Bd):Prop where
 c:Cg H C ia dx fa m cts cs
 p:mE H pc bv g ys
 ng:g≠fa
 ok:b.Ok ys
 sz:cts.length+pc.w.sets.length+b.size<=10000000
def pC(H:Hp)(C i d f:ε)(m:Int)(y:List π)(q:Pc×List Ct)(Q:VK):Prop:=∀(v:V) (g:ε) (c:List V) (h:Hp),mE h q.1 v g y->g≠f->Cg h C i d f m q.2 c->aA f H h->Q v h
inductive ms(C:ε)(n:Nat)(l:List V)(H:Hp)(Q:VK)(c:XK):Prop
 |mk(j h i a g:ε)(m:Int)(d:List Ct)(f o:List V)(k:Pc)(e:V)(p:List π)(b:Bd)(_:l=[.ref j,.ref a,e])(_:uX H C j h i m d f k e g p b)(_:H a=δ (.tup o))(_:c8 H b o)(_:b.dep < n)(_:pC H C j h i m p (pB m b k d) Q)
inductive Co(C:ε)(n:Nat)(j:List V)(H:Hp)(Q:VK)(a:XK):Prop
 |mk(h e f g:ε)(m:Int)(b:List Ct)(d:List V)(i:Pc)(v c:V)(k:List π)(s:Bd)(_:j=[.ref h,v,c])(_:uX H C h e f m b d i c g k s)(_:gU H v s)(_:s.dep < n+1)(_:pC H C h e f m k (pB m s i b) Q)
def Bd.isCut:Bd->Bool
 | .lf _ l _=>l.isCut
 | .nil=>ν
 |_=>μ
inductive xH(C:ε)(n:Nat)(j:List V)(H:Hp)(Q:VK)(a:XK):Prop
 |mk(h e f g:ε)(m:Int)(b:List Ct)(d:List V)(i:Pc)(v c:V)(k:List π)(s:Bd)(_:j=[.ref h,v,c])(_:uX H C h e f m b d i c g k s)(_:gU H v s)(_:s.dep < n+1)(_:s.isCut=μ)(_:pC H C h e f m k (pB m s i b) Q)
noncomputable def gF(m:Int)(c:Pc)(p:Pc)(f:List Ct):Bd->List Wy×List Ct
 | .ite _ _ _ a b _=>([(pB m a p (pB m b p f).2).1.w,(pB m b p f).1.w],(pB m a p (pB m b p f).2).2)
 | .loop _ _ _ a _=>([(pB m a c f).1.w,p.w],(pB m a c f).2)
 |_=>([p.w],f)
inductive Cp(C:ε)(n:Nat)(o:List V)(H:Hp)(Q:VK)(a:XK):Prop
 |mk(i e f g h:ε)(m:Int)(b:List Ct)(d:List V)(j k:Pc)(v c l:V)(p:List π)(s:Bd)(_:o=[.ref i,v,l,c])(_:uX H C i e f m b d j c g p s)(_:mE H k l h p)(_:h≠f)(_:k.w.sets=[])(_:gU H v s)(_:s.dep < n+1)(_:∀(wv:V) (cs':List V) (H':Hp),aN H' (a5 ((gF m k j b s).1.map gR)) wv []->Cg H' C i e f m (gF m k j b s).2 cs'->aA f H H'->Q wv H')
theorem Yc(h:gU H v s)(g:s.isCut=μ)(m:Int)(c:Pc)(F:List Ct):
  pB m s c F=(#[s.use c.M,#[[],.go$ m - (F.length:Int) - (s.cuts:Int)]],(gF m #[s.use c.M,#[[],.go$ m - (F.length:Int) - (s.cuts:Int)]] c F s).2++[#[s.use c.M,s.deed,(gF m #[s.use c.M,#[[],.go$ m - (F.length:Int) - (s.cuts:Int)]] c F s).1]]):=by
 cases h with
 |lf p l V d e=>
  cases l with
  |rd x t T |wr t u T U |cl x f a k=>rfl
  |st x t T |gv t T=>cases g
 |ite p t T a b q Q A B d i e j n o |loop p t T a q A d i e j=>rfl
theorem uI(h:mE H p v g y):∃(r:ε) (W:V),v= .ref r/\H r=δ (.tup [.ref g,W])/\aN H (gR p.w) W []:=by obtain⟨r,s,W,e,a,c,b⟩:=h;exact#[r,W,e,a,b]
theorem Eh:am ["self","statement","place","behind","other"] z23z (ae xh):=bY
theorem DV(F:aK K "ways_of" "Cutting.ways_of" xh f fd)(X:CK K C)(GB:ak P w K mg base aD (4*n+31) fB f0 z11z (ms C n))(bB:ay K f0 z11z [])(hB:cj K C "place_of_body" fB):ak P w K mg base aD (4*n+32) f fd z23z (Cp C n):=by
 refine F.ok Eh ?_ λc3 A o1 s H vs Q E hr h=>?_
 .rintro _ _ _ _ ⟨i,D,R,g,g2,m,d,S,y,pl,v,bv,pv,Y,s,rfl,_⟩;rfl
 obtain⟨i,D,R,g,g2,m,d,S,y,pl,v,bv,G,Y,st,rfl,I,h6,n0,h7,hs,hd,q⟩:=h;refine#[_,(jd (jw (jW$ jx$ pv 1) (jd (jy 4 Eh.nd$ za (pv 0) X.cl hB GB hr.m bB .nil bN$ ja (jx$ pv 1)$ ja (pv 3) jb)$ jg$ jo$ jh$ ja (js j7 (za (pv 0) X.cl hB GB hr.m bB .nil bN$ ja (jx$ pv 1)$ ja (pv 3) jb) jf (λ_ _=>Z))$ ja (jx$ pv 4) jb) jp)$ jd (jw (jW$ jx$ pv 1) (jg$ jo$ jh$ ja (js j7 (za (pv 0) X.cl hB GB hr.m bB .nil bN$ ja (jx$ pv 1)$ ja (pv 2) jb) jf (λ_ _=>Z))$ ja (jx$ pv 3) jb) jp)$ jg$ jo$ jh$ ja (jx$ pv 3) jb),?_];let b0:=aI;obtain⟨br,bw,rfl,J,L⟩:=uI I.p;cases hs with
 |lf p l vs e M=>
  let f2:iw (bJ$ al (dQ (eS K) (aZ 3)$ tC$ HW 1) aJ) { nx:=λx H'=>Q V.non H',rt:=Q } [δ$ .ref i,δ$ .ref p,δ G,δ$ .ref br,ζ] H:=by refine(jq J Z #[gZ,λr N=>q (.ref r) S _ (jD jc$ jm Z (L.mono$ af.tm$ je N) jA) (I.c.same$ je N) (aA.of_same$ je N)])
  cases l with
  |rd x t T |st x t T |wr t u T U |cl x f q2 ts |gv t T=>obtain⟨rfl,_⟩:=M;refine(jq e Z #[Z,_,Z,aH Hw ?_]);refine(jq e Z #[Z,_,Z,aH Hw ?_]);exact f2
 |ite p t T a b qa qb as bs e h0 M h3 h4 h5=>refine(jq e Z #[Z,_,Z,bH Hw ?_]);let h8:max (max a.dep b.dep+1) 0 < n+1:=hd;let hz:d.length+y.w.sets.length+(a.size+b.size+0+1)<=10000000:=I.sz;let W:=I.ok;refine ah λF1 f1=>#[_,Z,i,D,_,Z,I.c.ins,Z,jq e Z #[_,Z,i,D,R,qb,g,m,d,S,bs,y,.ref br,Y,b,Z,#[I.c,I.p,I.ng,W.2.2.1,Hz],h3,h5,Hz,λv1 g1 j H1 p1 n1 O z=>f1 _ _ ?_]];clear f1;let B:=I.c.tm z;let lc:=ki m b y d;let cb:=kO b;refine#[_,Z,i,D,_,Z,O.ins,Z,jq (B _ _ e) Z #[_,Z,i,D,R,qa,g,m,_,j,as,y,.ref br,Y,a,Z,#[O,I.p.but z I.c.fd I.ng,I.ng,W.2.1,Hz],B _ _ M,h4.mono B,Hz,λv2 g2 c0 H2 p2 n2 c2 k2=>?_]];obtain⟨r2,w2,rfl,h',a0⟩:=uI p2;obtain⟨r1,w1,rfl,k,o⟩:=uI (p1.but k2 O.fd n1);refine#[r2,_,_,_,Z,Z,aC.of h',Z,jq k Z #[bK,λr N=>q (.ref r) c0 _ (jD jc$ jm Z (a0.mono$ af.tm$ je N)$ jm Z (o.mono$ af.tm$ je N) jA) (c2.same$ je N) ((z.trans k2).trans$ aA.of_same$ je N)]]
 |loop p t T a qa as e h0 M h3=>refine(jq e Z #[Z,_,Z,aH Hw ?_]);refine(jq e Z #[Z,_,Z,bH Hw ?_]);let h8:max (a.dep+1) 0 < n+1:=hd;let hz:d.length+y.w.sets.length+(a.size+0+1)<=10000000:=I.sz;let W:=I.ok;refine#[_,Z,i,D,_,Z,I.c.ins,Z,jq e Z #[_,Z,i,D,R,qa,g2,m,d,S,as,pl,G,Y,a,Z,#[I.c,h6,n0,W.2.1,by rw[h7];show d.length+0+a.size<=_;omega],M,h3,Hz,λv1 g1 j H1 p1 n1 O z=>?_]];obtain⟨r1,w1,rfl,k,o⟩:=uI p1;let B:=I.c.tm z;refine#[r1,_,_,_,Z,Z,aC.of k,Z,jq (B _ _ J) Z #[bK,λr N=>q (.ref r) j _ (jD jc$ jm Z (o.mono$ af.tm$ je N)$ jm Z ((L.mono B).mono$ af.tm$ je N) jA) (O.same$ je N) (z.trans$ aA.of_same$ je N)]]
theorem tE:am ["self","statement","behind","n","names","place","ways"] z7z (ae wW):=bY
theorem DP(F:aK K "place_of_cut" "Cutting.place_of_cut" wW f fd)(y:CK K C)(h7:n<=7)(GW:ak P w K mg base aD (4*n+32) fW f0 z23z (Cp C n))(bW:ay K f0 z23z [])(hW:cj K C "ways_of" fW)(cM:Cl P w K mg base 2 fM f2 ["body"] gE "many_cuts")(cU:Cl P w K mg base 31 fU f3 z3z (gi 7) "used_ahead_of")(cD:Cl P w K mg base 1 fD f4 z5z ik "deed_of")(ml:mg "len"=ζ)(m0:mg "tuple"=ζ):ak P w K mg base aD (4*n+33) f fd z7z (xH C n):=by
 refine F.ok tE ?_ λc0 A o1 s H vs Q E Y h=>?_
 .rintro _ _ _ _ ⟨z,L,l,g,m,a,cs,j,v,bv,ys,s,rfl,_⟩;rfl
 obtain⟨z,L,l,g,m,a,cs,j,v,bv,ys,st,rfl,I,B,hd,hc,q⟩:=h;refine#[_,(jd (jy 3 tE.nd$ jv kI (jv kI (zE (pv 0) Z)$ jS jL Z ml LI$ ja (zE (pv 0) Z) jb)$ cM.e Y.m$ ja (jh$ ja (pv 1) jb) jb)$ jd (jy 4 tE.nd$ cU.e Y.m$ ja (pv 1)$ ja (jx$ pv 2) jb)$ jd (jy 5 tE.nd$ jh$ ja (pv 4)$ ja (jh$ ja (jh jb)$ ja (jh$ ja jj$ ja (pv 3) jb) jb) jb)$ jd (jy 6 tE.nd$ za (pv 0) y.cl hW GW Y.m bW .nil bN$ ja (pv 1)$ ja (pv 5)$ ja (pv 2) jb)$ jd (jR$ kH IH IR IQ jP (zE (pv 0) Z)$ ja (jh$ ja (jC jH Z m0 LZ$ ja (pv 4) jb)$ ja (cD.e Y.m$ ja (pv 1) jb)$ ja (pv 6) jb) jb)$ jg$ jo$ pv 5),?_];let b0:=aI;obtain⟨br,ss,bw,rfl,h0,hN,h1⟩:=id I.p;let hz:=I.sz;let lc:=I.c.len;refine ah λF1 i=>#[_,Z,z,C,L,_,_,Z,I.c.ins,y.cl,y.nm,Z,_,Z,z,C,L,_,_,Z,I.c.ins,y.cl,y.nf,Z,l,_,Z,.inl$ aG.of I.c.fd,_,_,Z,Z,_,Z,gZ,λu nu=>?_];let s1:af H (aj H u$ .tup [v]):=je nu;refine#[u,st,_,Z,jc,(B.mono$ af.tm s1).bd,Hz,λH1 k1=>#[_,_,Z,Z,i _ _ ?_]];clear i;let S:=s1.trans k1;rw[lc];refine ah λF1 i=>#[_,Z,jq (S _ _ h0) Z #[v,g,st,ss,j.M,ys,Z,B.mono$ af.tm S,hN.same S,I.ok,Hz,Hz,λG zs H2 n2 N2 k2=>i _ _ ?_]];clear i;let s3:=S.trans k2;let N:G≠l:=λe=>by rw[e,S _ _ I.c.fd]at n2;cases n2
 refine ah λF1 i=>#[_,Z,pf,λe ne=>#[_,Z,bK,λU O=>#[bK,λx nx=>#[bK,λr nr=>i _ _ ?_]]]];clear i;let s4:af H2 (aj (aj (aj (aj H2 e$ .tup []) U$ .tup [.str "go",.int$ m - (a.length:Int) - (st.cuts:Int)]) x$ .tup [.ref e,.ref U]) r$ .tup [.ref G,.ref x]):=(((je ne).trans$ je O).trans$ je nx).trans (je nr);let P4:mE (aj (aj (aj (aj H2 e$ .tup []) U$ .tup [.str "go",.int$ m - (a.length:Int) - (st.cuts:Int)]) x$ .tup [.ref e,.ref U]) r$ .tup [.ref G,.ref x]) #[st.use j.M,#[[],.go$ m - (a.length:Int) - (st.cuts:Int)]] (.ref r) G ys:=
  #[r,zs,.ref x,Z,jc,N2.same s4,jD (ao jc nr)$ jm Z (jD (ao (ao (ao jc O) nx) nr) jA)$ jm Z (jD (ao (ao jc nx) nr)$ jm Z jM$ jm Z j3 jA) jA]
 generalize aj (aj (aj (aj H2 e$ .tup []) U$ .tup [.str "go",.int$ m - (a.length:Int) - (st.cuts:Int)]) x$ .tup [.ref e,.ref U]) r (.tup [.ref G,.ref x])=H4 at s4 P4;let R:=s3.trans s4;let c5:=I.c.same R;refine ah λF1 i=>#[_,Z,z,L,_,Z,c5.ins,Z,_,Z,_,Z,_,Z,z,L,l,g,G,m,a,cs,j,_,v,.ref br,.ref r,ys,st,Z,#[c5,I.p.same R,I.ng,I.ok,I.sz],P4,N,Z,B.mono$ af.tm R,hd,λwv D H6 w6 c6 k6=>i _ _ ?_];clear i;let t0:=c5.tm k6;let p6:=P4.but k6 c5.fd N;let z6:H6 G=δ (.lst$ zs.map HV):=k6 _ _ N (s4 _ _ N2.at');let ez:=N2.nm.canon;let l6:=c6.len;let lw:(gF m #[st.use j.M,#[[],.go$ m - (a.length:Int) - (st.cuts:Int)]] j a st).2.length+1=a.length+st.cuts:=by let:=ki m st j a;rw[Yc B hc m j a,Io]at this;exact this
 let cl:=kO st;refine ah λF1 i=>#[_,Z,z,C,L,_,_,Z,c6.ins,y.cl,y.nf,Z,.inl #[Z,_,aG.of c6.fd],_,Z,G,_,Z,.inl #[aG.of z6,λnt n0=>?_]];let s7:af H6 (aj H6 nt$ .tup$ zs.map HV):=je n0;refine#[_,Z,v,st,Z,((B.mono$ af.tm R).mono t0).mono$ af.tm s7,λd H8 d8 k8=>#[_,Z,eA,λW J=>?_]];let X:=(s7.trans k8).trans (je (o:=.tup [.ref nt,d,wv]) J);let t:=c6.same X;refine#[l,D,_,Z,Z,t.fd,Hz,i _ _ ?_];clear i;let T9:aN (aj H8 W$ .tup [.ref nt,d,wv]) (Dg #[st.use j.M,st.deed,(gF m #[st.use j.M,#[[],.go$ m - (a.length:Int) - (st.cuts:Int)]] j a st).1]) (.ref W) []:=by refine jD jc$ jm Z (jD (ao (k8 _ _ jc) J) ?_)$ jm (Di _) (d8.mono$ af.tm$ je J)$ jm Z (w6.mono$ af.tm X) jA;rw[<- ez];exact XF zs
 let p9:=p6.same X;generalize aj H8 W (.tup [.ref nt,d,wv])=H9 at X t T9 p9;let k:aA l H9 (aj H9 l$ .lst$ D++[.ref W]):=λb o nb e=>by rw[ji nb];exact e
 let T:=t.tm k;let n1:z≠l:=λe=>by let:=t.ins;rw[e,t.fd]at this;cases this
 refine#[_,Z,q (.ref r) G (D++[.ref W]) _ ?_ N ?_ (λb o nb e=>k b o nb (X _ _$ k6 b o nb$ R _ _ e))]
 .rw[Yc B hc m j a];exact p9.but k t.fd N
 .rw[Yc B hc m j a];refine#[k _ _ n1 t.ins,jc,?_];rw[IN];exact Jp (jm Z (T9.mono T) jA)$ t.tr.mono T
inductive BI(C u j t a:ε)(m:Int)(c:List Ct)(x:Pc)(f:V)(z:List π)(b:Bd)(y:List V)(H:Hp)(i:Nat)(A:_L.St)(e:Hp):Prop
 |mk(d s:Bd)(v:V)(g:ε)(h:List V)(w:Option V)(k:A=[δ (.ref u),δ (.ref a),δ f,δ v,w])(l:b=d.app s)(n:c8 H d (y.take (y.length - i)))(o:mE e (pB m s x c).1 v g z)(p:g≠t)(q:Cg e C u j t m (pB m s x c).2 h)(r:aA t H e)
theorem Kj(m:Int):∀(b:Bd) (c:Pc) (F:List Ct),(pB m b c F).2.length+(pB m b c F).1.w.sets.length<=F.length+c.w.sets.length+b.size
 | .nil,_,_=>Im _
 | .lf p l r,c,F=>by
  let e:=Kj m r c F;show(pL m p l$ pB m r c F).2.length+(pL m p l$ pB m r c F).1.w.sets.length<=F.length+c.w.sets.length+(r.size+1);cases l with
  |st x t T=>have:=XG x t (pB m r c F).1;show(pB m r c F).2.length+(fV x t (pB m r c F).1).sets.length<=_;omega
  |gv t T=>show(pB m r c F).2.length+0<=_;omega
  |rd x t T |wr t u T U |cl x f a d=>show((pB m r c F).2++[_]).length+0<=_;rw[Io];show _+1+0<=_;omega
 | .ite p t T x y r,c,F=>by let e:=Kj m r c F;let h:=kO x;let H:=kO y;show((pB m x _ (pB m y _ _).2).2++[_]).length+0<=F.length+c.w.sets.length+(x.size+y.size+r.size+1);rw[Io,ki m x,ki m y];show _+1+0<=_;omega
 | .loop p t T x r,c,F=>by let e:=Kj m r c F;let h:=kO x;show((pB m x _ _).2++[_]).length+0<=F.length+c.w.sets.length+(x.size+r.size+1);rw[Io,ki m x];show _+1+0<=_;omega
theorem Gb:am z7z z7z (ae wZ):=bY
theorem DU(F:aK K "place_of" "Cutting.place_of" wZ f fd)(ck:CK K C)(GC:ak P w K mg base aD (4*n+33) fC D z7z (xH C n))(bC:ay K D z7z [])(hC:cj K C "place_of_cut" fC)(cG:Cl P w K mg base 8 fG f0 z1z gg "place_of_give")(cS:Cl P w K mg base 11 fS f1 z3z io "place_of_set"):ak P w K mg base aD (4*n+34) f fd z7z (Co C n):=by
 refine F.ok Gb ?_ λc0 A O s H vs Q E G h=>?_
 .rintro _ _ _ _ ⟨r,J,fa,g,m,j,z,L,v,B,y,s,rfl,_⟩;rfl
 obtain⟨r,J,fa,g,m,j,z,L,v,B,y,st,rfl,I,M,hd,q⟩:=h;refine#[_,(jd (jw (jW$ jx$ pv 1) (jg$ jo$ cG.e G.m$ ja (jx$ pv 1) jb) jp)$ jd (jw (jW$ jx$ pv 1) (jg$ jo$ cS.e G.m$ ja (pv 1)$ ja (pv 2) jb) jp)$ jg$ jo$ za (pv 0) ck.cl hC GC G.m bC .nil bN$ ja (pv 1)$ ja (pv 2) jb),?_];let hz:=I.sz;let R:=M;let i:st.isCut=μ->iw (um C "place_of_cut" (xH C n) [] E0 (aZ 0)$ al (aZ 1)$ al (aZ 2) aJ) { nx:=λx k=>Q V.non k,rt:=Q } [δ$ .ref r,δ v,δ B] H:=λhc=>
  #[_,Z,r,J,_,Z,I.c.ins,Z,_,Z,_,Z,r,J,fa,g,m,j,z,L,v,B,y,st,Z,I,M,hd,hc,q]
 cases M with
 |lf p l vs d o=>
  cases l with
  |rd x t T |wr t u T U |cl x f q2 ts=>obtain⟨rfl,_⟩:=o;refine(jq d Z #[Z,_,Z,aH Hw ?_]);refine(jq d Z #[Z,_,Z,aH Hw ?_]);exact i Z
  |gv t T=>
   obtain⟨rfl,hT⟩:=o;refine(jq d Z #[Z,_,Z,bH Hw ?_]);clear i;let Y:y.length<=21:=by obtain⟨_,_,_,_,_,hN,_⟩:=I.p;exact hN.y20
   exact(jq d Z #[t,T,y,Z,hT,I.ok.1,Y,λW X k p' N S=>q W X z k p' (λe=>by rw[e,I.c.fd]at N;cases N) (I.c.same S) (aA.of_same S)])
  |st x t T=>obtain⟨rfl,hT⟩:=o;refine(jq d Z #[Z,_,Z,aH Hw ?_]);refine(jq d Z #[Z,_,Z,bH Hw ?_]);clear i;exact#[_,Z,_,Z,.ref p,B,p,t,x,T,L,g,y,Z,R,I.p,I.ok.1.1,I.ok.1.2,Hz,λW X k p' N S=>q W X z k p' (λe=>by rw[e,I.c.fd]at N;cases N) (I.c.same S) (aA.of_same S)]
 |ite p t T a b qa qb as bs d h0 o h3 h4 h5 |loop p t T a qa as d h0 o h3=>refine(jq d Z #[Z,_,Z,aH Hw ?_]);refine(jq d Z #[Z,_,Z,aH Hw ?_]);exact i Z
theorem xj:am ["self","body","behind","place","statement"] z11z (ae wV):=bY
theorem DN(F:aK K "place_of_body" "Cutting.place_of_body" wV f fd)(ck:CK K C)(GO:ak P w K mg base aD (4*n+34) fO T z7z (Co C n))(bO:ay K T z7z [])(hO:cj K C "place_of" fO)(R:mg "reversed"=ζ):ak P w K mg base aD (4*n+35) f fd z11z (ms C$ n+1):=by
 refine F.ok xj ?_ λc1 A U s H vs Q E hr h=>?_
 .rintro _ _ _ _ ⟨r,J,V,a,g,m,d,cs,xs,l,L,Y,b,rfl,_⟩;rfl
 obtain⟨r,J,V,a,g,m,d,cs,xs,l,L,Y,b,rfl,I,ha,hb,hd,q⟩:=h;refine#[_,(jd (jy 3 xj.nd$ pv 2)$ jd (kX IZ Z (@sD _ _ _ _ _ _ _ Z R Pp (pv 1) HA HA Hv Hv) (ju (i:=4) xj.nd Z$ ω Z)$ jg$ jy 3 xj.nd$ za (pv 0) ck.cl hO GO hr.m bO .nil bN$ ja (pv 4)$ ja (pv 3) jb)$ jg$ jo$ pv 3),?_];let b0:=aI;let hz:=I.sz;let xl:=hb.len;refine ah λF1 u=>#[_,Z,u _ _ ?_];clear u;refine ah λF1 u=>?_;refine gu λF kF=>#[_,Z,a,xs,Z,aC.of ha,kF _ _ ?_];clear kF;refine XC (K:=K) (xs:=xs) (BI C r J V a m d l L Y b xs H) #[b,.nil,L,g,cs,_,Z,(qJ b).symm,by rw[Oc,Ln];exact hb,I.p,I.ng,I.c,aA.refl] (λi σ H' hi h=>?_) ?_ (λσ H' h=>u _ _ ?_)
 .obtain⟨_,_,_,_,_,_,_,_,_,_,_,_,k⟩:=h;exact aC.of$ I.c.tm k _ _ ha
 .clear u;intro E _ i x σ H2 M fE Gq t h;obtain⟨pre,eY,v,W,o,o4,rfl,j,y,X,h4,N,O⟩:=h;let hi:i < xs.length:=by
   rcases NA i xs.length with z |z
   .exact z
   .rw[Lr (by simpa using z)]at M;cases M
  rw[Mu hi]at M;let et:xs.take (xs.length - i)=xs.take (xs.length - (i+1))++[x]:=by
   let D:xs.length - i=(xs.length - 1 - i)+1:=by omega
   let e2:xs.length - (i+1)=xs.length - 1 - i:=by omega
   rw[D,e2,Mj,M];rfl
  rw[et]at y;rcases y.last with ⟨e,_⟩ | ⟨ws,v',B,S,D,e2,h6,h7⟩
  .exact absurd e Hy
  obtain⟨ew,ev⟩:=Ra D Z;cases ev;subst e2;let h0:=zR (j▸I.ok);let G:=zR h0.1;let a1:b.dep=max (B.app S).dep eY.dep:=by rw[j,zw]
  let a2:(B.app S).dep=max B.dep S.dep:=zw ..;let h8:S.dep<=b.dep:=by rw[a1,a2];exact IB (Rm ..)$ Rx ..
  clear a1 a2;let h':b.size=B.size+S.size+eY.size:=by rw[j,jX,jX]
  let hl:=ki m eY l d;let a0:=kO eY;let a3:=Za m eY l d;let a4:(pB m eY l d).1.w.sets.length+(pB m eY l d).2.length+S.size<=10000000:=by let:=Kj m eY l d;omega
  refine t ?_;clear t;let tm:=I.c.tm O;show dn _ _ E [δ$ .ref r,δ$ .ref a,δ L,δ v,δ x] H2;refine#[_,Z,r,J,_,Z,N.ins,Z,_,Z,_,Z,r,J,V,W,m,_,o,_,x,v,Y,S,Z,#[N,X,h4,G.2,Hz],h7.mono tm,Hz,λv3 g3 c0 H3 p3 n3 c3 k3=>fE _ _ #[B,S.app eY,v3,g3,c0,_,Z,by rw[j,zY],?_,by rw[KF];exact p3,n3,by rw[KF];exact c3,O.trans k3]];rw[ew];exact h6
 .obtain⟨pre,eY,v,W,o,o4,rfl,j,y,X,h4,N,O⟩:=h;rw[M6]at y;let ep:pre= .nil:=by
   rcases y.last with ⟨_,e⟩ | ⟨ws,v,B,S,D,_⟩
   .exact e
   .exact absurd D Hy
  rw[ep]at j;refine#[_,Z,q v W o H' ?_ h4 ?_ O]
  .rw[j];exact X
  .rw[j];exact N
theorem DM:ak P w K mg base aD k f i z11z (ms C 0):=by
 let n:∀v H Q E,¬ms C 0 v H Q E:=λv H Q E h=>by obtain⟨I,D,F,a,g,m,d,j,x,p,B,y,b,_,_,_,_,e,_⟩:=h;exact absurd e$ MN _
 exact#[λv H Q E h=>absurd h (n v H Q E),λA o s H c u v Q E _ _ _ _ h=>absurd h (n v H Q E)]
theorem GP(c:CK K C)(FB:aK K "place_of_body" "Cutting.place_of_body" wV g f)(F:aK K "place_of" "Cutting.place_of" wZ A a)(i:aK K "place_of_cut" "Cutting.place_of_cut" wW D b)(j:aK K "ways_of" "Cutting.ways_of" xh E d)
  (B:ay K f z11z []) (H:cj K C "place_of_body" g) (k:ay K a z7z []) (l:cj K C "place_of" A) (o:ay K b z7z []) (p:cj K C "place_of_cut" D) (q:ay K d z23z []) (r:cj K C "ways_of" E)
  (s:Cl P w K mg base 2 T G ["body"] gE "many_cuts") (t:Cl P w K mg base 31 U I z3z (gi 7) "used_ahead_of") (u:Cl P w K mg base 1 Y J z5z ik "deed_of") (v:Cl P w K mg base 8 fG L z1z gg "place_of_give") (x:Cl P w K mg base 11 fS N z3z io "place_of_set") (y:mg "len"=ζ) (m:mg "tuple"=ζ) (M:mg "reversed"=ζ):
  ∀n:Nat,n<=8->ak P w K mg base aD (4*n+31) g f z11z (ms C n)
 |0,_=>DM
 |n+1,h=>by
  let O:=GP c FB F i j B H k l o p q r s t u v x y m M n Hz;let Q:=DV j c O B H;let R:=DP i c Hz Q q r s t u y m;let S:=DU F c R o p v x;let z:=DN FB c S k l M;let e:4*n+35=4*(n+1)+31:=by omega
  rw[e]at z;exact z
theorem wG{X:Cx}{K:Ω}{n:Nat}(a:X.K=K)(b:X.calm=μ)(h:CS X e t)
  (c:(assignEach e X.env).length=n) (H:(assignEach e X.env).findIdx? (·.1)=ζ):PG X (.Tuple e k p) (rg K n t):=by
 subst a;exact zD b h c H
abbrev g3(K:Ω)(i j k:Nat):TG:=rg K 3 (dN (bG i)$ dN (bG j)$ dN (bG k) vB)
theorem FQ{t:_L.St}(h:t.length=3):∃a b c,t=[a,b,c]:=by
 cases t with
 |nil=>cases h
 |cons a r=>
  cases r with
  |nil=>cases h
  |cons b R=>
   cases R with
   |nil=>cases h
   |cons c d=>
    cases d with
    |nil=>exact#[a,b,c,Z]
    |cons _ _=>cases h
abbrev sU:ey:=top 44
abbrev nY:ey:=top 45
structure Df where
 f:π
 p:ε
 pa:ε
 pb:ε
 b:Bd
def xZ(H:Hp)(d:Df)(v:V):Prop:=∃B,v= .ref d.p/\H d.p=δ (.tup [.str d.f,.ref d.pa,.ref d.pb])/\H d.pb=δ (.tup B)/\c8 H d.b B
def bX(H:Hp):List Df->List V->Prop
 | [],a=>a=[]
 |d::D,a=>∃v r,a=v::r/\xZ H d v/\bX H D r
theorem xZ.mono(k:ai H a)(h:xZ H d v):xZ a d v:=by obtain⟨b,e,c,f,g⟩:=h;exact#[b,e,k _ _ c,k _ _ f,g.mono k]
theorem bX.mono(k:ai H b):∀{a:List V},bX H D a->bX b D a:=by
 induction D with
 |nil=>exactλh=>h
 |cons d D i=>rintro a ⟨v,r,e,c,f⟩;exact#[v,r,e,c.mono k,i f]
theorem bX.snoc{d:Df}(a:xZ H d v):∀{D:List Df} {b:List V},bX H D b->bX H (D++[d]) (b++[v])
 | [],_,h=>by let e:_=[]:=h;rw[e];exact#[v,[],Z,a,Z]
 |_::_,_,z=>by obtain⟨u,r,e,c,f⟩:=z;exact #[u,r++[v],by rw[e];rfl,c,bX.snoc a f]
theorem bX.len:∀{d:List Df} {v:List V},bX H d v->v.length=d.length
 | [],_,h=>by let e:_=[]:=h;rw[e];rfl
 |_::_,_,z=>by obtain⟨u,r,e,b,a⟩:=z;rw[e,IL,IL,bX.len a]
theorem bX.at:∀{D:List Df} {b:List V},bX H D b->∀(i:Nat) (v:V),b[i]?=δ v->∃d,D[i]?=δ d/\xZ H d v
 | [],_,h,i,v,a=>by let e:_=[]:=h;rw[e]at a;simp at a
 |d::_,_,q,0,v,a=>by obtain⟨u,r,e,c,f⟩:=q;rw[e]at a;cases a;exact#[d,Z,c]
 |_::D,_,q,i+1,v,a=>by obtain⟨u,r,e,c,f⟩:=q;rw[e]at a;simpa using bX.at f i v (by simpa using a)
def iB(d:Df):Prop:=(∃y:List π,y.length<=20/\d.b.Ok y)/\d.b.dep < 6/\d.b.size<=400
def FX(n:ε):Pc:=#[λx=>x∈(Tm.num 0).vars,#[[],.give n]]
noncomputable def fg(n:ε)(d:Df):Pc×List Ct:=pB (d.b.cuts:Int) d.b (FX n) []
noncomputable def eN(n:ε)(d:Df):Tr:=a5 [bo d.f,oV d.pa,gR (fg n d).1.w,a5 ((fg n d).2.reverse.map Dg)]
def mK(K:Ω)(n:ε):Prop:=∀H:Hp,aC K H n [.str "num",.int 0]
inductive om(C:ε)(f:List V)(H:Hp)(Q:VK)(c:XK):Prop
 |mk(e d a:ε)(b:Bd)(g:List V)(_:f=[.ref e,.ref a])(_:H e=δ (.ins C d []))(_:H a=δ (.tup g))(_:c8 H b g)(_:b.size<=10000000)(_:∀(fa:ε) (H':Hp),H fa=ζ->Cg H' C e d fa (b.cuts:Int) [] []->aA e H H'->Q .non H')
inductive lM(K:Ω)(c:ε)(e:List V)(H:Hp)(Q:VK)(a:XK):Prop
 |mk(d:Df)(b:List V)(_:e=[.str d.f,.ref d.pa,.ref d.pb])(_:H d.pb=δ (.tup b))(_:c8 H d.b b)(_:iB d)(_:∀(v:V) (H':Hp),aN H' (eN c d) v []->af H H'->Q v H')
inductive lI(K:Ω)(e:ε)(f:List V)(H:Hp)(Q:VK)(b:XK):Prop
 |mk(a:ε)(c:List Df)(g:List V)(_:f=[.ref a])(_:H a=δ (.tup g))(_:bX H c g)(_:c.length<=1000)(_:∀d∈c,iB d)(_:∀(v:V) (H':Hp),aN H' (a5 (c.map (eN e))) v []->af H H'->Q v H')
theorem Z0{K:Ω}{t:TE}{Q:List V->Hp->Prop}{H:Hp}(x:H a=δ (.tup g))(u:bX H D g)(R:D.length<=1000)
  (Pv:Nat->List V->Hp->Prop) (z:Pv 0 [] H) (A:∀i Y h,Pv i Y h->af H h/\Y.length<=i)
  (C:∀i d B Y h,D[i]?=δ d->h d.pb=δ (.tup B)->c8 h d.b B->Pv i Y h->t (δ (.str d.f)::δ (.ref d.pa)::δ (.ref d.pb)::l) h λy j=>Pv (i+1) (Y++[y]) j)
  (E:∀Y h,Pv D.length Y h->Q Y h):eJ (uO K a) 3 l (g3 K 0 1 2) mv t Q H:=by
 let F:=aI;let S:=u.len;refine#[λi m Y h=>m=D.length - i/\i<=D.length/\Pv i Y h,#[D.length,Hy,Is _,z],?_];intro i m Y h c;obtain⟨rfl,T,p⟩:=c;obtain⟨s,U⟩:=A i Y h p;let c:aC K h a g:=aC.of (s _ _ x);by_cases n:i < D.length
 .let I:i < g.length:=by omega
  refine .inr #[#[g,g[i],c,Ii I],Hz,Pv$ i+1,λJ j L=>#[D.length - (i+1),Hz,Z,n,L],λv j W o y=>?_];obtain⟨e,y⟩:=y;subst e;let q:=y g c;obtain⟨d,r,B,rfl,M,N,O⟩:=(u.mono$ af.tm s).at i v q;obtain⟨X,t2,t3,rfl⟩:=FQ o;refine#[d.p,_,Z,aC.of M,Z,_,_,Z,_,_,Z,_,_,Z,Z,#[[δ _,δ _,δ _],Z,Z],?_];exact C i d B Y j r N O p
 .let e:i=D.length:=by omega
  subst e;exact .inl #[#[g,c,Hz],E Y h p]
theorem Eg:am ["self","body"] ["self","body"] (ae sR):=bY
theorem Bm(F:aK K "__init__" "Cutting.__init__" sR f t)(d:CK K C)(u:Cl P w K mg base 2 M v ["body"] gE "many_cuts"):ak P w K mg base aD 3 f t ["self","body"] (om C):=by
 refine F.ok Eg ?_ λy A O s H V Q E B h=>?_
 .rintro _ _ _ _ ⟨i,D,a,b,x,rfl,_⟩;rfl
 obtain⟨i,D,a,b,x,rfl,G,I,J,L,q⟩:=h;refine#[_,(jd (@qY _ _ _ _ _ _ _ _ (pv 0) (u.e B.m$ ja (pv 1) jb) Z)$ jg$ @qY _ _ _ _ _ _ _ _ (pv 0) (jG jb) Z),?_];refine ah λS l=>#[_,Z,a,b,x,Z,I,J,L,λT k=>#[_,Z,i,C,D,_,Z,k _ _ G,d.cl,d.nm,HA,l _ _ ?_]];clear l;refine#[pf,λg n=>#[_,Z,i,C,D,_,Z,ao jc n,d.cl,d.nf,(by show 1 < 1000;decide),?_]];let N:g≠i:=λe=>by rw[e,jc]at n;cases n
 let p:H g=ζ:=by
  cases e:H g with
  |none=>rfl
  |some o=>rw[ji N,k _ _ e]at n;cases n
 refine q g _ p #[jc,by rw[ji N,jc],Z] λc o r e=>?_;rw[ji r,ji (λz=>by rw[z,p]at e;cases e),ji r];exact k _ _ e
theorem ny:am ["name","params","body","cutting","first"] z18z (ae sU):=bY
theorem wf(F:aK K "part_made" "part_made" sU f fd)(t:CK K C)(mk:Mk K C fI)(GI:ak P w K mg base aD 3 fI u ["self","body"] (om C))(bI:ay K u ["self","body"] [])(mC:mg "Cutting"=δ (.ref C))(M:mg "NOUGHT"=δ (.ref n))(no:mK K n)(GB:ak P w K mg base aD 63 fB x z11z (ms C 8))(bB:ay K x z11z [])(hB:cj K C "place_of_body" fB)(cG:Cl P w K mg base 8 fG f0 z1z (oq K) "place_of_give")(y:mg "tuple"=ζ)(z:mg "reversed"=ζ):ak P w K mg base aD 64 f fd z18z (lM K n):=by
 refine F.ok ny ?_ λc0 A O s H vs Q E B h=>?_
 .rintro _ _ _ _ ⟨d,G,rfl,_⟩;rfl
 obtain⟨d,G,rfl,hb,a,I,q⟩:=h;refine#[_,(jd (jy 3 ny.nd$ Y1 mk GI B.m Z mC bI .nil bN$ ja (pv 2) jb)$ jd (jy 4 ny.nd$ za (pv 3) t.cl hB GB B.m bB .nil bN$ ja (pv 2)$ ja (cG.e B.m$ ja (Jk (v:=.ref n) Z M Z) jb) jb)$ jg$ jo$ jh$ ja (pv 0)$ ja (pv 1)$ ja (jx$ pv 4)$ ja (@ZT _ _ _ _ _ _ _ _ _ Z Z y LZ Z z Pp (zE (pv 3) Z) HA HA HA HA Hv Hv Hv Hv) jb),?_];let b0:=aI;obtain⟨⟨ys,y0,ok⟩,J,hz⟩:=I;refine ah λF1 j=>#[_,Z,λi D N L n0=>?_];let S:af H (aj (aj H D$ .own i) i$ .ins C D []):=λc o e=>by rw[ji$ jk e N,ji$ jk e L];exact e
 refine#[i,D,d.pb,d.b,G,Z,jc,S _ _ hb,a.mono$ af.tm S,Hz,λp H1 nf R k1=>#[Z,j _ _ ?_]];clear j;let s1:af H H1:=λc o e=>k1 c o (jk e N) (S _ _ e);let T:H p=ζ:=S.free nf;refine ah λF1 j=>#[_,Z,i,D,_,Z,R.ins,Z,_,Z,n,ys,Z,no _,Hz,λv g H2 p2 n2 k2=>?_];let ng:g≠p:=λe=>by rw[e,R.fd]at n2;cases n2
 let U:=s1.trans k2;refine#[i,D,p,d.pb,g,_,[],[],G,FX n,v,ys,d.b,Z,#[R.same k2,p2,ng,ok,by show 0+0+d.b.size<=_;omega],U _ _ hb,a.mono$ af.tm U,Sl J HA,λv3 g3 k V p3 n3 W k3=>j _ _ ?_];clear j;obtain⟨r3,w3,rfl,X,Y⟩:=uI p3;let s3:af H V:=λc o e=>k3 c o (jk e T) (U _ _ e);refine#[_,Z,_,Z,jq X Z #[_,Z,i,C,D,_,_,Z,W.ins,t.cl,t.nf,Z,p,k,Z,aG.of W.fd,λl nl=>#[uf,λr nr=>?_]]];let s5:af V (aj (aj V l$ .tup k.reverse) r$ .tup [.str d.f,.ref d.pa,w3,.ref l]):=(je nl).trans (je nr);refine q (.ref r) _ ?_$ s3.trans s5;refine jD jc$ jm Z jM$ jm Z JL$ jm Z (Y.mono$ af.tm s5)$ jm Z (jD (ao jc nr) ?_) jA;let e:=Y9 (W.tr.mono$ af.tm s5);rw[<- Oh]at e;exact e
theorem Ca:am ["program"] ["program"] (ae nY):=bY
def tQ:sB:=#[.function,[(".0",.local),("name",.local),("params",.local),("body",.local),("part_made",.globalImplicit)],ν,ν,[]]
theorem rP:(z18z:List π).Nodup:=by decide+kernel
theorem Dc:bp ["program"] (ae nY) tQ z18z 3 []:=pk
theorem vZ(F:aK K "made" "made" nY f p)(C:Cl P w K mg base 64 U t z18z (lM K N) "part_made")(M:mg "tuple"=ζ):ak P w K mg base aD 65 f p ["program"] (lI K N):=by
 refine F.ok Ca ?_ λu A o s H V Q E x h=>?_
 .rintro _ _ _ _ ⟨a,D,X,rfl,_⟩;rfl
 obtain⟨a,D,X,rfl,g,y,B,O,q⟩:=h;refine#[_,(jg$ jo$ jC jH Z M LZ$ ja (@zg _ _ _ _ _ _ _ (z18z) (3) ([]) _ _ _ _ Z (zn$ pv 0) Dc (λ_ _ _ _ _=>(wG (K:=K) (n:=3) Z Z (jz (ju (i:=0) rP Z$ ω Z)$ jz (ju (i:=1) rP Z$ ω Z)$ jz (ju (i:=2) rP Z$ ω Z) kx) Z Z)) (λ_ _ _ _ _=>(@zQ _)) (λ_ _ _ _ _=>(C.e x.m$ ja (pv 0)$ ja (pv 1)$ ja (pv 2) jb)) (by intro _;rfl)) jb),?_];refine#[_,Z,a,Z,#[_,aC.of g],?_];refine Z0 g y B (λi V b=>aN b (aE ((D.take i).map$ eN N)) .non V/\af H b/\i<=D.length) #[Z,af.refl _,Is _] (λi V b h=>#[h.2.1,?_]) (λi d G V b c I J h=>?_) (λV b h l L=>?_)
 .rw[zz h.1,Ik,IU];exact Ov ..
 .let R:i < D.length:=by
   rcases NA i D.length with z |z
   .exact z
   .rw[Lr z]at c;cases c
  refine#[_,Z,_,Z,_,Z,d,G,Z,I,J,O d$ IA c,λv Y T j=>#[?_,h.2.1.trans j,R]];rw[Mj,c,IN];exact Jp (jm Z T jA)$ h.1.mono$ af.tm j
 .refine#[l,V,Z,.inl #[aG.of jc,λr S=>?_]];let s:af b (aj (aj b l$ .lst V) r$ .tup V):=(je L).trans (je S);refine q (.ref r) _ (jD jc ?_)$ h.2.1.trans s;let e:=h.1;rw[Ln]at e;exact e.mono$ af.tm s
abbrev sW:ey:=top 52
abbrev sX:ey:=top 53
abbrev nW:ey:=top 54
def aT(p q:ε)(H h:Hp):Prop:=∀b o,b≠p->b≠q->H b=δ o->h b=δ o
theorem aT.refl:aT p q H H:=λ_ _ _ _ h=>h
theorem aT.trans(a:aT p q H d)(b:aT p q d e):aT p q H e:=λc o n m h=>b c o n m (a c o n m h)
theorem aA.two(a:aA p H b):aT p q H b:=λc o n _ h=>a c o n h
theorem aT.of_same(a:af H b):aT p q H b:=λc o _ _ h=>a c o h
theorem aT.at:aT p q H (aj H q o):=λb u _ m e=>by rw[ji m];exact e
def dA(H:Hp)(q:ε):Prop:=∃k:Int,H q=δ (.lst [.int k])
theorem dA.new{o:HO}(h:dA H q)(n:H r=ζ):dA (aj H r o) q:=let #[k,e]:=h;#[k,ao e n]
theorem dA.ne(h:dA H q)(B:ar H p):q≠p:=by obtain⟨k,e⟩:=h;obtain⟨a,b,_,_,_,d⟩:=B.ob;exact jE e d (by intro z;cases z)
theorem dA.but(h:dA H q)(B:ar H p)(k:aA p H a):dA a q:=by let n:=h.ne B;obtain⟨z,e⟩:=h;exact#[z,k _ _ n e]
theorem aT.tm(k:aT p q H h)(B:ar H p)(s:dA H q):ai H h:=λb x e=>by obtain⟨a,c,_,_,_,f⟩:=B.ob;obtain⟨z,g⟩:=s;exact k b _ (jE e f (by intro w;cases w)) (jE e g (by intro w;cases w)) e
def gr(H:Hp)(q:ε):Int:=match H q with
 |some (.lst [.int k])=>k
 |_=>0
theorem JM{H:Hp}(e:H q=δ (.lst [.int k])):gr H q=k:=by unfold gr;rw[e]
theorem Yd{h:Hp}(s:dA H q)(k:∀o,H q=δ o->h q=δ o):gr h q=gr H q:=by obtain⟨z,e⟩:=s;rw[JM e,JM$ k _ e]
theorem kE(B:ar H p)(s:dA H q)(k:aA p H h):gr h q=gr H q:=Yd s λo e=>k _ _ (s.ne B) e
theorem km(s:dA H q)(k:af H h):gr h q=gr H q:=Yd s λo e=>k _ _ e
def EO(H:Hp)(c:π×List π)(v:V):Prop:=∃p t,v= .ref p/\H p=δ (.tup [.str c.1,.ref t])/\H t=δ (.tup$ c.2.map HV)
def dH(H:Hp):List (π×List π)->List V->Prop
 | [],a=>a=[]
 |c::C,a=>∃v r,a=v::r/\EO H c v/\dH H C r
theorem dH.mono(k:ai H b):∀{c:List (π×List π)} {a:List V},dH H c a->dH b c a
 | [],_,h=>h
 |_::_,_,z=>by obtain⟨v,r,e,⟨p,t,E,d,f⟩,g⟩:=z;exact #[v,r,e,#[p,t,E,k _ _ d,k _ _ f],dH.mono k g]
theorem dH.snoc(a:EO H c v):∀{C:List (π×List π)} {b:List V},dH H C b->dH H (C++[c]) (b++[v])
 | [],_,h=>by let e:_=[]:=h;rw[e];exact#[v,[],Z,a,Z]
 |_::_,_,z=>by obtain⟨u,r,e,d,f⟩:=z;exact #[u,r++[v],by rw[e];rfl,d,dH.snoc a f]
theorem dH.len:∀{c:List (π×List π)} {v:List V},dH H c v->v.length=c.length
 | [],_,h=>by let e:_=[]:=h;rw[e];rfl
 |_::_,_,z=>by obtain⟨u,r,e,b,a⟩:=z;rw[e,IL,IL,dH.len a]
theorem dH.at:∀{C:List (π×List π)} {b:List V},dH H C b->∀(i:Nat) (v:V),b[i]?=δ v->∃c,C[i]?=δ c/\EO H c v
 | [],_,h,i,v,a=>by let e:_=[]:=h;rw[e]at a;simp at a
 |c::_,_,q,0,v,a=>by obtain⟨u,r,e,d,f⟩:=q;rw[e]at a;cases a;exact#[c,Z,d]
 |_::C,_,q,i+1,v,a=>by obtain⟨u,r,e,d,f⟩:=q;rw[e]at a;simpa using dH.at f i v (by simpa using a)
theorem BO(h:dH H C a)(i:0<=k)(j:k < (a.length:Int)):∃v c,dC a k=δ v/\c∈C/\EO H c v:=by
 let b:k.toNat < a.length:=by omega
 let d:k=((k.toNat:Nat):Int):=by omega
 let E:a[k.toNat]?=δ a[k.toNat]:=Ii b;let e:dC a ((k.toNat:Nat):Int)=δ a[k.toNat]:=jN E;rw[<- d]at e;obtain⟨c,f,g⟩:=h.at _ _ E;exact#[_,c,e,IA f,g]
def Bd.fit(h:List (π×List π))(y:List π)(d:Nat)(b:Bd):Prop:=(b.Ok y/\b.Cs (h.map λc=>(c.1,c.2.length)))/\b.dep<=d
theorem Zb:Bd.fit h y d .nil:=#[#[trivial,trivial],Is _]
theorem AH{H:List (π×List π)}{l:Lf}(h:l.Ok y)(k:l.Cs (H.map λc=>(c.1,c.2.length))):Bd.fit H y d (.lf p l .nil):=#[#[#[h,trivial],k,trivial],Is _]
theorem Zc{a b:Bd}(h:a.fit H y d)(k:b.fit H y d):(a.app b).fit H y d:=#[#[KE h.1.1 k.1.1,KD h.1.2 k.1.2],by rw[zw];let:=h.2;let:=k.2;omega]
theorem vw{a b:Bd}(c:di y T)(h:a.fit H y d)(k:b.fit H y d):Bd.fit H y (d+1) (.ite p t T a b .nil):=#[#[#[c,h.1.1,k.1.1,trivial],h.1.2,k.1.2,trivial],by show max (max a.dep b.dep+1) 0<=d+1;let:=h.2;let:=k.2;omega]
theorem pZ{a:Bd}(H:di y T)(h:a.fit b y d):Bd.fit b y (d+1) (.loop p t T a .nil):=#[#[#[H,h.1.1,trivial],h.1.2,trivial],by show max (a.dep+1) 0<=d+1;let:=h.2;omega]
def GS:Nat->Nat
 |0=>1
 |d+1=>1+2*(5*GS d)
inductive ip(b:List V)(H:Hp)(Q:VK)(a:XK):Prop
 |mk(p g:ε)(c:List π)(_:b=[.ref p,.ref g])(_:ar H p)(_:H g=δ (.lst (c.map HV)))(_:1<=c.length)(_:c.length<=20)(_:∀(r:ε) (T:Tm) (H':Hp),aQ H' T r->di c T->ar H' p->aA p H H'->Q (.ref r) H')
structure mz(H:Hp)(p g h sp:ε)(ys:List π)(hs:List (π×List π)):Prop where
 B:ar H p
 g:H g=δ (.lst$ ys.map HV)
 y1:1<=ys.length
 y2:ys.length<=20
 h:∃hv,H h=δ (.lst hv)/\dH H hs hv
 h1:1<=hs.length
 h2:hs.length<=20
 h3:∀c∈hs,c.2.length<=6
 s:dA H sp
theorem mz.gsp{H:Hp}{p g h S:ε}{y:List π}{b:List (π×List π)}(G:mz H p g h S y b):g≠S:=by
 obtain⟨k,e⟩:=G.s;refine jE G.g e λz=>?_;injection z with z;let c:=G.y1
 match y,c,z with
 |a::r,_,z=>injection z with d _;cases d
theorem mz.hsp{H:Hp}{p g h S:ε}{y:List π}{f:List (π×List π)}(G:mz H p g h S y f):h≠S/\h≠p:=by
 obtain⟨k,e⟩:=G.s;obtain⟨j,E,l⟩:=G.h;obtain⟨a,b,_,_,_,m⟩:=G.B.ob;let n:=G.h1;let:∃q r,j= .ref q::r:=by
  match f,n,l with
  |c::C,_,#[v,r,e,#[q,t,o,_],_]=>exact#[q,r,by rw[e,o]]
 obtain⟨q,r,rfl⟩:=this;refine#[jE E e λz=>?_,jE E m λz=>?_]
 .injection z with z;injection z with d _;cases d
 .injection z with z;injection z with d _;cases d
theorem mz.but2{H a:Hp}{p g h S:ε}{y:List π}{b:List (π×List π)}(G:mz H p g h S y b)(B:ar a p)(s:dA a S)(k:aT p S H a):mz a p g h S y b:=by obtain⟨c,e,E⟩:=G.h;exact#[B,k _ _ (qc G.B G.g) G.gsp G.g,G.y1,G.y2,#[c,k _ _ G.hsp.2 G.hsp.1 e,E.mono$ k.tm G.B G.s],G.h1,G.h2,G.h3,s]
theorem mz.but{H a:Hp}{p g h S:ε}{y:List π}{b:List (π×List π)}(G:mz H p g h S y b)(B:ar a p)(k:aA p H a):mz a p g h S y b:=G.but2 B (G.s.but G.B k) k.two
inductive iR(n:Nat)(f:List V)(H:Hp)(Q:VK)(a:XK):Prop
 |mk(p g h e:ε)(d:Nat)(i:List π)(c:List (π×List π))(_:f=[.ref p,.ref g,.ref h,.ref e,.int (d:Int)])(_:mz H p g h e i c)(_:d < n)(_:0 < gr H e)(_:∀(r:ε) (b:Bd) (H':Hp),c8 H' b [.ref r]->(b.size:Int)+gr H' e<=gr H e->0<=gr H' e->b.fit c i d->ar H' p->dA H' e->aT p e H H'->Q (.ref r) H')
inductive gB(n:Nat)(f:List V)(H:Hp)(Q:VK)(a:XK):Prop
 |mk(p g h e:ε)(d:Nat)(i:List π)(c:List (π×List π))(_:f=[.ref p,.ref g,.ref h,.ref e,.int (d:Int)])(_:mz H p g h e i c)(_:d < n)(_:0<=gr H e)(_:∀(r:ε) (b:Bd) (bs:List V) (H':Hp),H' r=δ (.tup bs)->c8 H' b bs->(b.size:Int)+gr H' e<=gr H e->0<=gr H' e->b.fit c i d->ar H' p->dA H' e->aT p e H H'->Q (.ref r) H')
theorem tN:am ["_law_box_here","_law_names_here","_law_kind"] z27z (ae sW):=bY
theorem wm(F:aK K "_law_spot" "_law_spot" sW f M)(C:Cl P w K mg base 1 Y N z0z aW "_law_take")(O:Cl P w K mg base 6 fM R z10z (cV 4) "_law_term"):ak P w K mg base aD 7 f M z27z ip:=by
 refine F.ok tN ?_ λS A o s H vs Q E a h=>?_
 .rintro _ _ _ _ ⟨p,g,y,rfl,_⟩;rfl
 obtain⟨p,g,y,rfl,B,I,i,j,q⟩:=h;refine#[_,(jd (jy 2 tN.nd$ C.e a.m$ ja (pv 0)$ ja jf jb)$ jd (jw (jB Kq (pv 2) jf$ au _) (jg$ jo$ O.e a$ ja (pv 0)$ ja (pv 1)$ ja jf jb) jp)$ jd (jw (zc$ pv 2) (jg$ jo$ jh$ ja jj$ ja (jv kI (jv kI (jv qX jf jf) jf)$ C.e a.m$ ja (pv 0)$ ja jf jb) jb) jp)$ jg$ jo$ jh$ ja jj$ ja (C.e a.m$ ja (pv 0)$ ja jf jb) jb),?_];let k:g≠p:=qc B I;refine#[_,Z,p,8,Z,B,HA,HA,λkd J k0 k1 l L=>?_];let t:J g=δ (.lst$ y.map HV):=by rw[L g k];exact I
 let u:aA p H J:=aA.of_eq L;refine#[_,Z,_,_,Z,Z,_,Z,?_];refine bZ (λc=>?_) (λc=>?_)
 .exact#[_,Z,_,Z,p,g,1,y,Z,l,t,i,j,HA,HA,λr T v U dT W b X=>q r T v U #[W,Hz] b (u.trans X)]
 refine#[_,Z,Z,_,Z,?_];refine bZ (λc=>?_) (λc=>?_)
 .refine#[_,_,Z,Z,#[HA,HA,HA],_,_,Z,Z,_,Z,p,4,Z,l,HA,HA,λD v d x b z=>#[_,_,Z,Z,bK,λr n=>?_]];exact q r (.num (1000000000000000000 - 1 - D)) _ jc #[#[Hz,Hz],(by show 0 < 6;decide)] (b.upd_new n) ((u.trans$ aA.of_eq z).upd_new n)
 .refine#[_,Z,p,12,Z,l,HA,HA,λD v d x b z=>#[bK,λr n=>?_]];exact q r (.num D) _ jc #[#[d,Hz],(by show 0 < 6;decide)] (b.upd_new n) ((u.trans$ aA.of_eq z).upd_new n)
theorem iQ:am z38z z6z (ae sX):=bY
def Z1:sB:=#[.function,[(".0",.local),("_law_one",.local),("_law_term",.globalImplicit),("_law_box_here",.free),("_law_names_here",.free)],ν,ν,[]]
theorem A7:(z33z:List π).Nodup:=by decide+kernel
theorem Aq:bp z38z (ae sX) Z1 z33z 1 [0,1]:=pk
def RH(p g h s:ε)(d:Nat)(k:Int)(y:π)(H:Hp)(a:_L.St)(b:Hp):Prop:=a=[δ$ .ref p,δ$ .ref g,δ$ .ref h,δ$ .ref s,δ$ .int (d:Int),δ$ .int k,δ$ .str y,ζ,ζ,ζ]/\b=H
theorem Bt(F:aK K "_law_statement" "_law_statement" sX f fd)(cT:Cl P w K mg base 1 fT f0 z0z aW "_law_take")(cM:Cl P w K mg base 6 fM f3 z10z (cV 4) "_law_term")(cP:Cl P w K mg base 7 fP f4 z27z ip "_law_spot"){L:Nat}(cB:Cl P w K mg base (L+9) fB f5 z6z (gB n) "_law_body")(ml:mg "len"=ζ)(m0:mg "tuple"=ζ):ak P w K mg base aD (L+10) f fd z6z (iR$ n+1):=by
 refine F.ok iQ ?_ λc3 A o2 s H vs Q E U h=>?_
 .rintro _ _ _ _ ⟨p,g,h,S,d,ys,hs,rfl,_⟩;rfl
 obtain⟨p,g,h,S,d,ys,hs,rfl,G0,hd,b7,q⟩:=h;refine#[_,(jd (jy 5 iQ.nd$ cT.e U.m$ ja (pv 0)$ ja jf jb)$ jd (jy 6 iQ.nd$ js jr (pv 1) (cT.e U.m$ ja (pv 0)$ ja (jS jL Z ml LI$ ja (pv 1) jb) jb) (λ_ _=>Z))$ jd (kQ (jv kI (js jr (pv 3) jf (λ_ _=>Z)) jf)$ qW (pv 3) jf zH)$ jd (jw (jB Kq (pv 5) jf$ au _) (jg$ jo$ jh$ ja jj$ ja (pv 6)$ ja (cP.e U.m$ ja (pv 0)$ ja (pv 1) jb) jb) jp)$ jd (jw (PW.pt$ YR (zc$ pv 5)$ Q0$ zc$ pv 5) (jg$ jo$ jh$ ja jj$ ja (cP.e U.m$ ja (pv 0)$ ja (pv 1) jb)$ ja (cM.e U.m$ ja (pv 0)$ ja (pv 1)$ ja jf jb) jb) jp)$ jd (jw (PW.pt$ YR (zc$ pv 5)$ Q0$ zc$ pv 5) (jd (kQ (js jr (pv 2) (cT.e U.m$ ja (pv 0)$ ja (jS jL Z ml LI$ ja (pv 2) jb) jb) (λ_ _=>Z))$ zD (n:=2) Z$ jz (ju (i:=7) iQ.nd Z$ ω Z)$ jz (ju (i:=8) iQ.nd Z$ ω Z) kx)$ jg$ jo$ jh$ ja jj$ ja (pv 6)$ ja (pv 7)$ ja (jC jH Z m0 LZ$ ja (@zg _ _ _ _ _ _ _ (z33z) (1) ([0,1]) _ _ _ _ Z (zn$ pv 8) Aq (λ_ _ _ _ _=>(ju (i:=0) A7 Z$ ω Z)) (λ_ _ _ _ _=>(@zQ _)) (λ_ _ _ _ _=>(cM.e U.m$ ja (pv 1)$ ja (pv 2)$ ja jf jb)) (by intro _;rfl)) jb) jb) jp)$ jd (jZ$ jw (PW.pt$ Q1 (zc$ pv 5)$ Kf$ jB JW (pv 4) jf$ au _) (jd (jy 9 iQ.nd$ cB.e U$ ja (pv 0)$ ja (pv 1)$ ja (pv 2)$ ja (pv 3)$ ja (jv kI (pv 4) jf) jb)$ jg$ jo$ jh$ ja jj$ ja (cM.e U.m$ ja (pv 0)$ ja (pv 1)$ ja jf jb)$ ja (pv 9)$ ja (cB.e U$ ja (pv 0)$ ja (pv 1)$ ja (pv 2)$ ja (pv 3)$ ja (jv kI (pv 4) jf) jb) jb) jp)$ jd (jZ$ jw (PW.pt$ Q1 (zc$ pv 5)$ Kf$ jB JW (pv 4) jf$ au _) (jg$ jo$ jh$ ja jj$ ja (cM.e U.m$ ja (pv 0)$ ja (pv 1)$ ja jf jb)$ ja (cB.e U$ ja (pv 0)$ ja (pv 1)$ ja (pv 2)$ ja (pv 3)$ ja (jv kI (pv 4) jf) jb) jb) jp)$ jd (jw (zc$ pv 5) (jg$ jo$ jh$ ja jj$ ja (cM.e U.m$ ja (pv 0)$ ja (pv 1)$ ja jf jb) jb) jp)$ jg$ jo$ jh$ ja jj$ ja (pv 6)$ ja (cM.e U.m$ ja (pv 0)$ ja (pv 1)$ ja jf jb) jb),?_];let b9:=aI;let B:=G0.B;let c4:g≠p:=qc B G0.g;refine ah λF1 u=>#[_,Z,p,10,Z,B,HA,HA,λkd H1 k0 k1 B1 e1=>u _ _ ?_];clear u;let G1:=G0.but B1 (aA.of_eq e1);let y1:=G0.y1;let y2:=G0.y2;refine ah λF1 u=>#[_,Z,_,Z,_,Z,g,_,Z,.inl$ aG.of G1.g,p,_,Z,B1,by rw[Ik];omega,by rw[Ik];omega,λd2 H2 d1 d0 B2 e2=>?_];rw[Ik]at d0;let G2:=G1.but B2 (aA.of_eq e2);obtain⟨y,hy,a2⟩:=KC (ys:=ys) d1 d0;refine#[g,_,_,_,Z,Z,aG.of G2.g,a2,u _ _ ?_];clear u;obtain⟨k,hk⟩:=G2.s;let ek:gr H S=k:=((kE B1 G1.s$ aA.of_eq e2).trans$ kE B G0.s$ aA.of_eq e1).symm.trans (JM hk);refine ah λF1 u=>#[_,Z,S,_,_,_,Z,Z,aG.of hk,Z,_,_,Z,Z,_,Z,S,_,_,0,Z,Z,hk,Z,u _ _ ?_];clear u;let s0:=G2.s.ne B2;let B3:ar (aj H2 S$ .lst ([.int k].set 0 (.int$ k - 1))) p:=B2.eq (ji$ IC s0);let s3:dA (aj H2 S$ .lst ([.int k].set 0 (.int$ k - 1))) S:=#[k - 1,jc];let K3:aT p S H (aj H2 S$ .lst ([.int k].set 0 (.int$ k - 1))):=((aA.of_eq e1).trans$ aA.of_eq e2).two.trans aT.at;let G:=G0.but2 B3 s3 K3;let e3:gr (aj H2 S$ .lst ([.int k].set 0 (.int$ k - 1))) S=k - 1:=JM jc;generalize aj H2 S (.lst ([.int k].set 0 (.int$ k - 1)))=H3 at B3 s3 K3 G e3;let l0:∀(l:Lf) (M:List V) (j:Hp) (r:ε),uP j l M->l.Ok ys->l.Cs (hs.map λc=>(c.1,c.2.length))->mz j p g h S ys hs->aT p S H j->gr j S=k - 1->j r=ζ->Q (.ref r) (aj j r$ .tup M):=λl M j r hl ok cs C K4 e4 nr=>
  q r (.lf r l .nil) _ #[M,[],Z,jc,hl.mono$ af.tm$ je nr,Z] (by rw[km C.s$ je nr];show((0+1:Nat):Int)+_<=_;omega) (by rw[km C.s$ je nr];omega) (AH ok cs) (C.B.upd_new nr) (C.s.new nr) (K4.trans$ aT.of_same$ je nr)
 refine ah λF1 u=>nP λG' D=>#[_,Z,_,_,Z,Z,_,Z,D _ _ ?_];clear D;refine bZ (λc=>?_) (λc=>u _ _ ?_)
 .refine#[_,Z,_,Z,_,Z,p,g,ys,Z,G.B,G.g,y1,y2,λr T j W oT B4 J=>#[eA,λt N=>?_]];exact l0 (.rd y r T) _ j t #[Z,W] #[hy,oT] trivial (G.but B4 J) (K3.trans J.two) ((kE G.B G.s J).trans e3) N
 let wr:∀(r:ε) (T0:Tm) (j:Hp),aQ j T0 r->di ys T0->ar j p->aA p H3 j->dP (cV 4) [] E0 (al (aZ 0)$ al (aZ 1)$ al (tC$ .int 2) aJ) [δ$ .ref p,δ$ .ref g,δ$ .ref h,δ$ .ref S,δ$ .int (d:Int),δ$ .int kd,δ$ .str y,ζ,ζ,ζ] j (λv o=>3<=υ/\∀t,o t=ζ->Q (.ref t) (aj o t$ .tup [.str "write",.ref r,v])):=λr T0 j h4 o1 B4 J=>by refine#[_,Z,_,Z,p,g,2,ys,Z,B4,(G.but B4 J).g,y1,y2,HA,HA,λX T o W dT gT R a=>#[HA,λt N=>?_]];exact l0 (.wr r X T0 T) _ o t #[Z,h4.but B4 a,W] #[o1,gT,Hz] trivial (G.but R$ J.trans a) (K3.trans (J.trans a).two) ((kE G.B G.s$ J.trans a).trans e3) N
 refine ah λF1 u=>nP λG' D=>?_;let Y:G' μ H3:=D _ _ (AU #[_,Z,_,Z,p,g,ys,Z,G.B,G.g,y1,y2,λr T0 j h4 o1 B4 J=>wr r T0 j h4 o1 B4 J]);refine#[_,Z,Z,_,Z,bZ (λc=>Y) (λc=>#[_,Z,Z,_,Z,yi Y λc2=>D _ _ (aH c2$ u _ _ ?_)])];clear Y D u;obtain⟨hv,hh,hH⟩:=G.h;let hl:=hH.len;let h1:=G0.h1;let h2:=G0.h2;let c1:∀(f':π) (ps:List π) (h':(f',ps.length)∈hs.map λc=>(c.1,c.2.length)) (t:ε) (j:Hp),mz j p g h S ys hs->aT p S H j->gr j S=k - 1->j t=δ (.tup$ ps.map HV)->ps.length<=6->
   eJ (uO K t) 1 [δ$ .ref p,δ$ .ref g] (bG 0) mv (dP (cV 4) [] E0$ al (aZ 1)$ al (aZ 2)$ al (tC$ .int 1) aJ) (λM o=>∀l,o l=ζ->∃p' y0,[HX l]=[.ref p']/\((aG K (aj o l$ .lst M) p' y0/\∀l2,aj o l (.lst M) l2=ζ->4<=υ/\∀r,aj (aj o l$ .lst M) l2 (.tup y0) r=ζ->Q (.ref r) (aj (aj (aj o l$ .lst M) l2$ .tup y0) r$ .tup [.str "call",.str y,.str f',.ref l2]))∨(aC K (aj o l$ .lst M) p' y0/\4<=υ/\∀r,aj o l (.lst M) r=ζ->Q (.ref r) (aj (aj o l$ .lst M) r$ .tup [.str "call",.str y,.str f',.ref p'])))) j:=λf' ps h' t j C K4 e4 ht c5=>by
  refine zX (K:=K) (xs:=ps.map HV) (by rw[Ik];omega) (λi M o=>∃ts:List (ε×Tm),M=ts.map (λc=>HX c.1)/\ts.length=i/\(∀c∈ts,aQ o c.2 c.1/\di ys c.2)/\ar o p/\aA p j o) #[[],Z,Z,(λ_ h=>absurd h IF),C.B,aA.refl] (λi M o h5=>?_) ?_ ?_
  .obtain⟨ts,rfl,e5,_,_,a⟩:=h5;exact#[aC.of$ a.tm C.B _ _ ht,by rw[Ik,e5];exact Im _]
  .intro i x M o hx a3;obtain⟨ts,rfl,e5,h5,R,a⟩:=a3;refine#[_,Z,_,Z,p,g,1,ys,Z,R,(C.but R a).g,y1,y2,HA,HA,λX T H6 W dT gT B6 k6=>#[ts++[(X,T)],by rw[IN];rfl,by rw[Io,e5];rfl,λc hc=>?_,B6,a.trans k6]];rcases γ.mp hc with hc |hc
   .exact#[(h5 c hc).1.but R k6,(h5 c hc).2]
   .rw[ρ.mp hc];exact#[W,gT,(by show T.depth < 6;omega)]
  .rintro M o ⟨ts,rfl,e5,h5,R,a⟩ l nl;refine#[l,_,Z,.inl #[aG.of jc,λl2 n0=>#[HA,λr nr=>?_]]];let O:=C.but R a;let s6:af o (aj (aj o l$ .lst$ ts.map λc=>HX c.1) l2$ .tup$ ts.map λc=>HX c.1):=(je nl).trans (je n0);rw[Ik]at e5;exact l0 (.cl y f' l2 ts) _ _ r #[Z,jc,λc hc=>(h5 c hc).1.same s6] #[hy,Hz,λc hc=>(h5 c hc).2] (by show(f',ts.length)∈_;rw[e5];exact h') (O.but2 ((O.B.upd_new nl).upd_new n0) ((O.s.new nl).new n0)$ aT.of_same s6) ((K4.trans a.two).trans$ aT.of_same s6) ((km O.s s6).trans ((kE C.B C.s a).trans e4)) nr
 refine ah λF1 u=>nP λG' D=>?_;let Y:G' μ H3:=by refine D _ _$ AU ?_;clear u D;refine ah λF2 f2=>#[_,Z,_,Z,_,Z,h,_,Z,.inl$ aG.of hh,p,_,Z,G.B,Hz,Hz,λd4 j d3 d5 B4 e4=>?_];let C:=G.but B4 (aA.of_eq e4);let J:aA p H3 j:=aA.of_eq e4;let a4:=hH.mono (J.tm G.B);obtain⟨v,c0,a',a0,p4,t4,rfl,z1,z2⟩:=BO a4 d3 d5;refine#[h,_,_,_,Z,Z,aG.of$ J _ _ G.hsp.2 hh,a',p4,_,Z,aC.of z1,Z,_,_,Z,_,_,Z,Z,f2 _ _ ?_];clear f2;refine#[_,Z,_,Z,_,Z,t4,Z,#[_,aC.of z2],?_];exact c1 c0.1 c0.2 (cJ.mpr #[c0,a0,Z]) t4 j C (K3.trans J.two) ((kE G.B G.s J).trans e3) z2$ G0.h3 c0 a0
 refine#[_,Z,Z,_,Z,bZ (λc=>Y) (λc=>#[_,Z,Z,_,Z,yi Y λc2=>D _ _ (aH c2$ u _ _ ?_)])];clear Y D u;let l1:∀(c:(0:Int) < (d:Int)),∃d':Nat,d=d'+1:=λc=>#[d - 1,Hz];refine ah λF1 u=>dE (RH p g h S d kd y H3) (λE6 eR f6=>?_) λσ0 H' z=>?_
 .clear u;refine nP λG' D=>#[_,Z,Z,_,Z,?_];refine bZ (λc=>?_) (λc=>D _ _ (vG$ f6 _ _ #[Z,Z]));refine#[_,Z,_,_,Z,Z,_,Z,D _ _ ?_];clear D;refine bZ (λc2=>?_) (λc2=>f6 _ _ #[Z,Z]);clear f6;obtain⟨d',rfl⟩:=l1 (Ll c2);let ed:(((d'+1:Nat):Int) - 1)=((d':Nat):Int):=by omega
  refine#[_,Z,_,Z,_,Z,_,Z,_,Z,_,_,Z,Z,p,g,h,S,d',ys,hs,(by show [HX p,HX g,HX h,HX S,HW (((d'+1:Nat):Int) - 1)]=_;rw[ed]),G,Hz,Hz,λr b bs j b1 b2 c6 b4 b5 B4 s4 J=>?_];let C:=G.but2 B4 s4 J;refine#[_,Z,_,Z,p,g,2,ys,Z,C.B,C.g,y1,y2,HA,HA,λX T o W dT gT R a=>?_];let O:=C.but R a;refine#[_,Z,_,Z,_,Z,_,Z,_,Z,_,Z,_,_,Z,Z,p,g,h,S,d',ys,hs,(by show [HX p,HX g,HX h,HX S,HW (((d'+1:Nat):Int) - 1)]=_;rw[ed]),O,Hz,(by rw[kE C.B C.s a];exact b4),λr3 b3 b0 H6 h6 h7 a1 h8 h0 B6 s6 k6=>#[uf,λt N=>?_]];let G6:=O.but2 B6 s6 k6;let tm:ai j H6:=λb' xs e=>k6.tm O.B O.s _ _ (a.tm C.B _ _ e);let I:ai H6 (aj H6 t$ .tup [.str "if",.ref X,.ref r,.ref r3]):=af.tm (je N);rw[eR];refine q t (.ite t X T b b3 .nil) _ #[r,r3,bs,b0,[],Z,jc,(W.mono$ k6.tm O.B O.s).mono I,I _ _$ tm _ _ b1,I _ _ h6,(b2.mono tm).mono I,h7.mono I,Z] (by let x1:=kE C.B C.s a;rw[km G6.s$ je N];show((b.size+b3.size+0+1:Nat):Int)+_<=_;omega) (by rw[km G6.s$ je N];exact h8) (vw #[gT,Hz] b5 h0) (G6.B.upd_new N) (G6.s.new N) (((K3.trans J).trans$ a.two.trans k6).trans$ aT.of_same$ je N)
 obtain⟨rfl,e⟩:=z;rw[e];refine u _ _ ?_;clear u;refine ah λF1 u=>dE (RH p g h S d kd y H3) (λE6 eR f6=>?_) λσ0 H' z=>?_
 .clear u;refine nP λG' D=>#[_,Z,Z,_,Z,?_];refine bZ (λc=>?_) (λc=>D _ _ (vG$ f6 _ _ #[Z,Z]));refine#[_,Z,_,_,Z,Z,_,Z,D _ _ ?_];clear D;refine bZ (λc2=>?_) (λc2=>f6 _ _ #[Z,Z]);clear f6;obtain⟨d',rfl⟩:=l1 (Ll c2);let ed:(((d'+1:Nat):Int) - 1)=((d':Nat):Int):=by omega
  refine#[_,Z,_,Z,p,g,2,ys,Z,G.B,G.g,y1,y2,HA,HA,λX T o W dT gT R a=>?_];let O:=G.but R a;refine#[_,Z,_,Z,_,Z,_,Z,_,Z,_,_,Z,Z,p,g,h,S,d',ys,hs,(by show [HX p,HX g,HX h,HX S,HW (((d'+1:Nat):Int) - 1)]=_;rw[ed]),O,Hz,(by rw[kE G.B G.s a];omega),λr3 b3 b0 H6 h6 h7 a1 h8 h0 B6 s6 k6=>#[eA,λt N=>?_]];let G6:=O.but2 B6 s6 k6;let I:ai H6 (aj H6 t$ .tup [.str "while",.ref X,.ref r3]):=af.tm (je N);rw[eR];refine q t (.loop t X T b3 .nil) _ #[r3,b0,[],Z,jc,(W.mono$ k6.tm O.B O.s).mono I,I _ _ h6,h7.mono I,Z] (by let x1:=kE G.B G.s a;rw[km G6.s$ je N];show((b3.size+0+1:Nat):Int)+_<=_;omega) (by rw[km G6.s$ je N];exact h8) (pZ #[gT,Hz] h0) (G6.B.upd_new N) (G6.s.new N) ((K3.trans$ a.two.trans k6).trans$ aT.of_same$ je N)
 obtain⟨rfl,e⟩:=z;rw[e];refine u _ _ ?_;clear u;refine ah λF1 u=>nP λG' D=>#[_,Z,Z,_,Z,D _ _ ?_];clear D;refine bZ (λc=>?_) (λc=>u _ _ ?_)
 .refine#[_,Z,_,Z,p,g,2,ys,Z,G.B,G.g,y1,y2,HA,HA,λX T o W dT gT R a=>#[bK,λt N=>?_]];exact l0 (.gv X T) _ o t #[Z,W] #[gT,Hz] trivial (G.but R a) (K3.trans a.two) ((kE G.B G.s a).trans e3) N
 .refine#[_,Z,_,Z,_,Z,p,g,3,ys,Z,G.B,G.g,y1,y2,HA,HA,λX T o W dT gT R a=>#[eA,λt N=>?_]];exact l0 (.st y X T) _ o t #[Z,W] #[hy,gT,Hz] trivial (G.but R a) (K3.trans a.two) ((kE G.B G.s a).trans e3) N
theorem nq:am ["_law_box_here","_law_names_here","_law_heads","_law_spare","_law_deep","_law_body_here","_law_k"] z6z (ae nW):=bY
theorem Zd(F:aK K "_law_body" "_law_body" nW f fd)(cT:Cl P w K mg base 1 fT f0 z0z aW "_law_take"){L:Nat}(cS:Cl P w K mg base (L+8) fS f1 z6z (iR n) "_law_statement")(mr:mg "range"=ζ)(m2:mg "tuple"=ζ):ak P w K mg base aD (L+9) f fd z6z (gB n):=by
 refine F.ok nq ?_ λc0 A o1 s H v Q E hr h=>?_
 .rintro _ _ _ _ ⟨p,g,h,S,d,ys,hs,rfl,_⟩;rfl
 obtain⟨p,g,h,S,d,ys,hs,rfl,G,hd,h0,q⟩:=h;refine#[_,(jd (jy 5 nq.nd$ jG jb)$ jd (kX IZ Z (ze Z mr$ ja (cT.e hr.m$ ja (pv 0)$ ja jf jb) jb) (ju (i:=6) nq.nd Z$ ω Z)$ jg$ jw (jB JW (js jr (pv 3) jf (λ_ _=>Z)) jf$ au _) (jg$ jR$ kH IH IR IQ jP (pv 5)$ ja (cS.e hr$ ja (pv 0)$ ja (pv 1)$ ja (pv 2)$ ja (pv 3)$ ja (pv 4) jb) jb) jp)$ jg$ jo$ jC jH Z m2 LZ$ ja (pv 5) jb),?_];let b0:=aI;refine#[Is _,λl N=>?_];let s0:af H (aj H l$ .lst []):=je N;let O:mz (aj H l$ .lst []) p g h S ys hs:=G.but2 (G.B.upd_new N) (G.s.new N) (aT.of_same s0);let l1:aj H l (.lst []) l=δ (.lst []):=jc;let lp:l≠p:=G.B.ne N;let D:l≠S:=λe=>by obtain⟨k,z⟩:=G.s;rw[<- e,N]at z;cases z
 let k1:aT p S H (aj H l$ .lst []):=aT.of_same s0;let R:gr (aj H l$ .lst []) S=gr H S:=km G.s s0;generalize aj H l (.lst [])=H1 at O l1 k1 R;refine#[_,Z,p,6,Z,O.B,HA,HA,λm H2 m0 m1 B2 e2=>#[_,Z,Hz,Hz,?_]];let G2:=O.but B2 (aA.of_eq e2);refine QC (lo:=0) (λi σ I=>∃(o6:Option V) (v:List V) (b:Bd),σ=[δ$ .ref p,δ$ .ref g,δ$ .ref h,δ$ .ref S,δ$ .int (d:Int),δ$ .ref l,o6]/\I l=δ (.lst v)/\c8 I b v/\((b.size:Int)+gr I S<=gr H S/\0<=gr I S)/\b.fit hs ys d/\v.length<=i/\ar I p/\dA I S/\aT p S H I)
  #[ζ,[],.nil,Z,by rw[e2 l lp];exact l1,Z,(by rw[kE O.B O.s$ aA.of_eq e2,R];exact#[by show((0:Nat):Int)+_<=_;omega,h0]),Zb,Is _,B2,G2.s,k1.trans (aA.of_eq e2).two] ?_ ?_
 .intro i σ H3 hi J;obtain⟨o6,v,b,rfl,a,u,j,x,h1,T,C,U⟩:=J;let G3:=G.but2 T C U;obtain⟨kk,W⟩:=id C;refine#[_,Z,S,_,_,_,Z,Z,aG.of W,Z,_,_,Z,Z,_,Z,?_];refine bZ (λc=>?_) (λc=>?_)
  .refine#[_,Z,.inl #[Z,_,aG.of a],_,Z,_,Z,_,Z,_,Z,_,Z,p,g,h,S,d,ys,hs,Z,G3,hd,(by rw[JM W];exact Ll c),λr b4 H4 h2 h5 h3 h4 B4 s4 k4=>?_];let X:H4 l=δ (.lst v):=k4 _ _ lp D a;refine#[l,_,_,Z,Z,X,Hz,?_];let tm:ai H4 (aj H4 l$ .lst$ v++[.ref r]):=λb' xs e=>by rw[ji$ jE e X (by intro z;cases z)];exact e
   let Y:ai H3 H4:=k4.tm T C;refine#[_,_,b.app b4,Z,jc,(h2.mono tm).app ((u.mono Y).mono tm),?_,Zc x h4,by rw[Io];show v.length+1<=i+1;omega,B4.eq$ ji$ IC lp,?_,λb' o n1 n2 e=>?_]
   .rw[jX,Yd s4 λo e=>by rw[ji$ IC D];exact e];obtain⟨z1,z2⟩:=j;exact#[Hz,h3]
   .obtain⟨z,hz⟩:=s4;exact#[z,by rw[ji$ IC D];exact hz]
   .rw[ji$ jk e N];exact k4 _ _ n1 n2$ U _ _ n1 n2 e
  .exact#[_,v,b,Z,a,u,j,x,Hz,T,C,U]
 .intro σ H3 J;obtain⟨o6,v,b,rfl,a,u,j,x,h1,T,C,U⟩:=J;refine#[_,Z,l,v,Z,.inl #[aG.of a,λt M=>?_]];let hm:(m).toNat<=5:=by omega
  refine q t b v _ jc (u.mono$ af.tm$ je M) (by rw[km C$ je M];exact j.1) (by rw[km C$ je M];exact j.2) x (T.upd_new M) (C.new M)$ U.trans$ aT.of_same$ je M
theorem rR:ak P w K mg base aD 8 f c z6z (iR 0):=by
 let n:∀v H Q E,¬iR 0 v H Q E:=λv H Q E h=>by obtain⟨p,g,h,S,d,y,e,_,_,b,_⟩:=h;exact absurd b$ MN _
 exact#[λv H Q E h=>absurd h (n v H Q E),λA o s H a u v Q E _ _ _ _ h=>absurd h (n v H Q E)]
theorem Eo(F:aK K "_law_statement" "_law_statement" sX f e)(FB:aK K "_law_body" "_law_body" nW g a)(c:Cl P w K mg base 1 r k z0z aW "_law_take")(C:Cl P w K mg base 6 s l z10z (cV 4) "_law_term")(h:Cl P w K mg base 7 t o z27z ip "_law_spot")(b:ay K e z6z [])(M:mg "_law_statement"=δ (.ref f))(B:ay K a z6z [])(i:mg "_law_body"=δ (.ref g))(j:mg "len"=ζ)(m:mg "tuple"=ζ)(d:mg "range"=ζ):
  ∀n:Nat,ak P w K mg base aD (n+n+8) f e z6z (iR n)/\ak P w K mg base aD (n+n+9) g a z6z (gB n)
 |0=>#[rR,Zd (L:=0) FB c #[rR,b,F.kp,M] d m]
 |n+1=>by
  let I:=Eo F FB c C h b M B i j m d n;let E:n+n+10=n+1+(n+1)+8:=by omega
  let p:n+n+2+9=n+1+(n+1)+9:=by omega
  let H:=Bt (L:=n+n) F c C h #[I.2,B,FB.kp,i] j m;let q:=Zd (L:=n+n+2) FB c #[H,b,F.kp,M] d m;rw[<- E,<- p];exact#[H,q]
theorem Dh{x:List V}(h:k<=x.length):aX x ζ (δ (k:Int))=x.take k:=by
 unfold aX;rw[HT.sIx_nat,HT.sIx_none];let e:min k x.length=k:=by omega
 rw[e];simp
abbrev BP:ey:=top 55
theorem vm(h:0<=d)(H:d < 4):∃D:Nat,dC [HW 3,.int 3,.int 3,.int 5] d=δ (.int (D:Int))/\D < 6/\GS D<=111111/\D<=5:=by
 rcases(by omega:d=0∨d=1∨d=2∨d=3) with rfl |rfl |rfl |rfl
 .exact#[3,Z,HA,HA,HA]
 .exact#[3,Z,HA,HA,HA]
 .exact#[3,Z,HA,HA,HA]
 .exact#[5,Z,HA,HA,HA]
theorem pO{ys:List π}{k:Int}(h:ys.length=20)(H:14<=k)(a:k<=20):1<=(be ys (δ 8)$ δ k).length/\(be ys (δ 8)$ δ k).length<=20:=by
 refine#[?_,by let:=qB ys (δ 8) (δ k);omega];let e:(8:Int)=((8:Nat):Int):=rfl;let E:k=((k.toNat:Nat):Int):=by omega
 unfold be;rw[e,E,HT.sIx_nat,HT.sIx_nat,IU,L9];omega
theorem vj{ss:List π}(h:0<=k):(be ss ζ$ δ k).length<=k.toNat:=by
 let e:k=((k.toNat:Nat):Int):=by omega
 unfold be;rw[e,HT.sIx_nat,HT.sIx_none,IU];omega
theorem fQ{t u:TS}(h:∀E:a7,(∀a b,u D a b->E.nx a b)->t E c H):cR t u D c H:=h { D with nx:=u D } λ_ _ h=>h
def C0(h:List (π×List π)):Prop:=∀c∈h,c.1.length<=20/\c.2.length<=6
def GZ(H:Hp)(D:List Df):Prop:=∀d∈D,∃p:List π,H d.pa=δ (.tup$ p.map HV)/\p.length<=100
theorem Jz{a:Type}{P:a->Prop}{X:List a}{x:a}(h:∀c∈X,P c)(H:P x):∀c∈X++[x],P c:=λc b=>by
 rcases γ.mp b with h1 |h1
 .exact h c h1
 .rw[ρ.mp h1];exact H
def iz(H:Hp)(D:List Df)(N:List Nat):Prop:=D.length=N.length/\∀(i:Nat) (d:Df) (n:Nat),D[i]?=δ d->N[i]?=δ n->∃p:List π,H d.pa=δ (.tup$ p.map HV)/\p.length=n/\n<=100
theorem iz.mono(h:iz H D N)(k:ai H a):iz a D N:=#[h.1,λi d n b c=>let #[p,e,l]:=h.2 i d n b c;#[p,k _ _ e,l]]
theorem iz.snoc{d:Df}{p:List π}(h:iz H D N)(e:H d.pa=δ (.tup$ p.map HV))(l:p.length<=100):iz H (D++[d]) (N++[p.length]):=by
 refine#[by rw[Io,Io,h.1];rfl,λi c n a b=>?_];by_cases f:i < D.length
 .rw[Mf f]at a;rw[Mf (by rw[<- h.1];exact f)]at b;exact h.2 i c n a b
 .let g:i < (D++[d]).length:=(τ.mp a).1;rw[Io]at g;let E:i=D.length:=by let:i < D.length+1:=g;omega
  subst E;rw[LN$ Im _,M6]at a;rw[h.1,LN$ Im _,M6]at b;cases a;cases b;exact#[p,e,Z,l]
theorem iz.v(h:iz H D n):GZ H D:=λd b=>by
 obtain⟨i,a,e⟩:=GE.mp b;let c:D[i]?=δ d:=by rw[<- e];exact Ii a
 obtain⟨p,e,l,k⟩:=h.2 i d _ c (Ii (by rw[<- h.1];exact a));exact#[p,e,Hz]
def iU(D:List Df)(n:List Nat):Prop:=(∀d∈D,iB d/\d.b.Cs ((D.map Df.f).zip n))/\(D.map Df.f).Nodup/\∀y∈D.map Df.f,y.length<=20
inductive oi(c:List V)(H:Hp)(Q:VK)(a:XK):Prop
 |mk(p:ε)(T b:Int)(_:c=[.ref p,.int T,.int b])(_:ar H p)(_:1<=T)(_:T<=8)(_:0<=b)(_:b<=40)(_:∀(r:ε) (ds:List Df) (xs:List V) (H':Hp),H' r=δ (.tup xs)->bX H' ds xs->(ds.length:Int)=T->∀ns:List Nat,iU ds ns->iz H' ds ns->ar H' p->aA p H H'->Q (.ref r) H')
theorem c7:am ["_law_box_here","_law_total","_law_room","_law_words","_law_most","_law_heads","_law_k","_law_turn_here","_law_row","_law_some","_law_deep","_law_defs","_law_f","_law_params","_law_spare","_law_body_here"] z34z (ae BP):=bY
inductive AJ(p k:ε)(T j:Int)(H:Hp)(b:_L.St)(c:Hp):Prop
 |mk(a:List π)(d:b=[δ (.ref p),δ (.int T),δ (.int j),δ (.ref k),ζ,ζ,ζ,ζ,ζ,ζ,ζ,ζ,ζ,ζ,ζ,ζ])(e:c k=δ (.lst (a.map HV)))(f:a.length=20)(g:(∀y∈a,y.length<=20)/\(a.take 8).Nodup)(h:ar c p)(i:aA p H c)
inductive AI(p t k:ε)(T s m:Int)(u:List π)(H:Hp)(i:Nat)(v:_L.St)(a:Hp):Prop
 |mk(o q r:Option V)(l:List (π×List π))(n:List V)(b:v=[δ (.ref p),δ (.int T),δ (.int s),δ (.ref t),δ (.int m),δ (.ref k),o,q,r,ζ,ζ,ζ,ζ,ζ,ζ,ζ])(c:a k=δ (.lst n))(d:dH a l n)(e:l.length=i)(f:C0 l/\l.map (·.1)=u.take i)(g:a t=δ (.lst (u.map HV)))(h:ar a p)(j:aA p H a)
inductive AK(p G y F h:ε)(T E m:Int)(j:Nat)(I:List π)(z:List (π×List π))(A:List V)(H:Hp)(i:Nat)(J:_L.St)(g:Hp):Prop
 |mk(B C D b c e f:Option V)(k:List Df)(l:List V)(n:J=[δ (.ref p),δ (.int T),δ (.int E),δ (.ref G),δ (.int m),δ (.ref y),B,C,D,δ (.ref F),δ (.int (j:Int)),δ (.ref h),b,c,e,f])(o:g h=δ (.lst l))(q:bX g k l)(r:k.length=i)(s:(∀d∈k,iB d/\d.b.Cs (z.map λc=>(c.1,c.2.length)))/\k.map Df.f=(z.map (·.1)).take i)(t:g y=δ (.lst A))(u:dH g z A)(v:g F=δ (.lst (I.map HV)))(w:ar g p)(x:aA p H g)(a:iz g k ((z.map λc=>c.2.length).take i))
inductive AL(v:List (π×List π))(D:List π)(p C u z h B A:ε)(T y m:Int)(i:Nat)(w x:Option V)(c:π×List π)(e:Hp)(j:Nat)(E:_L.St)(d:Hp):Prop
 |mk(a:Option V)(f:ε)(b:Bd)(g:List V)(k:E=[δ (.ref p),δ (.int T),δ (.int y),δ (.ref C),δ (.int m),δ (.ref u),a,w,x,δ (.ref z),δ (.int (i:Int)),δ (.ref h),δ (.str c.1),δ (.ref B),δ (.ref A),δ (.ref f)])(l:d f=δ (.tup g))(n:c8 d b g)(o:(b.size:Int)+gr d A<=y/\0<=gr d A)(q:b.fit v D i)(r:ar d p)(s:dA d A)(t:aT p A e d)
theorem Bh(F:aK K "_law_any" "_law_any" BP f fd)(cT:Cl P w K mg base 1 fT j2 z0z aW "_law_take")(cA:Cl P w K mg base 2 fA l4 z22z eG "_law_names")(cB:Cl P w K mg base 21 fB l5 z6z (gB 6) "_law_body")(ml:mg "len"=ζ)(mr:mg "range"=ζ)(m0:mg "tuple"=ζ)(mi:mg "int"=ζ):ak P w K mg base aD 22 f fd z34z oi:=by
 refine F.ok c7 ?_ λl6 A o5 s H vs Q E hr h=>?_
 .rintro _ _ _ _ ⟨p,T,Y,rfl,_⟩;rfl
 obtain⟨p,T,Y,rfl,B,l7,l8,f7,l',q⟩:=h;refine#[_,(jd (jy 3 c7.nd$ cA.e hr.m$ ja (pv 0)$ ja jf jb)$ jd (jZ$ jw (zc$ cT.e hr.m$ ja (pv 0)$ ja jf jb) (jg$ kQ (jK kM (pv 3) kL$ jI jf)$ @sC _ _ _ _ _ _ _ _ _ (pv 3) jf jf (by intro _;rfl)) jp)$ jd (jy 4 c7.nd$ js jr (jG$ ja jf$ ja jf jb) (jC kG Z mi Nk$ ja (j9 zq (cT.e hr.m$ ja (pv 0)$ ja jf jb) jf$ au _) jb) (λ_ _=>Z))$ jd (jy 5 c7.nd$ jG jb)$ jd (kX IZ Z (ze Z mr$ ja (pv 1) jb) (ju (i:=6) c7.nd Z$ ω Z)$ jd (jy 7 c7.nd$ jv jT jf$ cT.e hr.m$ ja (pv 0)$ ja jf jb)$ jd (jy 8 c7.nd$ jv qZ (jK kM (pv 3) (jI$ pv 7)$ jI jf)$ jK kM (pv 3) (jI jf)$ jI$ pv 7)$ jg$ jR$ kH IH IR IQ jP (pv 5)$ ja (jh$ ja (js jr (pv 3) (pv 6) (λ_ _=>Z))$ ja (jC jH Z m0 LZ$ ja (jK kM (pv 8) kL$ jI$ cT.e hr.m$ ja (pv 0)$ ja (pv 4) jb) jb) jb) jb)$ jd (jy 9 c7.nd$ jK kM (pv 3) (jI jf)$ jI$ jv jT jf$ cT.e hr.m$ ja (pv 0)$ ja jf jb)$ jd (jy 10 c7.nd$ js jr (jG$ ja jf$ ja jf$ ja jf$ ja jf jb) (cT.e hr.m$ ja (pv 0)$ ja jf jb) (λ_ _=>Z))$ jd (jy 11 c7.nd$ jG jb)$ jd (kX IZ Z (Jl$ pv 5) (zD (n:=2) Z$ jz (ju (i:=12) c7.nd Z$ ω Z)$ jz (ju (i:=13) c7.nd Z$ ω Z) kx)$ jd (jy 14 c7.nd$ jG$ ja (pv 2) jb)$ jd (jy 15 c7.nd$ jh jb)$ jd (kX IZ Z (ze Z mr$ ja jf jb) (ju (i:=6) c7.nd Z$ ω Z)$ jg$ jy 15 c7.nd$ jv ky (pv 15)$ cB.e hr$ ja (pv 0)$ ja (pv 9)$ ja (pv 5)$ ja (pv 14)$ ja (pv 10) jb)$ jg$ jR$ kH IH IR IQ jP (pv 11)$ ja (jh$ ja (pv 12)$ ja (pv 13)$ ja (pv 15) jb) jb)$ jg$ jo$ jC jH Z m0 LZ$ ja (pv 11) jb),?_];let m':=aI;refine fQ λE1 m1=>?_;refine#[_,Z,p,20,Z,B,HA,HA,λW ys H1 c5 f8 c6 C B1 k1=>?_];refine m1 _ _ ?_;refine fQ λE2 m2=>?_;let wp:W≠p:=B.ne c5;refine dE (AJ p W T Y H) (λE0 _ fm=>?_) λσ0 H2 l=>?_
 .clear m2;refine nP λG' g'=>#[_,Z,p,2,Z,B1,HA,HA,λd1 H2 o' p1 B2 e2=>?_];let h0:H2 W=δ (.lst$ ys.map HV):=by rw[e2 W wp];exact f8
  let k2:=k1.trans (aA.of_eq e2);refine#[Z,_,Z,g' _ _ ?_];clear g';refine bZ (λc=>?_) (λc=>fm _ _ #[ys,Z,h0,Hz,#[C.1,C.2.sublist$ Mi _ _],B2,k2]);refine#[_,Z,_,Z,W,_,Z,aG.of h0,λsl n0=>?_];let f9:W≠sl:=λe=>by rw[<- e,h0]at n0;cases n0
  let p2:=B2.ne n0;refine#[_,Z,W,sl,_,_,_,_,Z,Z,Z,Z,ao h0 n0,jc,f9,HA,HA,by rw[Ik];omega,?_,?_]
  .let:=zk (ys.map HV) ζ (δ 2);rw[Ik]at this ⊢;omega
  let e2:aX (ys.map HV) ζ (δ 2)=(ys.take 2).map HV:=by rw[show(2:Int)=((2:Nat):Int) from Z,Dh (by rw[Ik];omega),Nf]
  refine fm _ _ #[ys.take 8++ys.take 2++ys.drop 10,Z,?_,?_,?_,(B2.upd_new n0).eq$ ji$ IC wp,?_]
  .rw[jc,e2,IN,IN,Nf,RN,Nf];rfl
  .rw[Io,Io,IU,IU,L9];omega
  .refine#[λy hy=>?_,?_]
   .rcases γ.mp hy with h |h
    .rcases γ.mp h with h |h
     .exact C.1 y$ Lg h
     .exact C.1 y$ Lg h
    .exact C.1 y$ Pl h
   .rw[LA,List.take_append_of_le_length (by rw[IU];omega),RA];exact C.2.sublist$ Mi _ _
  .exact(k2.upd_new n0).upd_own c5
 obtain⟨ys,rfl,h0,c6,C,B2,k2⟩:=l;refine m2 _ _ ?_;clear m1 m2;refine fQ λE3 m3=>?_;refine#[bK,λl1 n7=>?_];refine#[_,Z,p,3,Z,B2.upd_new n7,HA,HA,λd2 H3 p3 p4 B3 e3=>?_];let k3:aA p H2 H3:=((aA.refl).upd_new n7).trans (aA.of_eq e3);let l0:=B2.ne n7;let f':H3 l1=δ (.lst [.int 4,.int 7]):=by rw[e3 l1 l0];exact jc
 refine#[Z,.inr #[_,Z,?_]];let a':∀c:Bool,∃m:Int,dC [HW 4,HW 7] (if c then 1 else 0)=δ (.int m)/\4<=m/\m<=7:=λc=>by
  cases c
  .exact#[4,Z,HA,HA]
  .exact#[7,Z,HA,HA]
 obtain⟨m,hm,m4,m7⟩:=a' _;refine#[l1,_,_,_,Z,Z,aG.of f',hm,?_];refine m3 _ _ ?_;refine fQ λE4 m4=>?_;let c9:H3 W=δ (.lst$ ys.map HV):=k3 _ _ wp h0;let k0:=k2.trans k3;refine#[Is _,λhl n1=>?_];refine m4 _ _ ?_;refine fQ λE5 m5=>?_;let h4:=B3.ne n1;let n5:H hl=ζ:=by
  cases z:H hl with
  |none=>rfl
  |some o=>have:=k0 _ _ h4 z;rw[n1]at this;cases this
 let wh:W≠hl:=λe=>by rw[<- e,c9]at n1;cases n1
 refine gu λJ j=>#[_,Z,T,Z,Hz,Hz,j _ _ ?_];clear j;refine qi (lo:=0) (AI p W hl T Y m ys H)
  #[ζ,ζ,ζ,[],[],Z,jc,Z,Z,#[(λc hc=>nomatch hc),Z],ao c9 n1,B3.upd_new n1,k0.upd_own n5] ?_ ?_
 .intro D' _ i σ H4 hi f0 Gq u l;obtain⟨o6,o7,o8,hs,hv,rfl,b1,h6,c',h7,b2,B4,k4⟩:=l;refine u ?_;clear u m5 m3 m4;show cR (dn _ _) _ D' _ _;refine fQ λF1 f1=>?_;refine#[_,Z,p,6,Z,B4,HA,HA,λD H5 g0 g1 B5 e5=>?_];let k5:aA p H4 H5:=aA.of_eq e5;let h8:=k5 _ _ wp b2;let b3:=k5 _ _ h4 b1;let b4:=h6.mono (k5.tm B4);refine#[_,_,Z,Z,?_];refine f1 _ _ ?_;show cR (dn _ _) _ D' _ _;refine fQ λF2 f2=>?_;refine#[_,Z,_,Z,_,Z,_,Z,W,_,Z,aG.of h8,λs1 n'=>?_];refine#[_,Z,_,Z,_,Z,_,Z,W,_,Z,aG.of$ ao h8 n',λs2 b5=>?_];let L1:=qB ys (δ (8+D)) (δ 14);let L0:=qB ys (δ 8) (δ (8+D));let L3:=zk (ys.map HV) (δ (8+D)) (δ 14);let L4:=zk (ys.map HV) (δ 8) (δ (8+D));rw[Ik]at L3 L4;refine#[s1,s2,_,_,Z,Z,ao jc b5,jc,Hz,λrl d4=>?_];refine f2 _ _ ?_;let er:aX (ys.map HV) (δ (8+D)) (δ 14)++aX (ys.map HV) (δ 8) (δ (8+D))=(be ys (δ (8+D)) (δ 14)++be ys (δ 8) (δ (8+D))).map HV:=by rw[zJ,zJ,IN]
  let s6:af H5 (aj (aj (aj H5 s1$ .lst$ aX (ys.map HV) (δ (8+D))$ δ 14) s2$ .lst$ aX (ys.map HV) (δ 8)$ δ (8+D)) rl$ .lst$ aX (ys.map HV) (δ (8+D)) (δ 14)++aX (ys.map HV) (δ 8) (δ (8+D))):=((je n').trans$ je b5).trans (je d4);let r6:aj (aj (aj H5 s1$ .lst$ aX (ys.map HV) (δ (8+D))$ δ 14) s2$ .lst$ aX (ys.map HV) (δ 8)$ δ (8+D)) rl (.lst$ aX (ys.map HV) (δ (8+D)) (δ 14)++aX (ys.map HV) (δ 8) (δ (8+D))) rl=δ (.lst ((be ys (δ (8+D)) (δ 14)++be ys (δ 8) (δ (8+D))).map HV)):=by rw[jc,er]
  let B6:ar (aj (aj (aj H5 s1$ .lst$ aX (ys.map HV) (δ (8+D))$ δ 14) s2$ .lst$ aX (ys.map HV) (δ 8)$ δ (8+D)) rl$ .lst$ aX (ys.map HV) (δ (8+D)) (δ 14)++aX (ys.map HV) (δ 8) (δ (8+D))) p:=((B5.upd_new n').upd_new b5).upd_new d4;generalize aj (aj (aj H5 s1$ .lst$ aX (ys.map HV) (δ (8+D))$ δ 14) s2$ .lst$ aX (ys.map HV) (δ 8)$ δ (8+D)) rl (.lst$ aX (ys.map HV) (δ (8+D)) (δ 14)++aX (ys.map HV) (δ 8) (δ (8+D)))=H6 at s6 r6 B6;let LR:(be ys (δ (8+D)) (δ 14)++be ys (δ 8) (δ (8+D))).length<=40:=by rw[Io];omega
  generalize be ys (δ (8+D)) (δ 14)++be ys (δ 8) (δ (8+D))=r0 at r6 LR;let d6:=s6 _ _ h8;let h':=s6 _ _ b3;let ei:(0:Int)+(i:Int)=(i:Int):=Int.zero_add _;rw[ei];obtain⟨y,b7⟩:∃y,ys[i]?=δ y:=#[_,Ii (by omega:i < ys.length)];let hy:=IA b7;let a':dC (ys.map HV) (i:Int)=δ (.str y):=jN (by rw[Iv,b7];rfl);let rp:rl≠p:=qc B6 r6;refine#[_,Z,.inl #[Z,_,aG.of h'],_,Z,_,Z,W,_,_,_,Z,Z,aG.of d6,a',_,Z,_,Z,_,Z,p,m,Z,B6,Hz,Hz,λd7 H7 d0 d8 B7 e7=>?_];let k7:aA p H6 H7:=aA.of_eq e7;refine#[_,Z,rl,_,Z,aG.of$ k7 _ _ rp r6,λs3 d9=>?_];refine#[s3,_,Z,.inl #[aG.of jc,λt nt=>#[bK,λr nr=>?_]]];rw[zJ]at nt nr ⊢;let L8:=vj (ss:=r0) d0;generalize be r0 ζ (δ d7)=ps at*;let s8:af H7 (aj (aj (aj H7 s3$ .lst$ ps.map HV) t$ .tup$ ps.map HV) r$ .tup [.str y,.ref t]):=((je d9).trans$ je nt).trans (je nr);let t8:aj (aj (aj H7 s3$ .lst$ ps.map HV) t$ .tup$ ps.map HV) r (.tup [.str y,.ref t]) t=δ (.tup$ ps.map HV):=ao jc nr;let r8:aj (aj (aj H7 s3$ .lst$ ps.map HV) t$ .tup$ ps.map HV) r (.tup [.str y,.ref t]) r=δ (.tup [.str y,.ref t]):=jc;let B8:ar (aj (aj (aj H7 s3$ .lst$ ps.map HV) t$ .tup$ ps.map HV) r$ .tup [.str y,.ref t]) p:=((B7.upd_new d9).upd_new nt).upd_new nr;generalize aj (aj (aj H7 s3$ .lst$ ps.map HV) t$ .tup$ ps.map HV) r (.tup [.str y,.ref t])=R at s8 t8 r8 B8;let d':=s8 _ _ (k7 _ _ h4 h');let g2:=s8 _ _ (k7 _ _ wp d6);let h5:=h6.len;refine#[hl,_,_,Z,Z,d',Hz,?_];let tm:ai R (aj R hl$ .lst$ hv++[.ref r]):=λb xs e=>by rw[ji$ jE e d' (by intro z;cases z)];exact e
  let g4:=((b4.mono$ af.tm s6).mono$ k7.tm B6).mono (af.tm s8);refine f0 _ _ #[_,_,_,hs++[(y,ps)],_,Z,jc,(g4.mono tm).snoc #[r,t,Z,tm _ _ r8,tm _ _ t8],by rw[Io,c'];rfl,#[Jz h7.1 #[C.1 y hy,by show ps.length<=6;omega],by rw[IN,h7.2,LS,b7];rfl],by rw[ji wh];exact g2,B8.eq$ ji$ IC h4,?_];refine aA.upd_own (λb o n e=>?_) n5;exact s8 _ _$ k7 _ _ n$ s6 _ _$ k5 _ _ n$ k4 _ _ n e
 intro σ H4 l;obtain⟨o6,o7,o8,hs,hv,rfl,b1,h6,c',⟨h7,e0⟩,b2,B4,k4⟩:=l;refine m5 _ _ ?_;refine fQ λE6 m6=>?_;refine#[_,Z,_,Z,_,Z,p,7,Z,B4,HA,HA,λD H5 g0 g1 B5 e5=>?_];let k5:aA p H4 H5:=aA.of_eq e5;let h8:=k5 _ _ wp b2;let b3:=k5 _ _ h4 b1;let b4:=h6.mono (k5.tm B4);refine#[_,_,Z,Z,_,Z,W,_,Z,aG.of h8,λsm n3=>?_];refine m6 _ _ ?_;refine fQ λE7 m7=>?_;obtain⟨z1,z2⟩:=pO (ys:=ys) (k:=14+D) c6 Hz Hz;let m6:aj H5 sm (.lst$ aX (ys.map HV) (δ 8)$ δ (14+D)) sm=δ (.lst ((be ys (δ 8)$ δ (14+D)).map HV)):=by rw[jc,zJ]
 let k6:aA p H (aj H5 sm$ .lst$ aX (ys.map HV) (δ 8)$ δ (14+D)):=(k4.trans k5).upd_new n3;let h':=ao (o:=.lst (aX (ys.map HV) (δ 8)$ δ (14+D))) b3 n3;let e4:=b4.mono (af.tm$ je (o:=.lst (aX (ys.map HV) (δ 8)$ δ (14+D))) n3);let B6:=B5.upd_new (o:=.lst (aX (ys.map HV) (δ 8)$ δ (14+D))) n3;generalize aj H5 sm (.lst$ aX (ys.map HV) (δ 8)$ δ (14+D))=H6 at m6 k6 h' e4 B6;generalize be ys (δ 8) (δ (14+D))=zs at m6 z1 z2;let s':=qc B6 m6;refine#[uf,λl2 b'=>?_];refine#[_,Z,p,4,Z,B6.upd_new b',HA,HA,λd7 H7 d0 d8 B7 e7=>?_];let k7:aA p H6 H7:=((aA.refl).upd_new b').trans (aA.of_eq e7);let l3:=B6.ne b';let g5:H7 l2=δ (.lst [.int 3,.int 3,.int 3,.int 5]):=by rw[e7 l2 l3];exact jc
 obtain⟨dp,g6,g7,p6,p9⟩:=vm d0 d8;refine#[l2,_,_,_,Z,Z,aG.of g5,g6,?_];refine m7 _ _ ?_;refine fQ λE8 m8=>?_;let m7:=k7 _ _ s' m6;let c0:=k7 _ _ h4 h';let g8:=e4.mono (k7.tm B6);let k9:=k6.trans k7;refine#[Is _,λdl N=>?_];refine m8 _ _ ?_;refine fQ λE9 m9=>?_;let d3:=B7.ne N;let n6:H dl=ζ:=by
  cases z:H dl with
  |none=>rfl
  |some o=>have:=k9 _ _ d3 z;rw[N]at this;cases this
 let e6:hl≠dl:=λe=>by rw[<- e,c0]at N;cases N
 let s5:sm≠dl:=λe=>by rw[<- e,m7]at N;cases N
 let p':=h6.len;refine gu λJ j=>#[_,Z,hl,Z,#[_,aG.of$ ao c0 N],j _ _ ?_];clear j;refine QR (K:=K) (a:=hl) (xs:=hv) (AK p W hl sm dl T Y m dp zs hs hv H)
  #[_,_,_,_,_,_,_,[],[],Z,jc,Z,Z,#[(λc hc=>nomatch hc),Z],ao c0 N,g8.mono$ af.tm$ je N,ao m7 N,B7.upd_new N,k9.upd_own n6,#[Z,(λi d n h=>nomatch h)]] ?_ ?_ ?_
 .intro i σ R _ l;obtain⟨o6,o7,o8,o1,o2,o3,o4,ds,dv,rfl,h5,hD,a0,x,hh,hd,c1,B8,k8,p0⟩:=l;exact aG.of hh
 .intro D' _ i v σ R hx f0 Gq u l;obtain⟨o6,o7,o8,o1,o2,o3,o4,ds,dv,rfl,h5,hD,a0,x,hh,hd,c1,B8,k8,p0⟩:=l;let q1:i < hv.length:=(τ.mp hx).1;obtain⟨c,hc,q0,t0,rfl,w1,w2⟩:=hd.at i v hx;refine u ?_;clear u m9;let i0:=IA hc;let e8:=h7 c i0;refine Hn λF6 f6=>#[q0,_,Z,aC.of w1,Z,_,_,Z,_,_,Z,Z,f6 _ _ ?_];clear f6;show cR (dn _ _) _ D' _ _;refine fQ λF1 f1=>?_;refine#[_,Z,gZ,λM n2=>?_];refine f1 _ _ ?_;show cR (dn _ _) _ D' _ _;refine fQ λF2 f2=>?_;refine#[pf,λb0 n4=>?_];refine f2 _ _ ?_;show cR (Cy _ _ _) _ D' _ _;refine fQ λF3 f3=>?_;let s9:af R (aj (aj R M$ .lst [.int Y]) b0$ .tup []):=(je n2).trans (je n4);let s4:dA (aj (aj R M$ .lst [.int Y]) b0$ .tup []) M:=#[Y,ao jc n4];let b9:aj (aj R M$ .lst [.int Y]) b0 (.tup []) b0=δ (.tup []):=jc;let B9:ar (aj (aj R M$ .lst [.int Y]) b0$ .tup []) p:=(B8.upd_new n2).upd_new n4;let e9:gr (aj (aj R M$ .lst [.int Y]) b0$ .tup []) M=Y:=JM (ao jc n4);generalize aj (aj R M$ .lst [.int Y]) b0 (.tup [])=H9 at s9 s4 b9 B9 e9;let e':H M=ζ:=by
   cases z:H M with
   |none=>rfl
   |some o=>have:=k8 _ _ (B8.ne n2) z;rw[n2]at this;cases this
  let i1:dl≠M:=λe=>by rw[<- e,h5]at n2;cases n2
  let G9:mz H9 p sm hl M zs hs:=#[B9,s9 _ _ c1,z1,z2,#[hv,s9 _ _ hh,hd.mono$ af.tm s9],Hz,Hz,λc hc=>(h7 c hc).2,s4];refine gu λJ j=>#[_,Z,HA,HA,j _ _ ?_];clear j;refine qi (lo:=0) (AL hs zs p W hl sm dl t0 M T Y m dp o7 o8 c H9)
   #[_,b0,.nil,[],Z,b9,Z,(by rw[e9];exact#[by show((0:Nat):Int)+_<=_;omega,f7]),Zb,B9,s4,aT.refl] ?_ ?_
  .intro q2 _ j σ G hj fin2 Gq u l;obtain⟨o9,bb,Bb,bs,rfl,c2,a1,a2,I,B',U,L⟩:=l;refine u ?_;clear u f1 f2 f3;let G0:=G9.but2 B' U L;refine#[_,Z,_,Z,_,Z,_,Z,_,Z,_,Z,p,sm,hl,M,dp,zs,hs,Z,G0,g7,a2.2,λr b q3 H0 X a4 i2 c3 c4 a3 S k'=>?_];let tm:=k'.tm B' U;let lb:=a1.len;let q4:=a4.len;obtain⟨i3,i4⟩:=a2;refine#[bb,r,_,_,Z,Z,tm _ _ c2,X,Hz,λr2 H' f4 s0=>?_];let j0:ar H' p:=by obtain⟨a,b,h1,h2,h3,h⟩:=a3.ob;exact#[a,b,h1,h2,h3,s0 _ _ h]
   let s7:dA H' M:=by obtain⟨z,hz⟩:=S;exact#[z,s0 _ _ hz]
   refine fin2 _ _ #[_,r2,Bb.app b,_,Z,f4,(a4.mono$ af.tm s0).app ((a1.mono tm).mono$ af.tm s0),?_,Zc I c4,j0,s7,L.trans$ k'.trans$ aT.of_same s0];rw[jX,km S s0];exact#[Hz,c3]
  .intro σ G l;obtain⟨o9,bb,Bb,bs,rfl,c2,a1,a2,I,B',U,L⟩:=l;refine f3 _ _ ?_;let O:G dl=δ (.lst dv):=L _ _ d3 i1 (s9 _ _ h5);let G0:=G9.but2 B' U L;let t3:ai R G:=λb xs e=>L.tm B9 s4 _ _ (s9 _ _ e);refine#[_,Z,.inl #[Z,_,aG.of O],_,Z,_,Z,_,Z,eA,λr nr=>?_];let S:af G (aj G r$ .tup [.str c.1,.ref t0,.ref bb]):=je nr;let j1:=hD.len;let f5:Bb.size<=40:=by obtain⟨i3,i4⟩:=a2;omega
   refine#[dl,_,_,Z,Z,S _ _ O,Hz,?_];let X:aj G r (.tup [.str c.1,.ref t0,.ref bb]) r=δ (.tup [.str c.1,.ref t0,.ref bb]):=jc;let a3:=B'.upd_new (o:=.tup [.str c.1,.ref t0,.ref bb]) nr;generalize aj G r (.tup [.str c.1,.ref t0,.ref bb])=H0 at S X a3;let tm:ai H0 (aj H0 dl$ .lst$ dv++[.ref r]):=λb xs e=>by rw[ji$ jE e (S _ _ O) (by intro z;cases z)];exact e
   let t2:ai G (aj H0 dl$ .lst$ dv++[.ref r]):=λb xs e=>tm _ _ (S _ _ e);let t1:ai R (aj H0 dl$ .lst$ dv++[.ref r]):=λb xs e=>t2 _ _ (t3 _ _ e);refine f0 _ _ #[_,_,_,_,_,_,_,ds++[#[c.1,r,t0,bb,Bb]],_,Z,jc,(hD.mono t1).snoc #[bs,Z,tm _ _ X,t2 _ _ c2,a1.mono t2],by rw[Io,a0];rfl,#[Jz x.1 #[#[#[zs,z2,I.1.1],LP I.2 Hz,IB f5 HA],I.1.2],by rw[IN,x.2,LS,Iv,hc];rfl],?_,hd.mono t1,?_,a3.eq$ ji$ IC d3,?_,(by rw[LS,Iv,hc];exact(p0.mono t1).snoc (d:=#[c.1,r,t0,bb,Bb]) (t1 _ _ w2) (IB e8.2 HA))]
   .obtain⟨q5,e1,e2⟩:=G0.h;rw[ji e6];exact S _ _$ L _ _ G9.hsp.2 G9.hsp.1$ s9 _ _ hh
   .rw[ji s5];exact S _ _ G0.g
   .refine aA.upd_own (λb o n e=>?_) n6;exact S _ _$ L _ _ n (jk e e')$ s9 _ _$ k8 _ _ n e
 .intro σ R l;obtain⟨o6,o7,o8,o1,o2,o3,o4,ds,dv,rfl,h5,hD,a0,x,hh,hd,c1,B8,k8,p0⟩:=l;refine m9 _ _ ?_;refine#[_,Z,dl,dv,Z,.inl #[aG.of h5,λt nt=>?_]];let nn:(ds.map Df.f).Nodup:=by
   rw[x.2,e0];refine List.Nodup.sublist (Mi _ _) ?_;let e:∀m,m<=8->ys.take m=(ys.take 8).take m:=λm hm=>by rw[RA,MO hm]
   rw[e _ Hz];exact C.2.sublist$ Mi _ _
  exact q t ds dv _ jc (hD.mono$ af.tm$ je nt) Hz (hs.map λc=>c.2.length) #[λd hd=>#[(x.1 d hd).1,by let e:=x.2;rw[Lx (by rw[Ik];omega)]at e;rw[e];let z:=(x.1 d hd).2;rw[show(hs.map λc=>(c.1,c.2.length))=(hs.map (·.1)).zip (hs.map λc=>c.2.length) by rw[RM]]at z;exact z],nn,λy hy=>by rw[x.2,e0]at hy;exact C.1 y$ Lg$ Lg hy] (by let z:=p0.mono (af.tm$ je (o:=.tup dv) nt);rw[Lx (by rw[Ik];omega)]at z;exact z) (B8.upd_new nt) (k8.upd_new nt)
theorem pf:0<=υ:=by decide
theorem gZ:1<=υ:=by decide
theorem bK:2<=υ:=by decide
theorem eA:3<=υ:=by decide
theorem uf:4<=υ:=by decide
theorem ai.trans(a:ai H h)(b:ai h d):ai H d:=λc x e=>b c x (a c x e)
theorem ai.refl:ai H H:=λ_ _ e=>e
def gq(H:Hp)(y:List π)(k:Nat)(a:ε):Prop:=∃T,aQ H T a/\T.Good y/\T.depth<=k
theorem gq.mono(h:gq H y k a)(m:ai H b):gq b y k a:=let #[T,c,d]:=h;#[T,c.mono m,d]
theorem gq.ok(h:gq H y k a)(m:k < 6):∃T,aQ H T a/\di y T:=let #[T,b,c,d]:=h;#[T,b,c,LP d m]
section
variable {Cf:eQ}{H:Hp}{ys:List π}
theorem CD(h:H a=δ (.tup [.str "num",.int n]))(b:0<=n)(c:n < 1000000000000000000):gq H ys 0 a:=#[.num n,h,#[b,c],Is _]
theorem uC(h:H a=δ (.tup [.str "var",.str x]))(b:x∈ys):gq H ys 0 a:=#[.var x,h,b,Is _]
def Sg(s:π):Prop:=∃i,i < 6/\s=Gc i
theorem y8(h:H a=δ (.tup [.str "op",.str s,.ref b,.ref c]))(d:Sg s)(e:gq H ys j b)(f:gq H ys k c)(q:j < n)(r:k < n):gq H ys n a:=by obtain⟨i,g,rfl⟩:=d;obtain⟨B,l,m,t⟩:=e;obtain⟨C,o,p,u⟩:=f;exact#[.op i B C,#[b,c,h,l,o],#[g,m,p],by show max B.depth C.depth+1<=n;omega]
theorem kP:Sg "+":=#[0,HA,Hw]
theorem XH:Sg "-":=#[1,HA,Hw]
theorem XI:Sg "*":=#[2,HA,Hw]
theorem xC:Sg "/":=#[3,HA,Hw]
theorem Kk:Sg "<":=#[4,HA,Hw]
theorem El:Sg "=":=#[5,HA,Hw]
theorem wI(h:0<=d)(a:d < 4):∃s,dC [HV "+",.str "+",.str "*",.str "-"] d=δ (.str s)/\Sg s:=by
 rcases(by omega:d=0∨d=1∨d=2∨d=3) with rfl |rfl |rfl |rfl
 .exact#[_,Z,kP]
 .exact#[_,Z,kP]
 .exact#[_,Z,XI]
 .exact#[_,Z,XH]
theorem wH(h:0<=d)(a:d < 3):∃c,dC (Str.cps "<=*").toList d=δ c/\Sg #[(ι [c])]:=by
 rcases(by omega:d=0∨d=1∨d=2) with rfl |rfl |rfl
 .exact#[_,Z,Kk]
 .exact#[_,Z,El]
 .exact#[_,Z,XI]
theorem DZ{P:ε->Prop}(e:0<=d)(f:d < 2)(h:P a)(c:P b):∃x,dC [HX a,.ref b] d=δ (.ref x)/\P x:=by
 rcases(by omega:d=0∨d=1) with rfl |rfl
 .exact#[_,Z,h]
 .exact#[_,Z,c]
theorem D0{P:ε->Prop}(g:0<=d)(i:d < 3)(h:P a)(e:P b)(f:P c):∃x,dC [HX a,.ref b,.ref c] d=δ (.ref x)/\P x:=by
 rcases(by omega:d=0∨d=1∨d=2) with rfl |rfl |rfl
 .exact#[_,Z,h]
 .exact#[_,Z,e]
 .exact#[_,Z,f]
theorem D1{P:ε->Prop}(h:P a)(d:P b)(c:Bool):∃x,dC [HX a,.ref b] (if c then 1 else 0)=δ (.ref x)/\P x:=by
 cases c
 .exact#[_,Z,h]
 .exact#[_,Z,d]
def cw(Cf:eQ)(H:Hp)(ys:List π)(d:Nat)(v:V):Prop:=∃s,gU H v s/\(s.Ok ys/\s.Cs Cf)/\s.dep<=d/\s.size<=1+20*d
def gG(Cf:eQ)(H:Hp)(ys:List π)(d:Nat)(x:List V):Prop:=∃b,c8 H b x/\(b.Ok ys/\b.Cs Cf)/\b.dep<=d/\b.size<=(1+20*d)*x.length
theorem cw.mono(h:cw Cf H ys d v)(m:ai H a):cw Cf a ys d v:=let #[s,b,c]:=h;#[s,b.mono m,c]
theorem gG.mono(h:gG Cf H ys d x)(m:ai H a):gG Cf a ys d x:=let #[s,b,c]:=h;#[s,b.mono m,c]
theorem cw.up(h:cw Cf H ys 0 v):cw Cf H ys d v:=let #[s,a,b,c,e]:=h;#[s,a,b,Hz,Hz]
theorem KG:gG Cf H ys d []:=#[.nil,Z,#[trivial,trivial],Is _,Is _]
theorem JN{xs:List V}(h:gG Cf H ys d xs)(g:gG Cf H ys d z):gG Cf H ys d (xs++z):=by obtain⟨a,c,A,f,i⟩:=h;obtain⟨b,e,B,j,k⟩:=g;refine#[a.app b,e.app c,#[KE A.1 B.1,KD A.2 B.2],by rw[zw];omega,?_];rw[jX,Io,Nat.mul_add];omega
theorem zF(h:cw Cf H ys d v):gG Cf H ys d [v]:=by obtain⟨s,a,b,c,e⟩:=h;exact#[s,a.bd,b,c,by show s.size<=(1+20*d)*1;omega]
theorem jU(h:cw Cf H ys d v)(g:gG Cf H ys d xs):gG Cf H ys d (v::xs):=JN (xs:=[v]) (zF h) g
theorem Xq{l:Lf}(h:H p=δ (.tup v))(a:uP H l v)(b:l.Ok ys)(c:l.Cs Cf):cw Cf H ys 0 (.ref p):=#[.lf p l .nil,.lf p l v h a,#[#[b,trivial],c,trivial],Im 0,Im 1]
theorem Et(h:H p=δ (.tup [.str "read",.str x,.ref t]))(a:x∈ys)(b:gq H ys k t)(c:k < 6:=by decide):cw Cf H ys 0 (.ref p):=by obtain⟨T,d,e⟩:=b.ok c;exact Xq (l:=.rd x t T) h #[Z,d] #[a,e] trivial
theorem Eu(h:H p=δ (.tup [.str "set",.str x,.ref t]))(a:x∈ys)(b:gq H ys k t)(c:k < 6:=by decide):cw Cf H ys 0 (.ref p):=by obtain⟨T,d,e⟩:=b.ok c;exact Xq (l:=.st x t T) h #[Z,d] #[a,e] trivial
theorem Er(h:H p=δ (.tup [.str "give",.ref t]))(a:gq H ys k t)(b:k < 6:=by decide):cw Cf H ys 0 (.ref p):=by obtain⟨T,c,d⟩:=a.ok b;exact Xq (l:=.gv t T) h #[Z,c] d trivial
theorem Ew(h:H p=δ (.tup [.str "write",.ref t,.ref u]))(a:gq H ys k t)(b:gq H ys j u)(c:k < 6:=by decide)(d:j < 6:=by decide):cw Cf H ys 0 (.ref p):=by obtain⟨T,e,f⟩:=a.ok c;obtain⟨U,g,i⟩:=b.ok d;exact Xq (l:=.wr t u T U) h #[Z,e,g] #[f,i] trivial
theorem Ep{f:π}(h:H p=δ (.tup [.str "call",.str x,.str f,.ref q]))(b:x∈ys)(a:(f,2)∈Cf)(d:H q=δ (.tup [.ref t,.ref u]))(e:gq H ys k t)(g:gq H ys j u)(i:k < 6:=by decide)(m:j < 6:=by decide):cw Cf H ys 0 (.ref p):=by
 obtain⟨T,n,o⟩:=e.ok i;obtain⟨U,r,s⟩:=g.ok m;refine Xq (l:=.cl x f q [(t,T),(u,U)]) h #[Z,d,λc hc=>?_] #[b,(by show 2<=6;decide),λc hc=>?_] a
 .rcases Δ.mp hc with rfl |hc
  .exact n
  .rw[ρ.mp hc];exact r
 .rcases Δ.mp hc with rfl |hc
  .exact o
  .rw[ρ.mp hc];exact s
theorem Es(h:H p=δ (.tup [.str "if",.ref t,.ref q,.ref Q]))(e:gq H ys k t)(f:H q=δ (.tup A))(g:H Q=δ (.tup B))(G:gG Cf H ys 0 A)(i:gG Cf H ys 0 B)(r:A.length+B.length<=20)(j:k < 6:=by decide):cw Cf H ys 1 (.ref p):=by obtain⟨T,l,m⟩:=e.ok j;obtain⟨a,n,c,s,u⟩:=G;obtain⟨b,o,d,v,x⟩:=i;exact#[.ite p t T a b .nil,.ite p t T a b q Q A B h l f g n o,#[#[m,c.1,d.1,trivial],c.2,d.2,trivial],(by show max (max a.dep b.dep+1) 0<=1;omega),(by show a.size+b.size+0+1<=21;omega)]
theorem ue(h:H p=δ (.tup [.str "while",.ref t,.ref q]))(c:gq H ys k t)(d:H q=δ (.tup A))(g:gG Cf H ys 0 A)(l:A.length<=20)(e:k < 6:=by decide):cw Cf H ys 1 (.ref p):=by obtain⟨T,f,i⟩:=c.ok e;obtain⟨a,j,b,m,n⟩:=g;exact#[.loop p t T a .nil,.loop p t T a q A h f d j,#[#[i,b.1,trivial],b.2,trivial],(by show max (a.dep+1) 0<=1;omega),(by show a.size+0+1<=21;omega)]
def pi(Cf:eQ)(n:Nat)(H:Hp)(r:ε)(f:π):Prop:=∃d:Df,xZ H d (.ref r)/\(iB d/\d.b.Cs Cf)/\∃p:List π,H d.pa=δ (.tup$ p.map HV)/\p.length=n/\d.f=f
theorem pi.mono(h:pi Cf n H r f)(m:ai H a):pi Cf n a r f:=let #[d,b,c,p,e,g]:=h;#[d,b.mono m,c,p,m _ _ e,g]
theorem Dk{f:π}{p:List π}(h:H r=δ (.tup [.str f,.ref a,.ref b]))(d:H a=δ (.tup$ p.map HV))(e:p.length=n)(i:H b=δ (.tup x))(g:gG Cf H ys 1 x)(l:x.length<=16)(j:ys.length<=20):pi Cf n H r f:=by obtain⟨c,k,C,m,o⟩:=g;exact#[#[f,r,a,b,c],#[x,Z,h,i,k],#[#[#[ys,j,C.1],(by show c.dep < 6;omega),(by show c.size<=400;omega)],C.2],p,d,e,Z]
structure Wd(H0 H:Hp)(p wl:ε)(ys:List π):Prop where
 B:ar H p
 K:aA p H0 H
 w:H wl=δ (.lst$ ys.map HV)
theorem Wd.np(h:Wd b H p a ys):a≠p:=qc h.B h.w
theorem Wd.same(h:Wd a H p b ys)(s:af H c):Wd a c p b ys:=#[h.B.same s,h.K.trans$ aA.of_same s,s _ _ h.w]
theorem Wd.but(h:Wd b H p c ys)(B:ar a p)(k:aA p H a):Wd b a p c ys:=#[B,h.K.trans k,k _ _ h.np h.w]
theorem Wd.own{xs:List V}(h:Wd a H p b ys)(n:a l=ζ)(L:l≠p)(c:l≠b):Wd a (aj H l$ .lst z) p b ys:=#[h.B.eq$ ji$ IC L,h.K.upd_own n,by rw[ji$ IC c];exact h.w]
theorem Q4(h:H l=δ (.lst x)):ai H (aj H l$ .lst a):=λb u e=>by rw[ji$ jE e h (by intro z;cases z)];exact e
end
inductive mn(d:List V)(H:Hp)(Q:VK)(c:XK):Prop
 |mk(p a b:ε)(e:List π)(k:Nat)(_:d=[.ref p,.ref a,.ref b])(_:ar H p)(_:gq H e k a)(_:gq H e k b)(_:∀(r:ε) (H':Hp),gq H' e (k+1) r->ar H' p->aA p H H'->Q (.ref r) H')
inductive dj(n:Nat)(b:List V)(H:Hp)(Q:VK)(a:XK):Prop
 |mk(p c:ε)(f g:π)(d:List π)(_:b=[.ref p,.str f,.str g,.ref c])(_:ar H p)(_:H c=δ (.lst (d.map HV)))(_:d.length=6)(_:∀(r:ε) (H':Hp),pi [(g,2)] n H' r f->ar H' p->aA p H H'->Q (.ref r) H')
abbrev F':ey:=top 56
abbrev mZ:ey:=top 57
abbrev gV:ey:=top 58
abbrev fh:ey:=top 59
abbrev sN:ey:=top 60
theorem FR{A:List V}(h:A.length=5):∃a b c d e,A=[a,b,c,d,e]:=by
 cases A with
 |nil=>cases h
 |cons a r=>
  cases r with
  |nil=>cases h
  |cons b R=>
   cases R with
   |nil=>cases h
   |cons c f=>
    cases f with
    |nil=>cases h
    |cons d g=>
     cases g with
     |nil=>cases h
     |cons e i=>
      cases i with
      |nil=>exact#[a,b,c,d,e,Z]
      |cons _ _=>cases h
theorem Hc{n:Nat}:mQ (n+1) 0=δ 0:=by unfold mQ;rw[Iw HA,Iw Hz];rfl
theorem Hd{n:Nat}:mQ (n+2) 1=δ 1:=by unfold mQ;rw[Iw HA,Iw Hz];rfl
theorem iV:dC (v::u::y) 1=δ u:=jN (j:=1) Z
structure Fw(p:ε)(H H':Hp):Prop where
 t:ai H H'
 b:aA p H H'
theorem Fw.refl:Fw p H H:=#[ai.refl,aA.refl]
theorem Fw.trans(a:Fw p H h)(b:Fw p h c):Fw p H c:=#[a.t.trans b.t,a.b.trans b.b]
theorem Fw.new{p:ε}{H:Hp}{o:HO}(n:H r=ζ):Fw p H (aj H r o):=#[af.tm$ je n,aA.of_same$ je n]
theorem Fw.same(s:af H h):Fw p H h:=#[af.tm s,aA.of_same s]
theorem Fw.but(B:ar H p)(c:aA p H h):Fw p H h:=#[c.tm B,c]
def nL(P:Hp->V->Prop):Prop:=∀H h v,ai H h->P H v->P h v
def Ev(a:Hp)(p W:ε)(y:List π)(b:Hp)(c:_L.St)(t:TE)(P:Hp->V->Prop):Prop:=∀(H:Hp) (Q:VK),Fw p b H->Wd a H p W y->(∀v h,P h v->Wd a h p W y->Fw p H h->Q v h)->t c H Q
def PT(y:List π)(k:Nat)(H:Hp)(v:V):Prop:=∃a,v= .ref a/\gq H y k a
def PB(C:eQ)(y:List π)(d n:Nat)(H:Hp)(v:V):Prop:=∃a x,v= .ref a/\H a=δ (.tup x)/\gG C H y d x/\x.length<=n
def PN(y:List π)(_:Hp)(v:V):Prop:=∃x,v= .str x/\x∈y
def PG(_:Hp)(v:V):Prop:=∃s,v= .str s/\Sg s
def PP(n:Nat)(H:Hp)(v:V):Prop:=∃(a:ε) (x:List π),v= .ref a/\H a=δ (.tup$ x.map HV)/\x.length=n
def uQ(y:π)(_:Hp)(v:V):Prop:=v= .str y
def PD(C:eQ)(n:Nat)(f:π)(H:Hp)(v:V):Prop:=∃a,v= .ref a/\pi C n H a f
section
variable {Cf:eQ}{ys:List π}{H0 Hb:Hp}{p wl:ε}{σ:_L.St}
theorem ap:nL (PT ys k):=λ_ _ _ m #[a,e,h]=>#[a,e,h.mono m]
theorem dB:nL (PB Cf ys d n):=λ_ _ _ m #[a,x,e,h,H,b]=>#[a,x,e,m _ _ h,H.mono m,b]
theorem dI:nL λH v=>cw Cf H ys d v:=λ_ _ _ m h=>h.mono m
theorem iK:nL (PD Cf n f):=λ_ _ _ m #[a,e,h]=>#[a,e,h.mono m]
theorem Ev.up{P R:Hp->V->Prop}(h:Ev H0 p wl ys Hb σ t P)(k:∀H v,P H v->R H v):Ev H0 p wl ys Hb σ t R:=λH Q m W q=>h H Q m W λv a x=>q v a (k _ _ x)
theorem jF{P:Hp->V->Prop}(e:σ[i]?=δ (δ v))(M:nL P)(h:P Hb v):Ev H0 p wl ys Hb σ (aZ i) P:=λH Q m W q=>#[v,e,q v H (M _ _ _ m.t h) W .refl]
theorem zC(h:Sg s):Ev H0 p wl ys Hb σ (tC$ .str s) PG:=λH Q m W q=>q _ H #[s,Z,h] W .refl
theorem j4{K:Ω}(e:σ[j]?=δ (δ$ .ref wl))(a:0<=i)(b:i < (ys.length:Int)):Ev H0 p wl ys Hb σ (dQ (iM K) (aZ j)$ tC$ .int i) (PN ys):=λH Q m W q=>by obtain⟨y,c,h⟩:=KC (ys:=ys) a b;exact#[_,e,wl,_,_,_,Z,Z,aG.of W.w,h,q _ H #[y,Z,c] W .refl]
theorem kJ{Q:VK}{P:Hp->V->Prop}(W:Wd H0 H p wl ys)(q:∀v h,P h v->Wd H0 h p wl ys->Fw p H h->Q v h)(n:H r=ζ)(x:ai H (aj H r o)->aj H r o r=δ o->P (aj H r o) (.ref r)):Q (.ref r) (aj H r o):=
 q _ _ (x (af.tm$ je n) jc) (W.same$ je n) (.new n)
abbrev uu(n:Int):TE:=dP aW [] E0 (al (aZ 0)$ al (tC$ .int n) aJ)
def PK(n:Int)(_:Hp)(v:V):Prop:=∃d:Int,v= .int d/\0<=d/\d < n
theorem kS(e:σ[0]?=δ (δ$ .ref p))(h:1<=n)(c:n<=1000):Ev H0 p wl ys Hb σ (uu n) (PK n):=λH Q m W q=>
 #[_,e,p,n,Z,W.B,Hz,Hz,λd f D a b E=>q _ _ #[d,Z,D,a] (W.but b$ aA.of_eq E) (.but W.B$ aA.of_eq E)]
theorem j8(h:Ev H0 p wl ys Hb σ t (PK n))(g:n<=1000000000000000000):Ev H0 p wl ys Hb σ (bJ$ al (tC$ .str "num")$ al t aJ) (PT ys 0):=λH Q m W q=>
 h H _ m W λv i #[d,e,D,j] a b=>#[bK,λr N=>kJ (P:=PT ys 0) a (λV c x f k=>q V c x f (b.trans k)) N λ_ z=>#[r,Z,CD (by rw[z,e]) D Hz]]
theorem Ko(h:0<=n)(a:n < m):Ev H0 p wl ys Hb σ (tC$ .int n) (PK m):=λH Q _ W q=>q _ H #[n,Z,h,a] W .refl
theorem Q5(h:Ev H0 p wl ys Hb σ t (PK n))(c:0<=m):Ev H0 p wl ys Hb σ (dQ (uT λi j=>HW (i+j)) (tC$ .int m) t) (PK$ m+n):=λH Q M W q=>
 h H _ M W λv a #[d,e,D,f] b k=>#[m,d,Z,e,q _ a #[m+d,Z,Hz,Hz] b k]
theorem qo(h:Ev H0 p wl ys Hb σ t (PN ys)):Ev H0 p wl ys Hb σ (bJ$ al (tC$ .str "var")$ al t aJ) (PT ys 0):=λH Q m W q=>
 h H _ m W λv i #[d,e,a] b c=>#[bK,λr n=>kJ (P:=PT ys 0) b (λV f x g k=>q V f x g (c.trans k)) n λ_ z=>#[r,Z,uC (by rw[z,e]) a]]
theorem zr{n:Nat}(h:Ev H0 p wl ys Hb σ T PG)(f:Ev H0 p wl ys Hb σ g (PT ys j))(i:Ev H0 p wl ys Hb σ l (PT ys k))(o:j < n)(u:k < n):Ev H0 p wl ys Hb σ (bJ$ al (tC$ .str "op")$ al T$ al g$ al l aJ) (PT ys n):=λH Q m W q=>
 h H _ m W λM v #[s,E,X] y c=>f v _ (m.trans c) y λO A #[a,B,C] D d=>i A _ ((m.trans c).trans d) D λR S #[b,F,G] I e=>#[uf,λr N=>kJ (P:=PT ys n) I (λV J x L k=>q V J x L (((c.trans d).trans e).trans k)) N λt z=>
  #[r,Z,y8 (by rw[z,E,B,F]) X ((C.mono e.t).mono t) (G.mono t) o u]]
theorem Dr(e:σ[0]?=δ (δ$ .ref p)):Ev H0 p wl ys Hb σ (dQ wP (tC$ .str "<=*")$ uu 3) PG:=λH Q m W q=>
 kS e HA HA H _ m W λv h #[d,E,D,a] b k=>by obtain⟨g,i,x⟩:=wH D a;exact#["<=*",d,g,Z,E,Hw,i,q _ h #[_,Z,x] b k]
theorem YU{K:Ω}(e:σ[0]?=δ (δ$ .ref p))(r:Ev H0 p wl ys Hb σ T (PT ys k))(s:Ev H0 p wl ys Hb σ u (PT ys k)):Ev H0 p wl ys Hb σ (dQ (iM K) (mw$ al T$ al u aJ)$ uu 2) (PT ys k):=λH Q m W q=>
 r H _ m W λV y #[a,E,X] z c=>s y _ (m.trans c) z λA C #[b,D,F] h f=>#[bK,λl n=>kS e HA HA _ _ (((m.trans c).trans f).trans$ .new n) (h.same$ je n) λv G #[d,I,J,L] M j=>by
  obtain⟨g,i,x⟩:=DZ (P:=gq C ys k) J L (X.mono f.t) F;rw[<- E,<- D]at i;let t:=(Fw.new (p:=p) (o:=HO.lst [V,A]) n).trans j;exact#[l,_,d,_,Z,I,aG.of$ j.b _ _ (h.B.ne n) jc,i,q _ G #[g,Z,x.mono t.t] M ((c.trans f).trans t)]]
theorem yr{K:Ω}(e:σ[0]?=δ (δ$ .ref p))(u:Ev H0 p wl ys Hb σ T (PT ys k))(y:Ev H0 p wl ys Hb σ z (PT ys k))(A:Ev H0 p wl ys Hb σ C (PT ys k)):Ev H0 p wl ys Hb σ (dQ (iM K) (mw$ al T$ al z$ al C aJ)$ uu 3) (PT ys k):=λH Q m W q=>
 u H _ m W λV D #[a,E,X] F f=>y D _ (m.trans f) F λG I #[b,J,L] M h=>A I _ ((m.trans f).trans h) M λN O #[c,R,S] r j=>#[eA,λl n=>kS e HA HA _ _ ((((m.trans f).trans h).trans j).trans$ .new n) (r.same$ je n) λv U #[d,Y,d0,d1] W4 s=>by
  obtain⟨g,i,x⟩:=D0 (P:=gq O ys k) d0 d1 (X.mono (h.trans j).t) (L.mono j.t) S;rw[<- E,<- J,<- R]at i;let t:=(Fw.new (p:=p) (o:=HO.lst [V,G,N]) n).trans s;exact#[l,_,d,_,Z,Y,aG.of$ s.b _ _ (r.B.ne n) jc,i,q _ U #[g,Z,x.mono t.t] W4 (((f.trans h).trans j).trans t)]]
theorem Dp{K:Ω}(e:σ[0]?=δ (δ$ .ref p))(r:1<=n)(s:n<=1000)(u:Ev H0 p wl ys Hb σ T (PT ys k))(y:Ev H0 p wl ys Hb σ z (PT ys k)):Ev H0 p wl ys Hb σ (dQ (iM K) (mw$ al T$ al z aJ)$ Fd (λX H Q=>(∃i,X=[HW i]/\Q (HW i) H)∨∃k,X=[V.bl k]/\Q (HW (if k=μ then 1 else 0)) H)$ al (dQ D4 (uu n)$ tC$ .int 0) aJ) (PT ys k):=λH Q m W q=>
 u H _ m W λA C #[a,E,D] F c=>y C _ (m.trans c) F λG I #[b,J,L] h f=>#[bK,λl N=>kS e r s _ _ (((m.trans c).trans f).trans$ .new N) (h.same$ je N) λv M #[d,O,S,U] R j=>by
  subst O;refine#[Z,.inr #[_,Z,?_]];obtain⟨g,i,x⟩:=D1 (P:=gq I ys k) (D.mono f.t) L _;rw[<- E,<- J]at i;let t:=(Fw.new (p:=p) (o:=HO.lst [A,G]) N).trans j;exact#[l,_,_,_,Z,Z,aG.of$ j.b _ _ (h.B.ne N) jc,i,q _ M #[g,Z,x.mono t.t] R ((c.trans f).trans t)]]
theorem Kt(e:σ[0]?=δ (δ$ .ref p))(h:Ev H0 p wl ys Hb σ T (PT ys k))(g:Ev H0 p wl ys Hb σ i (PT ys k)):Ev H0 p wl ys Hb σ (dP mn [] E0$ al (aZ 0)$ al T$ al i aJ) (PT ys$ k+1):=λH Q m W q=>
 #[_,e,h H _ m W λv j #[a,E,x] l d=>g j _ (m.trans d) l λV y #[b,n,X] c f=>#[p,a,b,ys,k,by rw[E,n];rfl,c.B,x.mono f.t,X,λr o s u C=>q _ o #[r,Z,s] (c.but u C) ((d.trans f).trans$ .but c.B C)]]
theorem vp{w:π}{T a:TE}{A B R:Hp->V->Prop}(M:nL A)(d:nL B)(e:Ev H0 p wl ys Hb σ T A)(f:Ev H0 p wl ys Hb σ a B)(h:∀H r u v,H r=δ (.tup [.str w,u,v])->A H u->B H v->R H (.ref r)):Ev H0 p wl ys Hb σ (bJ$ al (tC$ .str w)$ al T$ al a aJ) R:=λH Q m W q=>
 e H _ m W λC g X i b=>f g _ (m.trans b) i λD E j l c=>#[eA,λr n=>kJ (P:=R) l (λo s x y k=>q o s x y ((b.trans c).trans k)) n λt z=>h _ _ _ _ z (M _ _ _ t$ M _ _ _ c.t X) (d _ _ _ t j)]
theorem FH{w:π}{T:TE}{A R:Hp->V->Prop}(M:nL A)(a:Ev H0 p wl ys Hb σ T A)(h:∀H r u,H r=δ (.tup [.str w,u])->A H u->R H (.ref r)):Ev H0 p wl ys Hb σ (bJ$ al (tC$ .str w)$ al T aJ) R:=λH Q m W q=>
 a H _ m W λf g X b c=>#[bK,λr n=>kJ (P:=R) b (λv d x e k=>q v d x e (c.trans k)) n λt z=>h _ _ _ z (M _ _ _ t X)]
theorem Dm{w:π}{T d e:TE}{A B C R:Hp->V->Prop}(M:nL A)(f:nL B)(g:nL C)(i:Ev H0 p wl ys Hb σ T A)(j:Ev H0 p wl ys Hb σ d B)(l:Ev H0 p wl ys Hb σ e C)(h:∀H r u v x,H r=δ (.tup [.str w,u,v,x])->A H u->B H v->C H x->R H (.ref r)):Ev H0 p wl ys Hb σ (bJ$ al (tC$ .str w)$ al T$ al d$ al e aJ) R:=λH Q m W q=>
 i H _ m W λL n X o a=>j n _ (m.trans a) o λO s y D b=>l s _ ((m.trans a).trans b) D λS U E F c=>#[uf,λr N=>kJ (P:=R) F (λG I x J k=>q G I x J (((a.trans b).trans c).trans k)) N λt z=>h _ _ _ _ _ z (M _ _ _ t$ M _ _ _ (b.trans c).t X) (f _ _ _ t$ f _ _ _ c.t y) (g _ _ _ t E)]
theorem A3:nL (PN ys):=λ_ _ _ _ h=>h
theorem Jh{t T:TE}{k:Nat}(h:Ev H0 p wl ys Hb σ t (PN ys))(b:Ev H0 p wl ys Hb σ T (PT ys k))(c:k < 6):Ev H0 p wl ys Hb σ (bJ$ al (tC$ .str "read")$ al t$ al T aJ) (λH v=>cw Cf H ys 0 v):=vp A3 ap h b λH r u v z #[x,e,d] #[a,E,f]=>Et (by rw[z,e,E]) d f c
theorem Ji{t T:TE}{k:Nat}(h:Ev H0 p wl ys Hb σ t (PN ys))(b:Ev H0 p wl ys Hb σ T (PT ys k))(c:k < 6):Ev H0 p wl ys Hb σ (bJ$ al (tC$ .str "set")$ al t$ al T aJ) (λH v=>cw Cf H ys 0 v):=vp A3 ap h b λH r u v z #[x,e,d] #[a,E,f]=>Eu (by rw[z,e,E]) d f c
theorem JX{t T:TE}{j k:Nat}(h:Ev H0 p wl ys Hb σ t (PT ys j))(b:Ev H0 p wl ys Hb σ T (PT ys k))(c:j < 6)(d:k < 6):Ev H0 p wl ys Hb σ (bJ$ al (tC$ .str "write")$ al t$ al T aJ) (λH v=>cw Cf H ys 0 v):=vp ap ap h b λH r u v z #[x,e,f] #[a,E,g]=>Ew (by rw[z,e,E]) f g c d
theorem Qy{t:TE}{k:Nat}(h:Ev H0 p wl ys Hb σ t (PT ys k))(b:k < 6):Ev H0 p wl ys Hb σ (bJ$ al (tC$ .str "give")$ al t aJ) (λH v=>cw Cf H ys 0 v):=FH ap h λH r v z #[a,e,c]=>Er (by rw[z,e]) c b
theorem pV{n o T c:TE}{j k:Nat}(C:Ev H0 p wl ys Hb σ n (PN ys)){f:π}(D:Ev H0 p wl ys Hb σ o (uQ f))(d:(f,2)∈Cf)(F:Ev H0 p wl ys Hb σ T (PT ys j))(G:Ev H0 p wl ys Hb σ c (PT ys k))(I:j < 6)(J:k < 6):Ev H0 p wl ys Hb σ (bJ$ al (tC$ .str "call")$ al n$ al o$ al (bJ$ al T$ al c aJ) aJ) (λH v=>cw Cf H ys 0 v):=by
 let' R:Hp->V->Prop:=λH v=>∃q a b,v= .ref q/\H q=δ (.tup [.ref a,.ref b])/\gq H ys j a/\gq H ys k b
 let M:nL R:=λ_ _ _ m #[q,a,b,e,g,L,i]=>#[q,a,b,e,m _ _ g,L.mono m,i.mono m];let N:Ev H0 p wl ys Hb σ (bJ$ al T$ al c aJ) R:=λH Q m W q=>
  F H _ m W λv2 O #[a,E,X] S s=>G O _ (m.trans s) S λv3 H3 #[b,l,U] Y A=>#[bK,λr nr=>kJ (P:=R) Y (λv' H' x W' k=>q v' H' x W' ((s.trans A).trans k)) nr λt z=>#[r,a,b,Z,by rw[z,E,l],(X.mono A.t).mono t,U.mono t]]
 exact Dm A3 (B:=uQ f) (λ_ _ _ _ h=>h) M C D N λH r u v x z #[y,e1,g] (E:v= .str f) #[q,a,b,l,i,h4,h5]=>Ep (f:=f) (by rw[z,e1,E,l]) g d i h4 h5 I J
theorem yq{t T b:TE}{k n m:Nat}(h:Ev H0 p wl ys Hb σ t (PT ys k))(c:Ev H0 p wl ys Hb σ T (PB Cf ys 0 n))(d:Ev H0 p wl ys Hb σ b (PB Cf ys 0 m))(e:k < 6)(s:n+m<=20):Ev H0 p wl ys Hb σ (bJ$ al (tC$ .str "if")$ al t$ al T$ al b aJ) (λH v=>cw Cf H ys 1 v):=
 Dm ap dB dB h c d λH r u v x z #[a,E,f] #[Q,X,g,i,j,y] #[A,B,l,o,q,C]=>Es (by rw[z,E,g,l]) f i o j q Hz e
theorem pY{t T:TE}{k n:Nat}(h:Ev H0 p wl ys Hb σ t (PT ys k))(b:Ev H0 p wl ys Hb σ T (PB Cf ys 0 n))(c:k < 6)(i:n<=20):Ev H0 p wl ys Hb σ (bJ$ al (tC$ .str "while")$ al t$ al T aJ) (λH v=>cw Cf H ys 1 v):=
 vp ap dB h b λH r u v z #[a,e,d] #[q,x,E,f,g,j]=>ue (by rw[z,e,E]) d f g Hz c
theorem yo{d:Nat}:Ev H0 p wl ys Hb σ (bJ aJ) (PB Cf ys d 0):=λH Q m W q=>#[pf,λr n=>kJ (P:=PB Cf ys d 0) W q n λt z=>#[r,[],Z,z,KG,Im 0]]
theorem JY(h:Ev H0 p wl ys Hb σ T (λH v=>cw Cf H ys d v)):Ev H0 p wl ys Hb σ (bJ$ al T aJ) (PB Cf ys d 1):=λH Q m W q=>
 h H _ m W λf g X a b=>#[gZ,λr n=>kJ (P:=PB Cf ys d 1) a (λV c x e k=>q V c x e (b.trans k)) n λt z=>#[r,_,Z,z,zF$ X.mono t,Im 1]]
theorem Xr(h:Ev H0 p wl ys Hb σ T (λH v=>cw Cf H ys d v))(c:Ev H0 p wl ys Hb σ e (λH v=>cw Cf H ys d v)):Ev H0 p wl ys Hb σ (bJ$ al T$ al e aJ) (PB Cf ys d 2):=λH Q m W q=>
 h H _ m W λs f X g a=>c f _ (m.trans a) g λu y i j b=>#[bK,λr n=>kJ (P:=PB Cf ys d 2) j (λV l x o k=>q V l x o ((a.trans b).trans k)) n λt z=>#[r,_,Z,z,jU ((X.mono b.t).mono t)$ zF$ i.mono t,Im 2]]
theorem yp(h:Ev H0 p wl ys Hb σ T (λH v=>cw Cf H ys d v))(e:Ev H0 p wl ys Hb σ f (λH v=>cw Cf H ys d v))(g:Ev H0 p wl ys Hb σ i (λH v=>cw Cf H ys d v)):Ev H0 p wl ys Hb σ (bJ$ al T$ al f$ al i aJ) (PB Cf ys d 3):=λH Q m W q=>
 h H _ m W λC j X l a=>e j _ (m.trans a) l λD n o s b=>g n _ ((m.trans a).trans b) s λE F u y c=>#[eA,λr N=>kJ (P:=PB Cf ys d 3) y (λV A x B k=>q V A x B (((a.trans b).trans c).trans k)) N λt z=>#[r,_,Z,z,jU ((X.mono (b.trans c).t).mono t)$ jU ((o.mono c.t).mono t)$ zF$ u.mono t,Im 3]]
theorem qt(h:Ev H0 p wl ys Hb σ T (PB Cf ys d n))(e:Ev H0 p wl ys Hb σ f (PB Cf ys d m))(B:n+m<=100):Ev H0 p wl ys Hb σ (dQ sJ T f) (PB Cf ys d$ n+m):=λH Q M W q=>
 h H _ M W λV g #[a,x,E,i,X,L] j c=>e g _ (M.trans c) j λC D #[b,z,l,o,u,F] v k=>#[a,b,x,z,E,l,k.t _ _ i,o,IB (show x.length+z.length<=100 by omega) HA,λr y A s=>q _ y #[r,_,Z,A,JN ((X.mono k.t).mono$ af.tm s)$ u.mono$ af.tm s,by rw[Io];omega] (v.same s) ((c.trans k).trans$ .same s)]
theorem Qz(e:σ[i]?=δ (δ$ .str x)):Ev H0 p wl ys Hb σ (aZ i) (uQ x):=jF e (λ_ _ _ _ h=>h) Z
theorem Xt(h:Ev H0 p wl ys Hb σ T (uQ f))(g:Ev H0 p wl ys Hb σ i (PP m))(j:Ev H0 p wl ys Hb σ l (PB Cf ys 1 n))(O:n<=16)(o:ys.length<=20):Ev H0 p wl ys Hb σ (bJ$ al T$ al i$ al l aJ) (PD Cf m f):=λH Q M W q=>
 h H _ M W λv s (E:v= .str f) u c=>g s _ (M.trans c) u λR y #[a,S,A,B,L] C d=>j y _ ((M.trans c).trans d) C λU Y #[b,xs,D,F,X,l4] G e=>#[eA,λr N=>kJ (P:=PD Cf m f) G (λV I x J k=>q V I x J (((c.trans d).trans e).trans k)) N λt z=>
  #[r,Z,Dk (f:=f) (by rw[z,E,A,D]) (t _ _$ e.t _ _ B) L (t _ _ F) (X.mono t) Hz o]]
theorem pX(h:Ev H0 p wl ys Hb σ T (PN ys)):Ev H0 p wl ys Hb σ (bJ$ al T aJ) (PP 1):=λH Q m W q=>
 h H _ m W λV f #[X,e,_] a b=>#[gZ,λr n=>kJ (P:=PP 1) a (λv c x d k=>q v c x d (b.trans k)) n λt z=>#[r,[X],Z,by rw[z,e];rfl,Z]]
theorem yt(h:Ev H0 p wl ys Hb σ T (PN ys))(b:Ev H0 p wl ys Hb σ c (PN ys)):Ev H0 p wl ys Hb σ (bJ$ al T$ al c aJ) (PP 2):=λH Q m W q=>
 h H _ m W λV d #[X,e,_] f a=>b d _ (m.trans a) f λs u #[g,E,_] i j=>#[bK,λr n=>kJ (P:=PP 2) i (λv l x o k=>q v l x o ((a.trans j).trans k)) n λt z=>#[r,[X,g],Z,by rw[z,e,E];rfl,Z]]
theorem cw.lift(h:cw Cf H ys 0 v):cw Cf H ys 1 v:=h.up
theorem PB.lift(h:PB Cf ys 0 n H v):PB Cf ys 1 n H v:=let #[a,x,e,c,#[b,B,d,g,i],f]:=h;#[a,x,e,c,#[b,B,d,Hz,Hz],f]
theorem PB.more(h:PB Cf ys d n H v)(k:n<=m):PB Cf ys d m H v:=let #[a,x,e,b,c,f]:=h;#[a,x,e,b,c,IB f k]
theorem Jj{a b:TS}(W:Wd H0 H p wl ys)(e:σ[0]?=δ (δ$ .ref p))(g:1<=n)(i:n<=1000)(j:∀h,Wd H0 h p wl ys->Fw p H h->a D σ h)(l:∀h,Wd H0 h p wl ys->Fw p H h->b D σ h):iN (iS$ dQ D4 (uu n)$ tC$ .int 0) a b D σ H:=
 kS (Hb:=H) e g i H _ .refl W λv c #[d,E,m,o] f k=>by subst E;exact#[Z,_,Z,bZ (λ_=>j c f k) (λ_=>l c f k)]
theorem jO{D:a7}{P:Hp->V->Prop}(W:Wd H0 H p wl ys)(h:Ev H0 p wl ys H σ t P)(q:∀v a,P a v->Wd H0 a p wl ys->Fw p H a->D.nx (σ.set i$ δ v) a):dn t (bG i) D σ H:=h H _ .refl W q
theorem KH{D:a7}{P:Hp->V->Prop}(W:Wd H0 H p wl ys)(h:Ev H0 p wl ys H σ t P)(q:∀v a,P a v->Wd H0 a p wl ys->D.rt v a):iw t D σ H:=h H _ .refl W λv a x b _=>q v a x b
theorem xz{K:Ω}{D:a7}(W:Wd H0 H p wl ys)(d:Ev H0 p wl ys H σ T (PT ys 0))(e:Ev H0 p wl ys H σ f (PT ys 0))(g:Ev H0 p wl ys H σ l (PT ys 0))
  (q:∀u v w h,PT ys 0 h u->PT ys 0 h v->PT ys 0 h w->Wd H0 h p wl ys->Fw p H h->D.nx (((σ.set k$ δ w).set j$ δ v).set i$ δ u) h):yW K (bJ$ al T$ al f$ al l aJ) i j k D σ H:=
 d H _ .refl W λV m x o a=>e m _ a o λs y X z b=>g y _ (a.trans b) z λA E B C c=>#[eA,λr n=>#[r,_,_,_,Z,aC.of jc,q V s A _ (ap _ _ _ (af.tm$ je n)$ ap _ _ _ (b.trans c).t x) (ap _ _ _ (af.tm$ je n)$ ap _ _ _ c.t X) (ap _ _ _ (af.tm$ je n) B) (C.same$ je n) (((a.trans b).trans c).trans$ .new n)]]
structure Ow(H0 H:Hp)(p wl l:ε)(xs:List V):Prop where
 hl:H l=δ (.lst xs)
 np:l≠p
 lw:l≠wl
 l0:H0 l=ζ
theorem Ow.fw(o:Ow H0 H p wl l x)(k:Fw p H h):Ow H0 h p wl l x:=#[k.b _ _ o.np o.hl,o.np,o.lw,o.l0]
theorem Ow.new(W:Wd H0 H p wl ys)(n:H l=ζ):Ow H0 (aj H l$ .lst x) p wl l x:=#[jc,W.B.ne n,(λe=>by let z:=W.w;rw[<- e,n]at z;cases z),W.K.none W.B n]
theorem DX{D:a7}(W:Wd H0 H p wl ys)(b:Ev H0 p wl ys H σ t (λH v=>cw Cf H ys 0 v))(q:∀l v h,Ow H0 h p wl l [v]->cw Cf h ys 0 v->Wd H0 h p wl ys->Fw p H h->D.nx (σ.set i$ δ$ .ref l) h):dn (mw$ al t aJ) (bG i) D σ H:=
 b H _ .refl W λV c x a k=>#[gZ,λl n=>q l V _ (.new a n) (x.mono$ af.tm$ je n) (a.same$ je n) (k.trans$ .new n)]
theorem DY{D:a7}(W:Wd H0 H p wl ys)(c:Ev H0 p wl ys H σ T (λH v=>cw Cf H ys 0 v))(d:Ev H0 p wl ys H σ e (λH v=>cw Cf H ys 0 v))(q:∀l u v h,Ow H0 h p wl l [u,v]->cw Cf h ys 0 u->cw Cf h ys 0 v->Wd H0 h p wl ys->Fw p H h->D.nx (σ.set i$ δ$ .ref l) h):dn (mw$ al T$ al e aJ) (bG i) D σ H:=
 c H _ .refl W λV f x g k=>d f _ k g λj m X a b=>#[bK,λl n=>q l V j _ (.new a n) ((x.mono b.t).mono$ af.tm$ je n) (X.mono$ af.tm$ je n) (a.same$ je n) ((k.trans b).trans$ .new n)]
theorem JO{K:Ω}{D:a7}(W:Wd H0 H p wl ys)(a:σ[i]?=δ (δ$ .ref l))(o:Ow H0 H p wl l xs)(b:xs.length<=100)(c:Ev H0 p wl ys H σ T (λH v=>cw Cf H ys 0 v))
  (q:∀v h,cw Cf h ys 0 v->Ow H0 h p wl l (xs++[v])->Wd H0 h p wl ys->ai H h->D.nx σ h):oy (Gh K "list" iY (aZ i)$ al T aJ) D σ H:=
 #[_,a,.inl #[Z,_,aG.of o.hl],c H _ .refl W λv e x d k=>#[l,xs,v,Z,Z,(o.fw k).hl,LP b HA,q v _ (x.mono$ Q4 (o.fw k).hl) #[jc,o.np,o.lw,o.l0] (d.own (xs:=xs) o.l0 o.np o.lw) (k.t.trans$ Q4 (o.fw k).hl)]]
theorem xM{K:Ω}{D:a7}(W:Wd H0 H p wl ys)(h:σ[i]?=δ (δ$ .ref l))(o:Ow H0 H p wl l (u::v::z))
  (q:∀a,Ow H0 a p wl l (v::u::z)->Wd H0 a p wl ys->ai H a->D.nx σ a):dn (bJ$ al (dQ (iM K) (aZ i)$ tC$ .int 1)$ al (dQ (iM K) (aZ i)$ tC$ .int 0) aJ) (rg K 2$ dN (AN (aZ i) (tC$ .int 0) nV)$ dN (AN (aZ i) (tC$ .int 1) nV) vB) D σ H:=
 #[_,h,l,_,_,_,Z,Z,aG.of o.hl,iV,_,h,l,_,_,_,Z,Z,aG.of o.hl,hG,bK,λt N=>#[t,_,Z,aC.of jc,Z,_,_,Z,_,h,l,_,0,0,Z,Z,ao o.hl N,Hc (n:=z.length+1),_,_,Z,_,h,l,_,1,1,Z,Z,jc,Hd (n:=z.length),Z,
  q _ #[jc,o.np,o.lw,o.l0] (((W.same$ je N).own (xs:=u::v::z) o.l0 o.np o.lw).own (xs:=u::v::z) o.l0 o.np o.lw) (((af.tm$ je N).trans$ Q4$ ao o.hl N).trans$ Q4 jc)]]
theorem yu{K:Ω}{n:Nat}(e:σ[i]?=δ (δ$ .ref l))(o:Ow H0 Hb p wl l x)(h:gG Cf Hb ys 0 x)(a:x.length<=n):Ev H0 p wl ys Hb σ (Fd (λx H Q=>∃p ys,x=[HX p]/\((aG K H p ys/\∀(l:ε),H l=ζ->Q (HX l) (aj H l$ HO.tup ys))∨aC K H p ys/\Q (HX p) H))$ al (aZ i) aJ) (PB Cf ys 0 n):=λH Q m W q=>
 #[_,e,l,x,Z,.inl #[aG.of (o.fw m).hl,λr N=>kJ (P:=PB Cf ys 0 n) W q N λt z=>#[r,x,Z,z,(h.mono m.t).mono t,a]]]
theorem Am{D:a7}(W:Wd H0 H p wl ys)(u:σ[i]?=δ (δ$ .ref l))(y:σ[j]?=δ (δ$ .ref m))(o:Ow H0 H p wl l x)(O:Ow H0 H p wl m z)(C:x.length+z.length<=100)(E:gG Cf H ys 0 x)(F:gG Cf H ys 0 z)
  (G:Ev H0 p wl ys H σ T (λH v=>cw Cf H ys 0 v)) (I:Ev H0 p wl ys H σ J (λH v=>cw Cf H ys 0 v)) (q:∀r U h,Ow H0 h p wl r U->gG Cf h ys 0 U->U.length<=x.length+z.length+2->Wd H0 h p wl ys->Fw p H h->D.nx (σ.set i$ δ$ .ref r) h):
  dn (dQ wO (dQ wO (aZ i)$ aZ j)$ mw$ al T$ al J aJ) (bG i) D σ H:=
 #[_,u,_,y,l,m,_,_,Z,Z,o.hl,O.hl,IB C HA,λc n=>G _ _ (.new n) (W.same$ je n) λV L X M k=>I L _ ((Fw.new n).trans k) M λe R Q A s=>#[bK,λd N=>#[c,d,_,_,Z,Z,ao ((k.trans s).b _ _ (W.B.ne n) jc) N,jc,by
  let:=aI;show(x++z).length+2<=υ;rw[Io];omega,λr a=>q r _ _ (.new (A.same$ je N) a) (by
   let f:=(((Fw.new n).trans k).trans s).trans ((Fw.new (p:=p) (o:=HO.lst [V,e]) N).trans$ Fw.new (o:=HO.lst ((x++z)++[V,e])) a);let g:=(Fw.new (p:=p) (o:=HO.lst [V,e]) N).trans (Fw.new (o:=HO.lst ((x++z)++[V,e])) a);exact JN (JN (E.mono f.t)$ F.mono f.t)$ jU ((X.mono s.t).mono g.t)$ zF$ Q.mono g.t) (by rw[Io,Io];exact Im _) ((A.same$ je N).same$ je a) ((((Fw.new n).trans k).trans s).trans ((Fw.new N).trans$ Fw.new a))]]]
theorem Ze{K:Ω}{D:a7}(W:Wd H0 H p wl ys)(k:σ[3]?=δ (δ$ .ref wl))(l:ys.length=6)
  (q:∀a b c d e g,PT ys 0 g a->PT ys 0 g b->PT ys 0 g c->PT ys 0 g d->PT ys 0 g e->Wd H0 g p wl ys->D.nx (((((σ.set 4$ δ a).set 5$ δ b).set 6$ δ c).set 7$ δ d).set 8$ δ e) g):
  dn (uj (yw K$ Fe (wQ K) (aZ 3) lP$ mx$ tC$ HW 5) 1 [] (bG 0) mv$ bJ$ al (tC$ HV "var")$ al (aZ 0) aJ) (FJ K 5$ dN (bG 4)$ dN (bG 5)$ dN (bG 6)$ dN (bG 7)$ dN (bG 8) vB) D σ H:=by
 let B:=aI;refine#[_,k,_,Z,wl,_,Z,aG.of W.w,λs n=>?_];let E:aX (ys.map HV) ζ (δ 5)=(ys.take 5).map HV:=by rw[show(5:Int)=((5:Nat):Int) from Z,Dh (by rw[Ik];omega),Nf]
 let t:aj H s (.lst$ aX (ys.map HV) ζ$ δ 5) s=δ (.lst ((ys.take 5).map HV)):=by rw[E];exact jc
 let S:=je (o:=HO.lst (aX (ys.map HV) ζ$ δ 5)) n;generalize aj H s (.lst$ aX (ys.map HV) ζ$ δ 5)=A at t S;refine#[s,Z,#[_,aG.of t],?_];refine ZY (K:=K) (a:=s) (xs:=(ys.take 5).map HV) (by rw[Ik,IU];omega) (λi j g=>j.length=i/\(∀v∈j,PT ys 0 g v)/\af A g) #[Z,(λ_ h=>absurd h IF),af.refl _] (λi j g h=>#[aG.of$ h.2.2 _ _ t,Od h.1]) (λi x j g C h=>?_) (λj F h L N=>?_)
 .obtain⟨y,l,rfl⟩:=cJ.mp (IA C);exact#[_,Z,bK,λr u=>#[by rw[Io,h.1];rfl,Jz (λa z=>ap _ _ _ (af.tm$ je u) (h.2.1 a z)) #[r,Z,uC jc$ Lg l],h.2.2.trans$ je u]]
 .let e:=h.1;rw[Ik,IU]at e;obtain⟨a,b,c,d,f,rfl⟩:=FR (show j.length=5 by omega);let m:=af.tm (je (o:=HO.lst [a,b,c,d,f]) N);exact#[L,_,Z,aG.of jc,Z,_,_,Z,_,_,Z,_,_,Z,_,_,Z,_,_,Z,Z,q a b c d f _ (ap _ _ _ m$ h.2.1 a Hy) (ap _ _ _ m$ h.2.1 b Hy) (ap _ _ _ m$ h.2.1 c Hy) (ap _ _ _ m$ h.2.1 d Hy) (ap _ _ _ m$ h.2.1 f Hy) (((W.same S).same h.2.2).same$ je N)]
end
theorem Ga:am z17z z17z (ae F'):=bY
theorem DT(F:aK K "_law_op" "_law_op" F' f t)(C:Cl P w K mg base 1 T u z0z aW "_law_take"):ak P w K mg base aD 2 f t z17z mn:=by
 refine F.ok Ga ?_ λv A O s H V Q E x h=>?_
 .rintro _ _ _ _ ⟨p,a,b,y,k,rfl,_⟩;rfl
 obtain⟨p,a,b,y,k,rfl,B,z,D,q⟩:=h;refine#[_,(jg$ jo$ jh$ ja jj$ ja (js jr (jG$ ja jj$ ja jj$ ja jj$ ja jj jb) (C.e x.m$ ja (pv 0)$ ja jf jb) (λ_ _=>Z))$ ja (pv 1)$ ja (pv 2) jb),?_];refine#[uf,λl n=>#[_,Z,p,4,Z,B.upd_new n,HA,HA,λd G I J L j=>?_]];obtain⟨s,c,M⟩:=wI I J;let g:aA p H G:=((aA.refl).upd_new n).trans (aA.of_eq j);refine#[l,_,_,_,Z,Z,aG.of (by rw[j l$ B.ne n];exact jc),c,_,Z,_,Z,uf,λr N=>?_];let S:=je (o:=HO.tup [.str "op",.str s,.ref a,.ref b]) N;exact q r _ (y8 jc M ((z.mono$ g.tm B).mono$ af.tm S) ((D.mono$ g.tm B).mono$ af.tm S) (LO _)$ LO _) (L.upd_new N)$ g.trans$ aA.of_same S
theorem b8:am ["_law_box_here","_law_f","_law_g","_law_w","_law_x","_law_i","_law_y","_law_spot_here","_law_body_here","_law_deeper","_law_test","_law_early","_law_last"] z35z (ae mZ):=bY
theorem r9(F:aK K "_law_inner" "_law_inner" mZ f fd)(I:Cl P w K mg base 1 fT b' z0z aW "_law_take")(cO:Cl P w K mg base 2 fO c0 z17z mn "_law_op"):ak P w K mg base aD 3 f fd z35z (dj 2):=by
 refine F.ok b8 ?_ λc1 A o1 s H vs Q E l h=>?_
 .rintro _ _ _ _ ⟨p,T,f0,g,Y,rfl,_⟩;rfl
 obtain⟨p,T,f0,g,Y,rfl,B,hw,h2,q⟩:=h;refine#[_,(jd (@wL _ _ _ _ _ _ _ _ (4) (5) (6) Z b8.nd Z Z Z (ω Z) (ω Z) (ω Z) (jh$ ja (jh$ ja jj$ ja (js jr (pv 3) jf (λ_ _=>Z)) jb)$ ja (jh$ ja jj$ ja (js jr (pv 3) jf (λ_ _=>Z)) jb)$ ja (jh$ ja jj$ ja (js jr (pv 3) jf (λ_ _=>Z)) jb) jb) (by first |exact .inl Z |exact .inr Z) (by first |exact .inl Z |exact .inr Z) (by first |exact .inl Z |exact .inr Z) Hv Hv)$ jd (jy 7 b8.nd$ jh$ ja jj$ ja jj$ ja (js jr (jG$ ja (pv 4)$ ja (pv 5) jb) (I.e l.m$ ja (pv 0)$ ja jf jb) (λ_ _=>Z))$ ja (jh$ ja jj$ ja (I.e l.m$ ja (pv 0)$ ja jf jb) jb) jb)$ jd (jy 8 b8.nd$ jh$ ja (jh$ ja jj$ ja (js jr (pv 3) jf (λ_ _=>Z))$ ja (pv 7) jb) jb)$ jd (jZ$ jw (zc$ I.e l.m$ ja (pv 0)$ ja jf jb) (jd (jy 7 b8.nd$ jh$ ja jj$ ja jj$ ja (pv 5)$ ja (jh$ ja jj$ ja (jv jT jf$ I.e l.m$ ja (pv 0)$ ja jf jb) jb) jb)$ jg$ jy 8 b8.nd$ jv ky (pv 8)$ jh$ ja (jh$ ja jj$ ja (pv 7)$ ja (cO.e l.m$ ja (pv 0)$ ja (pv 4)$ ja (pv 6) jb) jb) jb) jp)$ jd (jZ$ jw (zc$ I.e l.m$ ja (pv 0)$ ja jf jb) (jd (jy 9 b8.nd$ jh$ ja jj$ ja (js jr (pv 3) jf (λ_ _=>Z))$ ja (pv 2)$ ja (jh$ ja (jh$ ja jj$ ja jj$ ja (pv 5)$ ja (jh$ ja jj$ ja jf jb) jb)$ ja (pv 6) jb) jb)$ jg$ jy 8 b8.nd$ jv ky (pv 8)$ jh$ ja (jh$ ja jj$ ja (pv 5)$ ja (jh$ ja (pv 9) jb)$ ja (jh jb) jb) jb) jp)$ jd (jy 10 b8.nd$ jh$ ja jj$ ja (js KA jj (I.e l.m$ ja (pv 0)$ ja jf jb) (λ_ _=>Z))$ ja (pv 6)$ ja (jh$ ja jj$ ja (I.e l.m$ ja (pv 0)$ ja jf jb) jb) jb)$ jd (jy 11 b8.nd$ jh$ ja jj$ ja (cO.e l.m$ ja (pv 0)$ ja (pv 4)$ ja (pv 6) jb) jb)$ jd (jy 12 b8.nd$ jh$ ja jj$ ja (cO.e l.m$ ja (pv 0)$ ja (pv 6)$ ja (pv 5) jb) jb)$ jd (jy 8 b8.nd$ jv ky (pv 8)$ jh$ ja (jh$ ja jj$ ja (pv 10)$ ja (jh$ ja (pv 11) jb)$ ja (jh jb) jb)$ ja (pv 12) jb)$ jg$ jo$ jh$ ja (pv 1)$ ja (jh$ ja (js jr (pv 3) jf (λ_ _=>Z))$ ja (js jr (pv 3) jf (λ_ _=>Z)) jb)$ ja (pv 8) jb),?_];let W0:Wd H H p T Y:=#[B,aA.refl,hw];refine ah λF1 f1=>xz W0 (qo$ j4 Z HA Hz) (qo$ j4 Z HA Hz) (qo$ j4 Z HA Hz) λvx vi vy J xx X U W1 k1=>f1 _ _ ?_;refine ah λF2 f2=>jO W1 (zr (n:=1) (zC kP) (YU Z (jF Z ap xx)$ jF Z ap X) (j8 (kS Z HA HA) HA) HA HA) λv2 H2 x2 W2 k2=>f2 _ _ ?_;refine ah λF3 f3=>jO W2 (JY$ Jh (Cf:=[(g,2)]) (j4 Z HA Hz) (jF Z ap x2) HA) λv3 H3 x3 W3 k3=>f3 _ _ ?_;refine ah λF4 f4=>dE (λL u=>∃(o:Option V) (b:V),L=[δ$ HX p,δ$ HV f0,δ$ HV g,δ$ HX T,δ$ vx,δ$ vi,δ$ vy,o,δ b,ζ,ζ,ζ,ζ]/\PB [(g,2)] Y 1 2 u b/\Wd H u p T Y/\ai H3 u) (λE4 _ f5=>Jj W3 Z HA HA (λH6 W6 k6=>?_) (λH6 W6 k6=>?_)) λσ0 H5 h0=>?_
 .clear f4;let C:ai J H6:=((k2.t.trans k3.t).trans k6.t);refine ah λF7 f7=>jO W6 (zr (n:=1) (zC kP) (jF Z ap$ ap _ _ _ C X) (j8 (Q5 (kS Z HA HA) HA) HA) HA HA) λv7 H7 x7 W7 k7=>f7 _ _ ?_;let D:ai H3 H7:=(k6.t.trans k7.t);let G:ai J H7:=(C.trans k7.t);refine jO W7 (qt (jF Z dB$ dB _ _ _ D x3) (JY$ JX (Cf:=[(g,2)]) (jF Z ap x7) (Kt Z (jF Z ap$ ap _ _ _ G xx)$ jF Z ap$ ap _ _ _ G U) HA HA) HA) λv8 H8 x8 W8 k8=>f5 _ _ ?_;let m0:ai H3 H8:=(D.trans k8.t);exact#[_,_,Z,(PB.lift x8),W8,m0]
 .clear f4;exact f5 _ _ #[_,_,Z,(PB.more (PB.lift$ dB _ _ _ k6.t x3) HA),W6,k6.t]
 obtain⟨o5,b5,rfl,x5,W5,k5⟩:=h0;refine f4 _ _ ?_;clear f4;refine ah λF9 f9=>dE (λL u=>∃(o:Option V) (b:V),L=[δ$ HX p,δ$ HV f0,δ$ HV g,δ$ HX T,δ$ vx,δ$ vi,δ$ vy,o5,δ b,o,ζ,ζ,ζ]/\PB [(g,2)] Y 1 3 u b/\Wd H u p T Y/\ai H5 u) (λE9 _ f6=>Jj W5 Z HA HA (λH0 W k=>?_) (λH0 W k=>?_)) λσ1 H4 h1=>?_
 .clear f9;let M:ai J H0:=(((k2.t.trans k3.t).trans k5).trans k.t);refine ah λF0 f8=>jO W (pV (Cf:=[(g,2)]) (j4 Z HA Hz) (Qz Z) ID (zr (n:=1) (zC XH) (jF Z ap$ ap _ _ _ M X) (j8 (Ko HA (by decide:(1:Int) < 2)) HA) HA HA) (jF Z ap$ ap _ _ _ M U) HA HA) λv1 H9 x0 W4 k0=>f8 _ _ ?_;let c:ai H5 H9:=(k.t.trans k0.t);let N:ai J H9:=(M.trans k0.t);refine jO W4 (qt (jF Z dB$ dB _ _ _ c x5) (JY$ yq (jF Z ap$ ap _ _ _ N X) (JY$ jF Z dI x0) (yo (Cf:=[(g,2)]) (d:=0)) HA HA) HA) λv4 a2 x1 W9 k9=>f6 _ _ ?_;let O:ai H5 a2:=(c.trans k9.t);exact#[_,_,Z,x1,W9,O]
 .clear f9;exact f6 _ _ #[_,_,Z,(PB.more (dB _ _ _ k.t x5) HA),W,k.t]
 obtain⟨o2,c2,rfl,x4,a3,k'⟩:=h1;refine f9 _ _ ?_;clear f9;let i:ai J H4:=(((k2.t.trans k3.t).trans k5).trans k');refine ah λF5 f'=>jO a3 (zr (n:=1) (Dr Z) (jF Z ap$ ap _ _ _ i U) (j8 (kS Z HA HA) HA) HA HA) λv5 a0 x6 a4 k4=>f' _ _ ?_;let a:ai J a0:=(i.trans k4.t);refine ah λF6 a'=>jO a4 (Qy (Cf:=[(g,2)]) (Kt Z (jF Z ap$ ap _ _ _ a xx)$ jF Z ap$ ap _ _ _ a U) HA) λv6 b0 x9 b1 R=>a' _ _ ?_;let j:ai J b0:=(a.trans R.t);refine ah λc3 b2=>jO b1 (Qy (Cf:=[(g,2)]) (Kt Z (jF Z ap$ ap _ _ _ j U)$ jF Z ap$ ap _ _ _ j X) HA) λv9 a1 x' b3 S=>b2 _ _ ?_;let y:ai H4 a1:=((k4.t.trans R.t).trans S.t);let z:ai a0 a1:=(R.t.trans S.t);refine ah λc4 b4=>jO b3 (qt (jF Z dB$ dB _ _ _ y x4) (Xr (yq (jF Z ap$ ap _ _ _ z x6) (JY$ jF Z dI$ dI _ _ _ S.t x9) (yo (Cf:=[(g,2)]) (d:=0)) HA HA)$ Ev.up (jF Z dI x') λ_ _=>cw.lift) HA) λv' c5 b7 b9 c6=>b4 _ _ ?_;refine KH b9 (Xt (Qz Z) (yt (j4 Z HA Hz)$ j4 Z HA Hz) (jF Z dB b7) HA Hz) λv u x W'=>?_;obtain⟨r,rfl,x⟩:=x;exact q r u x W'.B W'.K
theorem bn:am z39z z19z (ae gV):=bY
def Qw:sB:=#[.function,[(".0",.local),("_law_one",.local)],ν,ν,[]]
theorem YJ:(["_law_one"]:List π).Nodup:=by decide+kernel
theorem YK:bp z39z (ae gV) Qw ["_law_one"] 1 []:=pk
theorem Z2(F:aK K "_law_looped" "_law_looped" gV f fd)(C:Cl P w K mg base 1 fT d5 z0z aW "_law_take")(cO:Cl P w K mg base 2 fO d6 z17z mn "_law_op")(mi:mg "int"=ζ)(m6:mg "tuple"=ζ):ak P w K mg base aD 3 f fd z19z (dj 1):=by
 refine F.ok bn ?_ λd7 A b2 s H vs Q E l h=>?_
 .rintro _ _ _ _ ⟨p,W,f0,g,Y,rfl,_⟩;rfl
 obtain⟨p,W,f0,g,Y,rfl,B,hw,h2,q⟩:=h;refine#[_,(jd (kQ (@zg _ _ _ _ _ _ _ (["_law_one"]) (1) ([]) _ _ _ _ Z (Jl$ jK kM (pv 3) kL$ jI jf) YK (λ_ _ _ _ _=>(ju (i:=0) YJ Z$ ω Z)) (λ_ _ _ _ _=>(@zQ _)) (λ_ _ _ _ _=>(jh$ ja jj$ ja (pv 0) jb)) (by intro _;rfl))$ @Y6 _ _ _ _ (5) _ Z (jz (ju (i:=4) bn.nd Z$ ω Z)$ jz (ju (i:=5) bn.nd Z$ ω Z)$ jz (ju (i:=6) bn.nd Z$ ω Z)$ jz (ju (i:=7) bn.nd Z$ ω Z)$ jz (ju (i:=8) bn.nd Z$ ω Z) kx) Hv Hv)$ jd (jy 9 bn.nd$ jG$ ja (jh$ ja jj$ ja (js jr (pv 3) jf (λ_ _=>Z))$ ja (jh$ ja jj$ ja jj$ ja (pv 5)$ ja (jh$ ja jj$ ja (C.e l.m$ ja (pv 0)$ ja jf jb) jb) jb) jb) jb)$ jd (jR$ kH IH IR IQ jP (pv 9)$ ja (jh$ ja jj$ ja (js jr (pv 3) jf (λ_ _=>Z))$ ja (pv 2)$ ja (jh$ ja (pv 7)$ ja (js jr (jG$ ja (pv 5)$ ja (pv 6) jb) (jC kG Z mi Nk$ ja (j9 zq (C.e l.m$ ja (pv 0)$ ja jf jb) jf$ au _) jb) (λ_ _=>Z)) jb) jb) jb)$ jd (jZ$ jw (zc$ C.e l.m$ ja (pv 0)$ ja jf jb) (jd (jy 10 bn.nd$ jh$ ja jj$ ja jj$ ja (pv 5)$ ja (jh$ ja jj$ ja (jv jT jf$ C.e l.m$ ja (pv 0)$ ja jf jb) jb) jb)$ jg$ jR$ kH IH IR IQ jP (pv 9)$ ja (jh$ ja jj$ ja (pv 10)$ ja (js jr (jG$ ja (pv 6)$ ja (pv 8)$ ja (pv 7) jb) (C.e l.m$ ja (pv 0)$ ja jf jb) (λ_ _=>Z)) jb) jb) jp)$ jd (jR$ kH IH IR IQ jP (pv 9)$ ja (jh$ ja jj$ ja (js jr (pv 3) jf (λ_ _=>Z))$ ja (cO.e l.m$ ja (pv 0)$ ja (js jr (jG$ ja (pv 6)$ ja (pv 6)$ ja (pv 7) jb) (C.e l.m$ ja (pv 0)$ ja jf jb) (λ_ _=>Z))$ ja (pv 8) jb) jb) jb)$ jd (jZ$ jw (zc$ C.e l.m$ ja (pv 0)$ ja jf jb) (jg$ kQ (jh$ ja (js jr (pv 9) jf (λ_ _=>Z))$ ja (js jr (pv 9) jf (λ_ _=>Z)) jb)$ zD (n:=2) Z$ jz (qW (pv 9) jf zH)$ jz (qW (pv 9) jf zH) kx) jp)$ jd (jR$ kH IH IR IQ jP (pv 9)$ ja (jh$ ja jj$ ja (js jr (pv 3) jf (λ_ _=>Z))$ ja (jh$ ja jj$ ja jj$ ja (pv 5)$ ja (jh$ ja jj$ ja jf jb) jb) jb) jb)$ jd (jy 11 bn.nd$ jh$ ja (jh$ ja jj$ ja (js jr (pv 3) jf (λ_ _=>Z))$ ja (jh$ ja jj$ ja (C.e l.m$ ja (pv 0)$ ja jf jb) jb) jb)$ ja (jh$ ja jj$ ja (js jr (pv 3) jf (λ_ _=>Z))$ ja (jh$ ja jj$ ja (C.e l.m$ ja (pv 0)$ ja jf jb) jb) jb) jb)$ jd (jZ$ jw (zc$ C.e l.m$ ja (pv 0)$ ja jf jb) (jd (jy 11 bn.nd$ jv ky (pv 11)$ jh$ ja (jh$ ja jj$ ja (js jr (pv 3) jf (λ_ _=>Z))$ ja (jh$ ja jj$ ja (jv jT jf$ C.e l.m$ ja (pv 0)$ ja jf jb) jb) jb) jb)$ jg$ jy 11 bn.nd$ jv ky (pv 11)$ jh$ ja (jh$ ja jj$ ja (js jr (pv 3) jf (λ_ _=>Z))$ ja (jh$ ja jj$ ja jj$ ja (pv 4)$ ja (jh$ ja jj$ ja jf jb) jb) jb) jb) jp)$ jd (jy 12 bn.nd$ jh$ ja jj$ ja (jh$ ja jj$ ja jj$ ja (pv 5)$ ja (pv 4) jb)$ ja (jC jH Z m6 LZ$ ja (pv 9) jb) jb)$ jg$ jo$ jh$ ja (pv 1)$ ja (jh$ ja (js jr (pv 3) jf (λ_ _=>Z)) jb)$ ja (jv ky (pv 11)$ jh$ ja (pv 12)$ ja (jh$ ja jj$ ja (jh$ ja jj$ ja jf jb)$ ja (pv 6) jb)$ ja (jh$ ja jj$ ja (pv 6) jb) jb) jb),?_];let W0:Wd H H p W Y:=#[B,aA.refl,hw];refine ah λF1 f1=>Ze W0 Z h2 λvn vi vs vx vy U xn xi xs xx xy W1=>f1 _ _ ?_;refine ah λF2 f2=>DX W1 (Jh (Cf:=[(g,2)]) (j4 Z HA Hz) (zr (n:=1) (zC kP) (jF Z ap xi) (j8 (kS Z HA HA) HA) HA HA) HA) λlb u2 H2 o2 x2 W2 k2=>f2 _ _ ?_;refine ah λF3 f3=>JO W2 Z o2 (show 1<=100 by decide) (pV (Cf:=[(g,2)]) (j4 Z HA Hz) (Qz Z) ID (jF Z ap$ ap _ _ _ k2.t xx) (Dp Z HA HA (jF Z ap$ ap _ _ _ k2.t xi)$ jF Z ap$ ap _ _ _ k2.t xs) HA HA) λu3 H3 x3 o3 W3 k3=>f3 _ _ ?_;refine ah λF4 f4=>dE (λu c=>∃(o:Option V) (G:List V),u=[δ$ HX p,δ$ HV f0,δ$ HV g,δ$ HX W,δ$ vn,δ$ vi,δ$ vs,δ$ vx,δ$ vy,δ$ HX lb,o,ζ,ζ]/\Ow H c p W lb (u2::u3::G)/\gG [(g,2)] c Y 0 G/\G.length<=1/\Wd H c p W Y/\ai H3 c) (λE4 _ f5=>Jj W3 Z HA HA (λH6 W6 k6=>?_) (λH6 W6 k6=>?_)) λσ2 H5 h3=>?_
 .clear f4;let o6:=o3.fw k6;let R:ai U H6:=((k2.t.trans k3).trans k6.t);refine ah λF7 f7=>jO W6 (zr (n:=1) (zC kP) (jF Z ap$ ap _ _ _ R xi) (j8 (Q5 (kS Z HA HA) HA) HA) HA HA) λv7 H7 x7 W7 k7=>f7 _ _ ?_;let o7:=o6.fw k7;let y:ai U H7:=(R.trans k7.t);refine JO W7 Z o7 (show 2<=100 by decide) (JX (Cf:=[(g,2)]) (jF Z ap x7) (yr Z (jF Z ap$ ap _ _ _ y xs) (jF Z ap$ ap _ _ _ y xy)$ jF Z ap$ ap _ _ _ y xx) HA HA) λu8 H8 x8 o8 W8 k8=>f5 _ _ ?_;let m5:ai H3 H8:=((k6.t.trans k7.t).trans k8);exact#[_,[u8],Z,o8,zF x8,Im 1,W8,m5]
 .clear f4;let o6:=o3.fw k6;exact f5 _ _ #[_,[],Z,o6,KG,HA,W6,k6.t]
 obtain⟨w5,G,rfl,o5,zx,zl,W5,k5⟩:=h3;refine f4 _ _ ?_;clear f4;let M:ai U H5:=((k2.t.trans k3).trans k5);refine ah λF9 f9=>JO W5 Z o5 (show G.length+1+1<=100 by omega) (Ji (Cf:=[(g,2)]) (j4 Z HA Hz) (Kt Z (yr Z (jF Z ap$ ap _ _ _ M xs) (jF Z ap$ ap _ _ _ M xs)$ jF Z ap$ ap _ _ _ M xx)$ jF Z ap$ ap _ _ _ M xy) HA) λu9 H9 x9 o9 W9 k9=>f9 _ _ ?_;let zy:gG [(g,2)] H9 Y 0 (G++[u9]):=JN (zx.mono k9) (zF x9);let zm:(G++[u9]).length<=2:=by rw[Io];exact Lp zl
 refine ah λF0 I=>dE (λu c=>∃(X:List V),u=[δ$ HX p,δ$ HV f0,δ$ HV g,δ$ HX W,δ$ vn,δ$ vi,δ$ vs,δ$ vx,δ$ vy,δ$ HX lb,w5,ζ,ζ]/\Ow H c p W lb X/\gG [(g,2)] c Y 0 X/\X.length<=4/\Wd H c p W Y/\ai H9 c) (λE1 _ S=>Jj W9 Z HA HA (λH0 W4 k=>?_) (λH0 W4 k=>?_)) λσ0 b3 h0=>?_
 .clear I;let o1:=o9.fw k;refine xM W4 Z o1 λH4 b4 b5 k0=>S _ _ ?_;let m0:ai H3 H4:=(((k5.trans k9).trans k.t).trans k0);let m1:ai H2 H4:=((((k3.trans k5).trans k9).trans k.t).trans k0);let z:ai H9 H4:=(k.t.trans k0);exact#[_,Z,b4,jU ((dI _ _ _ m0 x3))$ jU ((dI _ _ _ m1 x2))$ zy.mono z,(show(G++[u9]).length+1+1<=4 by omega),b5,z]
 .clear I;let o1:=o9.fw k;let m2:ai H2 H0:=(((k3.trans k5).trans k9).trans k.t);let m3:ai H3 H0:=((k5.trans k9).trans k.t);exact S _ _ #[_,Z,o1,jU ((dI _ _ _ m2 x2))$ jU ((dI _ _ _ m3 x3))$ zy.mono k.t,(show(G++[u9]).length+1+1<=4 by omega),W4,k.t]
 obtain⟨X,rfl,b7,ux,ul,b9,b'⟩:=h0;refine I _ _ ?_;clear I;let d:ai U b3:=((M.trans k9).trans b');refine ah λF5 f6=>JO b9 Z b7 Hz (Ji (Cf:=[(g,2)]) (j4 Z HA Hz) (zr (n:=1) (zC kP) (jF Z ap$ ap _ _ _ d xi) (j8 (Ko HA (by decide:(1:Int) < 2)) HA) HA HA) HA) λu0 a1 x1 c0 c1 k1=>f6 _ _ ?_;let b0:gG [(g,2)] a1 Y 0 (X++[u0]):=JN (ux.mono k1) (zF x1);let bl:(X++[u0]).length<=5:=by rw[Io];exact Lp ul
 refine ah λF6 f8=>jO c1 (Xr (Ji (Cf:=[(g,2)]) (j4 Z HA Hz) (j8 (kS Z HA HA) HA) HA)$ Ji (Cf:=[(g,2)]) (j4 Z HA Hz) (j8 (kS Z HA HA) HA) HA) λv1 a2 x0 c2 J=>f8 _ _ ?_;let o':=c0.fw J;refine ah λd8 L=>dE (λu c=>∃(b:V),u=[δ$ HX p,δ$ HV f0,δ$ HV g,δ$ HX W,δ$ vn,δ$ vi,δ$ vs,δ$ vx,δ$ vy,δ$ HX lb,w5,δ b,ζ]/\Ow H c p W lb (X++[u0])/\PB [(g,2)] Y 0 4 c b/\Wd H c p W Y/\ai a2 c) (λE2 _ T=>Jj c2 Z HA HA (λc3 a0 a=>?_) (λc3 a0 a=>?_)) λσ1 a3 h1=>?_
 .clear L;let o4:=o'.fw a;refine ah λd9 f'=>jO a0 (qt (jF Z dB$ dB _ _ _ a.t x0) (JY$ Jh (Cf:=[(g,2)]) (j4 Z HA Hz) (j8 (Q5 (kS Z HA HA) HA) HA) HA) HA) λv2 c4 x4 c5 k4=>f' _ _ ?_;let c6:=o4.fw k4;let m4:ai U c4:=((((d.trans k1).trans J.t).trans a.t).trans k4.t);refine jO c5 (qt (jF Z dB x4) (JY$ Ji (Cf:=[(g,2)]) (j4 Z HA Hz) (zr (n:=1) (zC xC) (jF Z ap$ ap _ _ _ m4 xn) (j8 (Ko HA (by decide:(2:Int) < 3)) HA) HA HA) HA) HA) λv3 c9 x5 c' a4=>T _ _ ?_;let d0:=c6.fw a4;let N:ai a2 c9:=((a.t.trans k4.t).trans a4.t);exact#[_,Z,d0,x5,c',N]
 .clear L;let o4:=o'.fw a;exact T _ _ #[_,Z,o4,(PB.more (dB _ _ _ a.t x0) HA),a0,a.t]
 obtain⟨d',rfl,a',x6,d1,b1⟩:=h1;refine L _ _ ?_;clear L;let j:ai U a3:=(((d.trans k1).trans J.t).trans b1);let O:ai a1 a3:=(J.t.trans b1);refine ah λe0 d2=>jO d1 (pY (zr (n:=1) (zC Kk) (jF Z ap$ ap _ _ _ j xi) (jF Z ap$ ap _ _ _ j xn) HA HA) (yu (n:=5) Z a' (b0.mono O) bl) HA HA) λv4 d3 x' d4 k'=>d2 _ _ ?_;let e1:=a'.fw k';let D:ai U d3:=(j.trans k'.t);refine KH d4 (Xt (Qz Z) (pX$ j4 Z HA Hz) (qt (Ev.up (jF Z dB$ dB _ _ _ k'.t x6) λ_ _=>PB.lift) (yp (jF Z dI x') (Ev.up (JX (Cf:=[(g,2)]) (j8 (Ko HA (by decide:(30:Int) < 31)) HA) (jF Z ap$ ap _ _ _ D xs) HA HA) λ_ _=>cw.lift)$ Ev.up (Qy (Cf:=[(g,2)]) (jF Z ap$ ap _ _ _ D xs) HA) λ_ _=>cw.lift) HA) HA Hz) λv c x W'=>?_;obtain⟨r,rfl,x⟩:=x;exact q r c x W'.B W'.K
theorem Fy(b:0<=d)(c:d < 2)(h:cw C H y 0 u)(a:cw C H y 0 v):gG C H y 0 (aX [u,v] ζ$ δ (1+d))/\(aX [u,v] ζ$ δ (1+d)).length<=2:=by
 rcases(by omega:d=0∨d=1) with rfl |rfl
 .exact#[zF h,by show 1<=2;decide]
 .exact#[jU h$ zF a,by show 2<=2;decide]
def P2(C:eQ)(y:List π)(H:Hp)(w:V):Prop:=∃a u v,w= .ref a/\H a=δ (.tup [u,v])/\cw C H y 0 u/\cw C H y 0 v
theorem yC:nL (P2 C y):=λ_ _ _ m #[a,u,v,e,h,H,b]=>#[a,u,v,e,m _ _ h,H.mono m,b.mono m]
section
variable {Cf:eQ}{ys:List π}{H0 Hb:Hp}{p wl:ε}{σ:_L.St}
theorem AA(h:Ev H0 p wl ys Hb σ T (λH v=>cw Cf H ys 0 v))(c:Ev H0 p wl ys Hb σ d (λH v=>cw Cf H ys 0 v)):Ev H0 p wl ys Hb σ (bJ$ al T$ al d aJ) (P2 Cf ys):=λH Q m W q=>
 h H _ m W λo e X f a=>c e _ (m.trans a) f λs u g i b=>#[bK,λr n=>kJ (P:=P2 Cf ys) i (λV j x l k=>q V j x l ((a.trans b).trans k)) n λt z=>#[r,_,_,Z,z,(X.mono b.t).mono t,g.mono t]]
theorem Ay(e:σ[i]?=δ (δ v))(E:σ[0]?=δ (δ$ .ref p))(h:P2 Cf ys Hb v):Ev H0 p wl ys Hb σ (Fe BN (aZ i) lP$ mx$ dQ (uT λi j=>HW (i+j)) (tC$ .int 1)$ uu 2) (PB Cf ys 0 2):=λH Q m W q=>
 #[v,e,kS E HA HA H _ m W λw y #[d,b,D,c] f k=>#[1,d,Z,b,_,Z,by
  obtain⟨a,u,A,rfl,g,l,n⟩:=yC _ _ _ (m.trans k).t h;let z:=Fy D c l n;exact#[a,_,Z,g,λr o x s=>q _ o #[r,_,Z,x,z.1.mono$ af.tm s,z.2] (f.same s) (k.trans$ .same s)]]]
end
theorem aP:am z40z z19z (ae fh):=bY
def Qj:sB:=#[.function,[(".0",.local),("_law_one",.local)],ν,ν,[]]
theorem X6:(["_law_one"]:List π).Nodup:=by decide+kernel
theorem X7:bp z40z (ae fh) Qj ["_law_one"] 1 []:=pk
theorem YL(F:aK K "_law_ticking" "_law_ticking" fh f fd)(C:Cl P w K mg base 1 fT b5 z0z aW "_law_take")(cO:Cl P w K mg base 2 fO b7 z17z mn "_law_op")(mi:mg "int"=ζ)(m1:mg "tuple"=ζ):ak P w K mg base aD 3 f fd z19z (dj 1):=by
 refine F.ok aP ?_ λc0 A o5 s H vs Q E c h=>?_
 .rintro _ _ _ _ ⟨p,W,f0,g,ys,rfl,_⟩;rfl
 obtain⟨p,W,f0,g,ys,rfl,B,hw,h1,q⟩:=h;refine#[_,(jd (kQ (@zg _ _ _ _ _ _ _ (["_law_one"]) (1) ([]) _ _ _ _ Z (Jl$ jK kM (pv 3) kL$ jI jf) X7 (λ_ _ _ _ _=>(ju (i:=0) X6 Z$ ω Z)) (λ_ _ _ _ _=>(@zQ _)) (λ_ _ _ _ _=>(jh$ ja jj$ ja (pv 0) jb)) (by intro _;rfl))$ @Y6 _ _ _ _ (5) _ Z (jz (ju (i:=4) aP.nd Z$ ω Z)$ jz (ju (i:=5) aP.nd Z$ ω Z)$ jz (ju (i:=6) aP.nd Z$ ω Z)$ jz (ju (i:=7) aP.nd Z$ ω Z)$ jz (ju (i:=8) aP.nd Z$ ω Z) kx) Hv Hv)$ jd (jy 9 aP.nd$ jh$ ja jj$ ja (jv jT jf$ C.e c.m$ ja (pv 0)$ ja jf jb) jb)$ jd (jy 10 aP.nd$ jG$ ja (jh$ ja jj$ ja (js jr (pv 3) jf (λ_ _=>Z))$ ja (pv 9) jb)$ ja (jh$ ja jj$ ja (js jr (pv 3) jf (λ_ _=>Z))$ ja (js jr (jG$ ja (pv 5)$ ja (jh$ ja jj$ ja (C.e c.m$ ja (pv 0)$ ja jf jb) jb) jb) (C.e c.m$ ja (pv 0)$ ja jf jb) (λ_ _=>Z)) jb) jb)$ jd (jR$ kH IH IR IQ jP (pv 10)$ ja (jh$ ja jj$ ja (js jr (pv 3) jf (λ_ _=>Z))$ ja (pv 2)$ ja (jh$ ja (js jr (jG$ ja (pv 7)$ ja (jh$ ja jj$ ja jf jb) jb) (C.e c.m$ ja (pv 0)$ ja jf jb) (λ_ _=>Z))$ ja (js jr (jG$ ja (pv 5)$ ja (jh$ ja jj$ ja jf jb) jb) (C.e c.m$ ja (pv 0)$ ja jf jb) (λ_ _=>Z)) jb) jb) jb)$ jd (jZ$ jw (zc$ C.e c.m$ ja (pv 0)$ ja jf jb) (jg$ jR$ kH IH IR IQ jP (pv 10)$ ja (jh$ ja jj$ ja (jh$ ja jj$ ja jj$ ja (pv 5)$ ja (jh$ ja jj$ ja (C.e c.m$ ja (pv 0)$ ja jf jb) jb) jb)$ ja (pv 8) jb) jb) jp)$ jd (jy 11 aP.nd$ jh$ ja jj$ ja jf jb)$ jd (jy 12 aP.nd$ jG$ ja (jh$ ja jj$ ja (js jr (pv 3) jf (λ_ _=>Z))$ ja (pv 11) jb)$ ja (jh$ ja jj$ ja (pv 11)$ ja (cO.e c.m$ ja (pv 0)$ ja (pv 6)$ ja (pv 8) jb) jb) jb)$ jd (jZ$ jw (zc$ C.e c.m$ ja (pv 0)$ ja jf jb) (jg$ jy 12 aP.nd$ jG$ ja (jh$ ja jj$ ja (js jr (pv 3) jf (λ_ _=>Z))$ ja (cO.e c.m$ ja (pv 0)$ ja (pv 6)$ ja (pv 8) jb) jb) jb) jp)$ jd (jy 10 aP.nd$ jv qZ (jv qZ (pv 10)$ pv 12)$ jG$ ja (jh$ ja jj$ ja (pv 9)$ ja (jh$ ja jj$ ja jj$ ja (pv 5)$ ja (jh$ ja jj$ ja jf jb) jb) jb)$ ja (jh$ ja jj$ ja (js jr (pv 3) jf (λ_ _=>Z))$ ja (jh$ ja jj$ ja jj$ ja (pv 5)$ ja (pv 4) jb) jb) jb)$ jd (jy 13 aP.nd$ jh$ ja (jh$ ja jj$ ja (js jr (pv 3) jf (λ_ _=>Z))$ ja (jh$ ja jj$ ja jf jb) jb)$ ja (jh$ ja jj$ ja (pv 9)$ ja (jh$ ja jj$ ja (C.e c.m$ ja (pv 0)$ ja jf jb) jb) jb) jb)$ jd (jy 14 aP.nd$ jh$ ja jj$ ja (jh$ ja jj$ ja (js jr (pv 3) jf (λ_ _=>Z)) jb)$ ja (jC jH Z m1 LZ$ ja (pv 10) jb) jb)$ jg$ jo$ jh$ ja (pv 1)$ ja (jh$ ja (js jr (pv 3) jf (λ_ _=>Z)) jb)$ ja (jv ky (jK qd (pv 13) kL$ jI$ jv jT jf$ C.e c.m$ ja (pv 0)$ ja jf jb)$ jh$ ja (pv 14)$ ja (jh$ ja jj$ ja (pv 6) jb) jb) jb),?_];let W0:Wd H H p W ys:=#[B,aA.refl,hw];refine ah λF1 f1=>Ze W0 Z h1 λvn vi vs vx vy H1 xn xi xs xx xy W1=>f1 _ _ ?_;refine ah λF2 f2=>jO W1 (j8 (Q5 (kS Z HA HA) HA) HA) λv2 H2 x2 W2 k2=>f2 _ _ ?_;refine ah λF3 f3=>DY W2 (Jh (Cf:=[(g,2)]) (j4 Z HA Hz) (jF Z ap x2) HA) (Jh (Cf:=[(g,2)]) (j4 Z HA Hz) (YU Z (jF Z ap$ ap _ _ _ k2.t xi)$ j8 (kS Z HA HA) HA) HA) λlb u3 w3 H3 o3 x3 y3 W3 k3=>f3 _ _ ?_;let a:ai H1 H3:=(k2.t.trans k3.t);refine ah λF4 f4=>JO W3 Z o3 (show 2<=100 by decide) (pV (Cf:=[(g,2)]) (j4 Z HA Hz) (Qz Z) ID (YU Z (jF Z ap$ ap _ _ _ a xx)$ j8 (Ko HA (by decide:(3:Int) < 4)) HA) (YU Z (jF Z ap$ ap _ _ _ a xi)$ j8 (Ko HA (by decide:(2:Int) < 3)) HA) HA HA) λu4 H4 x4 o4 W4 k4=>f4 _ _ ?_;refine ah λF5 f5=>dE (λN d=>∃(us:List V),N=[δ$ HX p,δ$ HV f0,δ$ HV g,δ$ HX W,δ$ vn,δ$ vi,δ$ vs,δ$ vx,δ$ vy,δ$ v2,δ$ HX lb,ζ,ζ,ζ,ζ]/\Ow H d p W lb us/\gG [(g,2)] d ys 0 us/\us.length<=4/\Wd H d p W ys/\ai H4 d) (λE5 _ f6=>Jj W4 Z HA HA (λH7 W7 u=>?_) (λH7 W7 u=>?_)) λσ1 H6 h2=>?_
 .clear f5;let o7:=o4.fw u;let D:ai H1 H7:=((a.trans k4).trans u.t);refine JO W7 Z o7 (show 3<=100 by decide) (JX (Cf:=[(g,2)]) (zr (n:=1) (zC kP) (jF Z ap$ ap _ _ _ D xi) (j8 (kS Z HA HA) HA) HA HA) (jF Z ap$ ap _ _ _ D xy) HA HA) λu8 H8 x8 o8 W8 k8=>f6 _ _ ?_;let G:ai H4 H8:=(u.t.trans k8);let I:ai H3 H8:=((k4.trans u.t).trans k8);exact#[_,Z,o8,(jU ((dI _ _ _ I x3))$ jU ((dI _ _ _ I y3))$ jU ((dI _ _ _ G x4))$ jU (x8) KG),(show 4<=4 by decide),W8,G]
 .clear f5;let o7:=o4.fw u;let J:ai H3 H7:=(k4.trans u.t);exact f6 _ _ #[_,Z,o7,(jU ((dI _ _ _ J x3))$ jU ((dI _ _ _ J y3))$ jU ((dI _ _ _ u.t x4)) KG),(show 3<=4 by decide),W7,u.t]
 obtain⟨us,rfl,o6,ux,ul,W6,k6⟩:=h2;refine f5 _ _ ?_;clear f5;refine ah λF9 f9=>jO W6 (j8 (Ko HA (by decide:(30:Int) < 31)) HA) λv9 H9 x9 W9 k9=>f9 _ _ ?_;let o9:=o6.fw k9;let b:ai H1 H9:=(((a.trans k4).trans k6).trans k9.t);refine ah λF0 f7=>DY W9 (Jh (Cf:=[(g,2)]) (j4 Z HA Hz) (jF Z ap x9) HA) (JX (Cf:=[(g,2)]) (jF Z ap x9) (Kt Z (jF Z ap$ ap _ _ _ b xs)$ jF Z ap$ ap _ _ _ b xy) HA HA) λlm u0 w0 H0 z0 x0 y0 W5 j=>f7 _ _ ?_;let o1:=o9.fw j;refine ah λF6 y=>dE (λN d=>∃(m:ε) (zs:List V),N=[δ$ HX p,δ$ HV f0,δ$ HV g,δ$ HX W,δ$ vn,δ$ vi,δ$ vs,δ$ vx,δ$ vy,δ$ v2,δ$ HX lb,δ$ v9,δ$ .ref m,ζ,ζ]/\Ow H d p W lb us/\Ow H d p W m zs/\gG [(g,2)] d ys 0 zs/\zs.length<=2/\Wd H d p W ys/\ai H0 d) (λE1 _ L=>Jj W5 Z HA HA (λH5 O k=>?_) (λH5 O k=>?_)) λσ0 R h0=>?_
 .clear y;let S:=o1.fw k;let z1:=z0.fw k;let l:ai H1 H5:=((b.trans j.t).trans k.t);refine DX O (Ji (Cf:=[(g,2)]) (j4 Z HA Hz) (Kt Z (jF Z ap$ ap _ _ _ l xs)$ jF Z ap$ ap _ _ _ l xy) HA) λlq u1 a0 z2 x1 a1 k1=>L _ _ ?_;let o':=S.fw k1;let z:ai H0 a0:=(k.t.trans k1.t);exact#[_,_,Z,o',z2,zF x1,(show 1<=2 by decide),a1,z]
 .clear y;let S:=o1.fw k;let z1:=z0.fw k;exact L _ _ #[_,_,Z,S,z1,(jU ((dI _ _ _ k.t x0))$ jU ((dI _ _ _ k.t y0)) KG),(show 2<=2 by decide),O,k.t]
 obtain⟨lm,zs,rfl,a2,z3,zx,zl,a3,T⟩:=h0;refine y _ _ ?_;clear y;let o:ai H2 R:=(((((k3.t.trans k4).trans k6).trans k9.t).trans j.t).trans T);let M:ai H1 R:=((b.trans j.t).trans T);let U:ai H6 R:=((k9.t.trans j.t).trans T);refine ah λF7 f8=>Am a3 Z Z a2 z3 Hz (ux.mono U) zx (JX (Cf:=[(g,2)]) (jF Z ap$ ap _ _ _ o x2) (zr (n:=1) (zC kP) (jF Z ap$ ap _ _ _ M xi) (j8 (Ko HA (by decide:(1:Int) < 2)) HA) HA HA) HA HA) (Ji (Cf:=[(g,2)]) (j4 Z HA Hz) (zr (n:=1) (zC Kk) (jF Z ap$ ap _ _ _ M xi) (jF Z ap$ ap _ _ _ M xn) HA HA) HA) λlc cs a4 a' cx cl b0 k5=>f8 _ _ ?_;let cm:cs.length<=8:=by omega
 let X:ai H2 a4:=(o.trans k5.t);refine ah λb9 f'=>jO b0 (AA (Ji (Cf:=[(g,2)]) (j4 Z HA Hz) (j8 (Ko HA (by decide:(1:Int) < 2)) HA) HA)$ JX (Cf:=[(g,2)]) (jF Z ap$ ap _ _ _ X x2) (j8 (kS Z HA HA) HA) HA HA) λv1 b' x5 b1 Y=>f' _ _ ?_;let o2:=a'.fw Y;refine ah λc1 b2=>jO b1 (pY (qo$ j4 Z HA Hz) (yu (n:=8) Z o2 (cx.mono Y.t) cm) HA HA) λv3 b3 x6 b4 k0=>b2 _ _ ?_;let c2:=o2.fw k0;let m0:ai H1 b3:=(((M.trans k5.t).trans Y.t).trans k0.t);refine KH b4 (Xt (Qz Z) (pX$ j4 Z HA Hz) (qt (Ev.up (Ay Z Z$ yC _ _ _ k0.t x5) λ_ _=>PB.lift) (Xr (jF Z dI x6)$ Ev.up (Qy (Cf:=[(g,2)]) (jF Z ap$ ap _ _ _ m0 xs) HA) λ_ _=>cw.lift) HA) HA Hz) λv d x W'=>?_;obtain⟨r,rfl,x⟩:=x;exact q r d x W'.B W'.K
theorem Fz{y:List π}{lo:Nat}(h:y.length=14)(H:lo<=8):(be y (δ (lo:Int))$ δ ((lo+6:Nat):Int)).length=6:=by unfold be;rw[HT.sIx_nat,HT.sIx_nat,IU,L9,h,MO$ IB H HA,MO$ Nat.add_le_add_right H 6,Nat.add_sub_cancel_left];exact MO$ Nat.le_sub_of_add_le$ IB (Pu H 6) HA
theorem He{k:Nat}(h:k < n):mQ n (k:Int)=δ k:=by unfold mQ;rw[Iw Hz,Iw Hz,Lv]
theorem pi.more(h:pi C n H r f)(k:∀y∈C,y∈D):pi D n H r f:=let #[d,b,a,c]:=h;#[d,b,#[a.1,kC k a.2],c]
theorem FG(r:pi [(l,N),(m,j),(o,k)] N H a l)(s:pi [(l,N),(m,j),(o,k)] j H b m)(t:pi [(l,N),(m,j),(o,k)] k H c o)(p:N<=100/\j<=100/\k<=100):∃D,bX H D [.ref a,.ref b,.ref c]/\D.length=3/\((∀d∈D,iB d/\d.b.Cs [(l,N),(m,j),(o,k)])/\D.map Df.f=[l,m,o])/\iz H D [N,j,k]:=by
 obtain⟨d,u,v,O,y,z,E⟩:=r;obtain⟨e,A,B,Q,C,F,G⟩:=s;obtain⟨f,I,J,R,g3,L,M⟩:=t;refine#[[d,e,f],#[_,_,Z,u,_,_,Z,A,_,_,Z,I,Z],Z,#[λx q=>?_,by rw[<- E,<- G,<- M];rfl],Z,λi x n h g=>?_]
 .simp only[LJ,IF,NF]at q;rcases q with rfl |rfl |rfl
  .exact v
  .exact B
  .exact J
 .match i,h,g with
  |0,h,g=>cases h;cases g;exact#[_,y,z,p.1]
  |1,h,g=>cases h;cases g;exact#[_,C,F,p.2.1]
  |2,h,g=>cases h;cases g;exact#[_,g3,L,p.2.2]
inductive lE(b:List V)(H:Hp)(Q:VK)(a:XK):Prop
 |mk(p:ε)(_:b=[.ref p])(_:ar H p)(_:∀(r:ε) (ds:List Df) (xs:List V) (H':Hp),H' r=δ (.tup xs)->bX H' ds xs->ds.length=3->∀ns,iU ds ns->iz H' ds ns->(∃r,ns=1::r)->ar H' p->aA p H H'->Q (.ref r) H')
def C4(L:List π)(_:Hp)(v:V):Prop:=∃x,v= .str x/\x∈L
section
variable {ys:List π}{H0 Hb:Hp}{p wl:ε}{σ:_L.St}
theorem Dq{K:Ω}(e:σ[0]?=δ (δ$ .ref p))(r:Ev H0 p wl ys Hb σ t (uQ a))(s:Ev H0 p wl ys Hb σ T (uQ b))(u:Ev H0 p wl ys Hb σ x (uQ c)):Ev H0 p wl ys Hb σ (dQ (iM K) (mw$ al t$ al T$ al x aJ)$ uu 3) (C4 [a,b,c]):=λH Q m W q=>
 r H _ m W λy z (E:y= .str a) A k=>s z _ (m.trans k) A λC D (F:C= .str b) G f=>u D _ ((m.trans k).trans f) G λI R (J:I= .str c) h j=>#[eA,λl n=>kS e HA HA _ _ ((((m.trans k).trans f).trans j).trans$ .new n) (h.same$ je n) λv L #[d,M,S,U] N o=>by
  obtain⟨g,i,O⟩:∃g,dC [HV a,.str b,.str c] d=δ (.str g)/\g∈[a,b,c]:=by
   rcases(by omega:d=0∨d=1∨d=2) with rfl |rfl |rfl
   .exact#[a,Z,Hy]
   .exact#[b,Z,Hy]
   .exact#[c,Z,Hy]
  rw[<- E,<- F,<- J]at i;exact#[l,_,d,_,Z,M,aG.of$ o.b _ _ (h.B.ne n) jc,i,q _ L #[g,Z,O] N (((k.trans f).trans j).trans ((Fw.new n).trans o))]]
theorem pW{K:Ω}{lo:Nat}(e:σ[0]?=δ (δ$ .ref p))(E:σ[1]?=δ (δ$ .ref wl))(d:Ev H0 p wl ys Hb σ t (uQ f))(l:Ev H0 p wl ys Hb σ T (C4 L))(h:ys.length=14)(o:lo<=8)(s:i=(lo:Int))(u:j=((lo+6:Nat):Int)):
  Ev H0 p wl ys Hb σ (dP (dj n) [] E0$ al (aZ 0)$ al t$ al T$ al (Fe (wQ K) (aZ 1) (mx$ tC$ .int i)$ mx$ tC$ .int j) aJ) (PD (L.map λy=>(y,2)) n f):=λH Q m W q=>
 #[_,e,d H _ m W λv x (z:v= .str f) A k=>l x _ (m.trans k) A λV M #[g,D,c] b F=>#[_,E,_,Z,_,Z,wl,_,Z,aG.of b.w,λr N=>#[p,r,f,g,be ys (δ i)$ δ j,by rw[z,D];rfl,b.B.upd_new N,by rw[jc,zJ],by rw[s,u];exact Fz h o,λa G X I C=>
  q _ G #[a,Z,X.more λy J=>by rw[ρ.mp J];exact cJ.mpr #[g,c,Z]] ((b.same$ je N).but I C) ((k.trans F).trans ((Fw.new N).trans$ .but (b.B.upd_new N) C))]]]
theorem qp{K:Ω}{k:Nat}(e:σ[j]?=δ (δ$ .ref wl))(a:i=(k:Int))(h:ys[k]?=δ y):Ev H0 p wl ys Hb σ (dQ (iM K) (aZ j)$ tC$ .int i) (uQ y):=λH Q m W q=>
 #[_,e,wl,_,_,_,Z,Z,aG.of W.w,(by rw[a];exact jN (by rw[Iv,h];rfl)),q _ H Z W .refl]
theorem Do{n1 n2 n3:Nat}(s:n1<=100/\n2<=100/\n3<=100)(u:Ev H0 p wl ys Hb σ T (PD [(e,n1),(h,n2),(i,n3)] n1 e))(y:Ev H0 p wl ys Hb σ z (PD [(e,n1),(h,n2),(i,n3)] n2 h))(A:Ev H0 p wl ys Hb σ B (PD [(e,n1),(h,n2),(i,n3)] n3 i)):Ev H0 p wl ys Hb σ (bJ$ al T$ al z$ al B aJ) (λH v=>∃r D x,v= .ref r/\H r=δ (.tup x)/\bX H D x/\D.length=3/\((∀d∈D,iB d/\d.b.Cs [(e,n1),(h,n2),(i,n3)])/\D.map Df.f=[e,h,i])/\iz H D [n1,n2,n3]):=λH Q m W q=>
 u H _ m W λV C X E k=>y C _ (m.trans k) E λF G I J j=>A G _ ((m.trans k).trans j) J λL H4 M N l=>#[eA,λr n=>q _ _ (by
  let t:=af.tm (je (o:=HO.tup [V,F,L]) n);obtain⟨a,O,R⟩:=iK _ _ _ t (iK _ _ _ (j.trans l).t X);obtain⟨b,S,U⟩:=iK _ _ _ t (iK _ _ _ l.t I);obtain⟨c,Y,h3⟩:=iK _ _ _ t M;obtain⟨D,g⟩:=FG R U h3 s;exact#[r,D,_,Z,by rw[jc,O,S,Y],g]) (N.same$ je n) (((k.trans j).trans l).trans$ .new n)]
end
theorem eU:am ["_law_box_here","_law_w","_law_body_here","_law_deeper","_law_further","_law_first"] z2z (ae sN):=bY
theorem vV(F:aK K "_law_busy" "_law_busy" sN f fd)(T:Cl P w K mg base 1 fT f0 z0z aW "_law_take")(cO:Cl P w K mg base 2 fO f1 z17z mn "_law_op")(cA:Cl P w K mg base 2 fA f7 z22z eG "_law_names")(cL:Cl P w K mg base 3 fL f8 z19z (dj 1) "_law_looped")(cK:Cl P w K mg base 3 fK f9 z19z (dj 1) "_law_ticking")(cI:Cl P w K mg base 3 fI f' z35z (dj 2) "_law_inner"):ak P w K mg base aD 4 f fd z2z lE:=by
 refine F.ok eU ?_ λc0 A U s H vs Q E i h=>?_
 .rintro _ _ _ _ ⟨p,rfl,_⟩;rfl
 obtain⟨p,rfl,B,q⟩:=h;refine#[_,(jd (jy 1 eU.nd$ cA.e i.m$ ja (pv 0)$ ja jf jb)$ jd (jZ$ jw (zc$ T.e i.m$ ja (pv 0)$ ja jf jb) (jg$ kQ (js jr (pv 1) jf (λ_ _=>Z))$ qW (pv 1) jf zH) jp)$ jd (jy 2 eU.nd$ jh$ ja (jh$ ja jj$ ja (js jr (pv 1) jf (λ_ _=>Z))$ ja (jh$ ja jj$ ja (js jr (pv 1) jf (λ_ _=>Z)) jb) jb)$ ja (jh$ ja jj$ ja (cO.e i.m$ ja (pv 0)$ ja (jh$ ja jj$ ja (js jr (pv 1) jf (λ_ _=>Z)) jb)$ ja (jh$ ja jj$ ja (js jr (pv 1) jf (λ_ _=>Z)) jb) jb) jb) jb)$ jd (jy 3 eU.nd$ jh$ ja (js jr (pv 1) jf (λ_ _=>Z))$ ja (jh$ ja (js jr (pv 1) jf (λ_ _=>Z))$ ja (js jr (pv 1) jf (λ_ _=>Z)) jb)$ ja (pv 2) jb)$ jd (jy 4 eU.nd$ js jr (jG$ ja (js jr (pv 1) jf (λ_ _=>Z))$ ja (js jr (pv 1) jf (λ_ _=>Z))$ ja (js jr (pv 1) jf (λ_ _=>Z)) jb) (T.e i.m$ ja (pv 0)$ ja jf jb) (λ_ _=>Z))$ jd (jy 5 eU.nd$ cL.e i.m$ ja (pv 0)$ ja (js jr (pv 1) jf (λ_ _=>Z))$ ja (js jr (pv 1) jf (λ_ _=>Z))$ ja (jK kM (pv 1) (jI jf)$ jI jf) jb)$ jd (jZ$ jw (zc$ T.e i.m$ ja (pv 0)$ ja jf jb) (jg$ jy 5 eU.nd$ cK.e i.m$ ja (pv 0)$ ja (js jr (pv 1) jf (λ_ _=>Z))$ ja (js jr (pv 1) jf (λ_ _=>Z))$ ja (jK kM (pv 1) (jI jf)$ jI jf) jb) jp)$ jg$ jo$ jh$ ja (pv 5)$ ja (cI.e i.m$ ja (pv 0)$ ja (js jr (pv 1) jf (λ_ _=>Z))$ ja (pv 4)$ ja (jK kM (pv 1) (jI jf)$ jI jf) jb)$ ja (pv 3) jb),?_];refine ah λFa o=>#[_,Z,p,14,Z,B,HA,HA,λj ys Ha X u c d Ba ka=>o _ _ ?_];clear o;let wp:j≠p:=qc Ba u;refine ah λFa o=>dE (λn g=>∃Y:List π,n=[δ$ HX p,δ$ HX j,ζ,ζ,ζ,ζ]/\g j=δ (.lst$ Y.map HV)/\(Y.length=14/\(Y.take 3).Nodup/\∀y∈Y.take 3,y.length<=20)/\ar g p/\aA p H g) (λE0 _ fm=>Jj (W:=#[Ba,ka,u]) Z HA HA (λHb l kb=>?_) (λHb l kb=>fm _ _ #[_,Z,l.w,#[Hz,d.2.sublist$ Mi _ _,λy hy=>d.1 y (Lg hy)],l.B,l.K])) λσ1 H0 h3=>?_
 .clear o;obtain⟨v1,h6,z⟩:=KC (ys:=ys) (k:=1) HA Hz;refine#[_,Z,j,_,_,_,Z,Z,aG.of l.w,z,_,Z,j,_,8,8,Z,Z,l.w,He (k:=8) (by rw[Ik];omega),fm _ _ #[ys.set 8 v1,Z,?_,#[by rw[ND];omega,by rw[List.take_set_of_le HA];exact#[d.2.sublist$ Mi _ _,λy hy=>d.1 y (Lg hy)]],l.B.eq$ ji$ IC wp,l.K.upd_own X]];rw[jc,RW]
 obtain⟨ys,rfl,h4,⟨c,C,D⟩,B1,k1⟩:=h3;obtain⟨y0,h0⟩:∃y,ys[0]?=δ y:=#[_,Ii (by omega:0 < ys.length)];obtain⟨G,I⟩:∃y,ys[1]?=δ y:=#[_,Ii (by omega:1 < ys.length)];obtain⟨y2,N⟩:∃y,ys[2]?=δ y:=#[_,Ii (by omega:2 < ys.length)];let e3:ys.take 3=[y0,G,y2]:=by rw[LS,LS,LS,h0,I,N];rfl
 rw[e3]at C D;refine o _ _ ?_;clear o;let W1:Wd H H0 p j ys:=#[B1,k1,h4];generalize H0=H1 at W1;refine ah λF2 f2=>jO W1 (Xr (Jh (Cf:=[]) (j4 Z HA Hz) (qo$ j4 Z HA Hz) HA)$ Qy (Cf:=[]) (Kt Z (qo$ j4 Z HA Hz)$ qo$ j4 Z HA Hz) HA) λv2 H2 x2 W2 k2=>f2 _ _ ?_;refine ah λF3 f3=>jO W2 (Xt (Cf:=[]) (qp (k:=2) Z Z N) (yt (j4 Z HA Hz)$ j4 Z HA Hz) (Ev.up (jF Z dB x2) λ_ _=>PB.lift) HA Hz) λv3 H3 x3 W3 k3=>f3 _ _ ?_;refine ah λF4 f4=>jO W3 (Dq Z (qp (k:=1) Z Z I) (qp (k:=2) Z Z N)$ qp (k:=2) Z Z N) λv4 H4 x4 W4 k4=>f4 _ _ ?_;refine ah λF5 f5=>jO W4 (pW (lo:=6) Z Z (qp (k:=0) Z Z h0) (Ev.up (R:=C4 [G]) (qp (k:=1) Z Z I) λ_ _ e=>#[_,e,ID]) c HA Z Z) λv5 H5 x5 W5 k5=>f5 _ _ ?_;refine ah λF6 O=>dE (λn g=>∃(b:V),n=[δ$ HX p,δ$ HX j,δ$ v2,δ$ v3,δ$ v4,δ b]/\PD [(G,2)] 1 y0 g b/\Wd H g p j ys/\ai H5 g) (λE6 _ J=>Jj W5 Z HA HA (λH8 W8 S=>?_) (λH8 W8 S=>?_)) λσ2 H7 h5=>?_
 .clear O;refine jO W8 (pW (lo:=6) Z Z (qp (k:=0) Z Z h0) (Ev.up (R:=C4 [G]) (qp (k:=1) Z Z I) λ_ _ e=>#[_,e,ID]) c HA Z Z) λv9 H9 x9 W9 k9=>J _ _ ?_;let M:ai H5 H9:=(S.t.trans k9.t);exact#[_,Z,x9,W9,M]
 .clear O;exact J _ _ #[_,Z,(iK _ _ _ S.t x5),W8,S.t]
 obtain⟨b7,rfl,x7,W7,k7⟩:=h5;refine O _ _ ?_;clear O;let L:ai H3 H7:=((k4.t.trans k5.t).trans k7);refine KH W7 (Do (n1:=1) (n2:=2) (n3:=2) #[HA,HA,HA] (Ev.up (jF Z iK x7) (λ_ _ #[a,e,h]=>#[a,e,h.more Hy])) (Ev.up (pW (lo:=7) Z Z (qp (k:=1) Z Z I) (jF (P:=C4 [G,y2,y2]) Z (λ_ _ _ _ h=>h) x4) c HA Z Z) (λ_ _ #[a,e,h]=>#[a,e,h.more Hy])) (Ev.up (jF Z iK$ iK _ _ _ L x3) (λ_ _ #[a,e,h]=>#[a,e,h.more Hy]))) λv g x W'=>?_;obtain⟨r,ds,xs,rfl,g0,g1,g2,g3,g4⟩:=x;exact q r ds xs g g0 g1 g2 [1,2,2] #[by rw[g3.2];exact g3.1,by rw[g3.2];exact#[C,D]] g4 #[_,Z] W'.B W'.K
abbrev nX:ey:=top 61
theorem CA(h:0<=d)(H:d < 4):∃m:Int,dC [HW 3,.int 3,.int 3,.int 8] d=δ (.int m)/\3<=m/\m<=8:=by
 rcases(by omega:d=0∨d=1∨d=2∨d=3) with rfl |rfl |rfl |rfl
 .exact#[3,Z,HA,HA]
 .exact#[3,Z,HA,HA]
 .exact#[3,Z,HA,HA]
 .exact#[8,Z,HA,HA]
theorem As(h:bX H D v)(f:0<=k)(g:k < (v.length:Int)):∃d,dC v k=δ (.ref d.p)/\d∈D/\xZ H d (.ref d.p):=by
 let a:k.toNat < v.length:=by omega
 let E:k=((k.toNat:Nat):Int):=by omega
 obtain⟨d,c,b⟩:=h.at k.toNat _ (Ii a);let e:v[k.toNat]= .ref d.p:=b.elim λ_ z=>z.1;refine#[d,?_,IA c,by rw[<- e];exact b];rw[E];exact jN (by rw[<- e];exact Ii a)
def nK(H:Hp)(D:List Df)(v a:V):Prop:=∃(d:Df) (p:List π) (t:ε) (I:List Int),d∈D/\v= .str d.f/\H d.pa=δ (.tup$ p.map HV)/\a= .ref t/\H t=δ (.tup$ I.map HW)/\I.length=p.length/\I.length<=100/\∀i∈I,0<=i/\i < 1000000000000000000
inductive lF(b:List V)(H:Hp)(Q:VK)(a:XK):Prop
 |mk(p:ε)(_:b=[.ref p])(_:ar H p)(_:∀(t r:ε) (v2 v3:V) (ds:List Df) (xs:List V) (H':Hp),H' t=δ (.tup [.ref r,v2,v3])->H' r=δ (.tup xs)->bX H' ds xs->1<=ds.length->ds.length<=8->∀ns,iU ds ns->iz H' ds ns->nK H' ds v2 v3->ar H' p->aA p H H'->Q (.ref t) H')
theorem eV:am z41z z2z (ae nX):=bY
def X8:sB:=#[.function,[(".0",.local),("_law_one",.local),("_law_number",.globalImplicit),("_law_box_here",.free)],ν,ν,[]]
theorem rO:(["_law_one","_law_box_here"]:List π).Nodup:=by decide+kernel
theorem pK:bp z41z (ae nX) X8 ["_law_one","_law_box_here"] 1 [0]:=pk
theorem vW(F:aK K "_law_case" "_law_case" nX f fd)(M:Cl P w K mg base 1 fT f0 z0z aW "_law_take")(cN:Cl P w K mg base 2 fN f3 z2z gK "_law_number")(cY:Cl P w K mg base 4 fY f4 z2z lE "_law_busy")(cZ:Cl P w K mg base 22 fZ f5 z34z oi "_law_any")(ml:mg "len"=ζ)(m0:mg "tuple"=ζ):ak P w K mg base aD 23 f fd z2z lF:=by
 refine F.ok eV ?_ λc0 A o1 s H vs Q E y h=>?_
 .rintro _ _ _ _ ⟨p,rfl,_⟩;rfl
 obtain⟨p,rfl,B,q⟩:=h;refine#[_,(jd (jw (jB JW (M.e y.m$ ja (pv 0)$ ja jf jb) jf$ au _) (jd (jy 1 eV.nd$ cY.e y.m$ ja (pv 0) jb)$ jg$ jo$ jh$ ja (pv 1)$ ja (jx$ js j7 (pv 1) jf (λ_ _=>Z))$ ja (jh$ ja (M.e y.m$ ja (pv 0)$ ja jf jb) jb) jb) jp)$ jd (jy 2 eV.nd$ js jr (jG$ ja jf$ ja jf$ ja jf$ ja jf jb) (M.e y.m$ ja (pv 0)$ ja jf jb) (λ_ _=>Z))$ jd (jy 1 eV.nd$ cZ.e y.m$ ja (pv 0)$ ja (jv jT jf$ M.e y.m$ ja (pv 0)$ ja (pv 2) jb)$ ja jf jb)$ jd (kQ (js j7 (pv 1) (M.e y.m$ ja (pv 0)$ ja (jS jL Z ml LI$ ja (pv 1) jb) jb) (λ_ _=>Z))$ zD (n:=3) Z$ jz (ju (i:=3) eV.nd Z$ ω Z)$ jz (ju (i:=4) eV.nd Z$ ω Z)$ jz (ju (i:=5) eV.nd Z$ ω Z) kx)$ jg$ jo$ jh$ ja (pv 1)$ ja (pv 3)$ ja (jC jH Z m0 LZ$ ja (@zg _ _ _ _ _ _ _ (["_law_one","_law_box_here"]) (1) ([0]) _ _ _ _ Z (zn$ pv 4) pK (λ_ _ _ _ _=>(ju (i:=0) rO Z$ ω Z)) (λ_ _ _ _ _=>(@zQ _)) (λ_ _ _ _ _=>(cN.e y.m$ ja (pv 1) jb)) (by intro _;rfl)) jb) jb),?_];let b0:=aI;refine ah λF1 a=>nP λG1 g1=>#[_,Z,p,3,Z,B,HA,HA,λd1 H1 d' a0 B1 e1=>#[_,_,Z,Z,_,Z,g1 _ _ ?_]];clear g1;let k1:aA p H H1:=aA.of_eq e1;refine bZ (λc=>?_) (λc=>a _ _ ?_)
 .clear a;refine ah λF2 f2=>#[_,Z,p,Z,B1,λr ds xs H2 N C hl ns D b O B2 k2=>f2 _ _ ?_];clear f2;let ln:=C.len;obtain⟨nr,rfl⟩:=O;cases ds with
  |nil=>cases hl
  |cons d r0=>
  obtain⟨p0,R,S,_⟩:=b.2 0 d 1 Z Z;let h0:=C;obtain⟨u0,rr,rfl,⟨bs,rfl,hp,_⟩,_⟩:=h0;let g:dC (HX d.p::rr) 0=δ (.ref d.p):=hG;refine#[_,Z,jq N g #[d.p,_,_,_,Z,Z,aC.of hp,hG,_,Z,p,6,Z,B2,HA,HA,λd3 H3 d0 d4 B3 e3=>?_]];let c3:aA p H2 H3:=aA.of_eq e3;refine#[gZ,λu nu=>#[eA,λt U=>?_]];let s4:af H3 (aj (aj H3 u$ .tup [.int d3]) t$ .tup [.ref r,.str d.f,.ref u]):=(je nu).trans (je U);let T:=(c3.tm B2).trans (af.tm s4);exact q t r _ _ _ _ _ jc (T _ _ N) (C.mono T) Hz Hz _ D (b.mono T) #[d,p0,u,[d3],ID,Z,T _ _ R,Z,ao jc U,by rw[S];rfl,(by show 1<=100;decide),λi hi=>by rw[ρ.mp hi];omega] (B3.same s4) ((k1.trans k2).trans$ c3.trans$ aA.of_same s4)
 clear a;refine ah λF1 a=>#[uf,λl W=>#[_,Z,p,4,Z,B1.upd_new W,HA,HA,λd2 H2 d6 d7 B2 e2=>?_]];let k2:aA p H1 H2:=((aA.refl).upd_new W).trans (aA.of_eq e2);obtain⟨m,g,m3,m8⟩:=CA d6 d7;refine#[l,_,_,_,Z,Z,aG.of (by rw[e2 l$ B1.ne W];exact jc),g,a _ _ ?_];clear a;refine ah λF1 a=>#[_,Z,_,Z,_,Z,p,m,Z,B2,Hz,Hz,λd3 H3 d0 d4 B3 e3=>#[_,_,Z,Z,p,1+d3,12,Z,B3,Hz,Hz,HA,HA,λr ds xs H4 G C hl ns D b B4 k4=>a _ _ ?_]];clear a;let ln:=C.len;let K4:aA p H H4:=(k1.trans k2).trans ((aA.of_eq e3).trans k4);refine ah λF1 a=>#[_,Z,_,Z,_,Z,r,_,Z,.inr$ aC.of G,p,_,Z,B4,Hz,Hz,λd5 H5 d8 d9 B5 e5=>?_];let c5:aA p H4 H5:=aA.of_eq e5;let o:=c5.tm B4;obtain⟨d,g,hd,bs,e,hp,_⟩:=As (C.mono o) d8 d9;refine#[r,_,_,_,Z,Z,aC.of$ o _ _ G,g,d.p,_,Z,aC.of hp,Z,_,_,Z,_,_,Z,_,_,Z,Z,a _ _ ?_];clear a;obtain⟨pv,X,h4⟩:=b.v d hd;let z:=o _ _ X;refine#[_,Z,_,Z,_,Z,d.pa,Z,#[_,aC.of z],?_];refine zX (K:=K) (xs:=pv.map HV) (by rw[Ik];omega) (λi L J=>(∃I:List Int,L=I.map HW/\I.length=i/\∀j∈I,0<=j/\j < 1000000000000000000)/\ar J p/\aA p H5 J) #[#[[],Z,Z,(λ_ h=>nomatch h)],B5,aA.refl] (λi L J k=>?_) (λi x L J hx k=>?_) (λL J k l W=>?_)
 .exact#[aC.of$ k.2.2.tm B5 _ _ z,let #[I,e,l,_]:=k.1;by rw[e,Ik,l];exact Im _]
 .exact#[_,Z,p,Z,k.2.1,λe H7 e0 e1 B7 e7=>#[let #[I,h1,l,h2]:=k.1;#[I++[e],by rw[h1,IN];rfl,by rw[Io,l];rfl,Jz h2 #[e0,e1]],B7,k.2.2.trans$ aA.of_eq e7]]
 .refine#[l,_,Z,.inl #[aG.of jc,λl2 n0=>#[eA,λt U=>?_]]];let s7:af J (aj (aj (aj J l$ .lst L) l2$ .tup L) t$ .tup [.ref r,.str d.f,.ref l2]):=((je W).trans$ je n0).trans (je U);let T:=o.trans ((k.2.2.tm B5).trans$ af.tm s7);obtain⟨I,hz,Y,h3⟩:=k.1;rw[Ik]at Y;exact q t r _ _ ds xs _ jc (T _ _ G) (C.mono T) Hz Hz ns D (b.mono T) #[d,pv,l2,I,hd,Z,T _ _ X,Z,by rw[<- hz];exact ao jc U,Y,Hz,h3] (k.2.1.same s7) (K4.trans$ c5.trans$ k.2.2.trans$ aA.of_same s7)
abbrev i8:ey:=top 2
abbrev lv:ey:=top 3
abbrev aF:=List (bq×V)
def dG(x:Int):Prop:=0<=x/\x < 1000000000000000000
def GT(k:aF):Prop:=∀p∈k,∃i,p.2= .int i/\dG i
theorem GT.nil:GT []:=λ_ h=>absurd h IF
theorem GT.put(h:GT a)(k:bq)(H:dG i):GT (ax a k$ .int i):=by
 intro p hp;unfold ax at hp;split at hp
 .obtain⟨q,b,rfl⟩:=cJ.mp hp;by_cases e:q.1=k
  .rw[Iw e];exact#[i,Z,H]
  .rw[Iy e];exact h q b
 .rcases γ.mp hp with hp |hp
  .exact h p hp
  .rw[ρ.mp hp];exact#[i,Z,H]
theorem GT.val(h:GT a)(e:cg a k=δ v):∃i,v= .int i/\dG i:=by unfold cg at e;obtain⟨p,H,rfl⟩:=fy.mp e;exact h p$ OL H
def look(a:aF)(k:bq)(z:Int):Int:=match cg a k with
 |some (.int i)=>i
 |_=>z
theorem qC(h:GT a)(k:bq)(z:Int):(cg a k).getD (.int z)= .int (look a k z):=by
 unfold look;cases e:cg a k with
 |none=>rfl
 |some v=>obtain⟨i,rfl,_⟩:=h.val e;rfl
theorem Z3(h:GT a)(e:cg a k=δ v)(z:Int):v= .int (look a k z):=by unfold look;obtain⟨i,rfl,_⟩:=h.val e;rw[e]
theorem Z4(e:cg a k=ζ)(z:Int):look a k z=z:=by unfold look;rw[e]
theorem Jq(h:GT a)(H:dG z):dG (look a k z):=by
 unfold look;cases e:cg a k with
 |none=>exact H
 |some v=>obtain⟨i,rfl,b⟩:=h.val e;exact b
theorem qK:dG 0:=#[HA,HA]
def jn(i:Nat)(x y:Int):Int:=match i with
 |0=>(x+y) % 1000000000000000000
 |1=>(x - y) % 1000000000000000000
 |2=>x*y % 1000000000000000000
 |3=>if y=0 then 0 else x / y
 |4=>if x < y then 1 else 0
 |_=>if x=y then 1 else 0
def Tm.ev(k:aF):Tm->Int
 | .num n=>n
 | .var x=>look k (.inr x) 0
 | .op i a b=>jn i (a.ev k) (b.ev k)
theorem DB(H:dG x)(c:dG y):dG (jn i x y):=by
 let a:(1000000000000000000:Int)≠0:=by decide
 let b:(0:Int) < 1000000000000000000:=by decide
 match i with
 |0=>exact#[Lm _ a,I8 _ b]
 |1=>exact#[Lm _ a,I8 _ b]
 |2=>exact#[Lm _ a,I8 _ b]
 |3=>
  show dG (if y=0 then 0 else x / y);by_cases h:y=0
  .rw[Iw h];exact#[HA,HA]
  .rw[Iy h];let e:=c.1;let d:0 < y:=by omega
   refine#[RD H.1 Hz,Int.lt_of_le_of_lt ?_ H.2];exact Int.ediv_le_self _ H.1
 |4=>show dG (if x < y then 1 else 0);split<;>exact#[HA,HA]
 |n+5=>show dG (if x=y then 1 else 0);split<;>exact#[HA,HA]
theorem zM(g:GT k):∀{t:Tm},t.Good y->dG (t.ev k)
 | .num _,h=>h
 | .var x,_=>Jq g qK
 | .op _ _ _,h=>DB (zM g h.2.1) (zM g h.2.2)
inductive im(b:List V)(H:Hp)(Q:VK)(a:XK):Prop
 |mk(i:Nat)(x y:Int)(_:b=[.str (Gc i),.int x,.int y])(_:i < 6)(_:dG x)(_:dG y)(_:Q (.int (jn i x y)) H)
def Gy(K:Ω)(H:Hp)(T:Tm)(a:ε):Prop:=aQ H T a∨(T= .num 0/\aC K H a [.str "num",.int 0])
inductive cy(K:Ω)(n:Nat)(e:List V)(H:Hp)(Q:VK)(b:XK):Prop
 |mk(a d:ε)(T:Tm)(f:List π)(c:aF)(_:e=[.ref a,.ref d])(_:Gy K H T a)(_:T.depth < n)(_:T.Good f)(_:H d=δ (.dK c))(_:GT c)(_:Q (.int (T.ev c)) H)
theorem tI:am z24z z24z (ae i8):=bY
theorem Z5(F:aK K "joined" "joined" i8 f b)(m:mg "TOP"=δ (.int 1000000000000000000 t)):ak P w K mg base aD 1 f b z24z im:=by
 refine F.ok tI (λd H Q E h=>?_) (λe A o s H d Q E r h=>?_)
 .obtain⟨i,x,y,rfl,_⟩:=h;rfl
 obtain⟨i,x,y,rfl,u,g,j,q⟩:=h;refine#[_,(jd (jw (jW$ pv 0) (jg$ jo$ jv kY (jv jT (pv 1)$ pv 2)$ Jk (v:=.int 1000000000000000000) Z m #[_,Z]) jp)$ jd (jw (jW$ pv 0) (jg$ jo$ jv kY (jv kI (pv 1)$ pv 2)$ Jk (v:=.int 1000000000000000000) Z m #[_,Z]) jp)$ jd (jw (jW$ pv 0) (jg$ jo$ jv kY (jv zo (pv 1)$ pv 2)$ Jk (v:=.int 1000000000000000000) Z m #[_,Z]) jp)$ jd (jw (jW$ pv 0) (jg$ jo$ zG (zc$ pv 2) jf$ jv Jw (pv 1)$ pv 2) jp)$ jd (jw (jW$ pv 0) (jg$ jo$ zG (jB Kq (pv 1) (pv 2)$ au _) jf jf) jp)$ jg$ jo$ zG (jB zq (pv 1) (pv 2)$ au _) jf jf),?_];obtain⟨k,l⟩:=g;obtain⟨n,p⟩:=j;rcases(by omega:i=0∨i=1∨i=2∨i=3∨i=4∨i=5) with rfl |rfl |rfl |rfl |rfl |rfl
 .refine#[_,Z,Z,_,Z,bH Hw ?_];exact#[_,Z,_,Z,_,_,Z,Z,_,_,Z,Z,(by show(0:Int) < 1000000000000000000;decide),q]
 .refine#[_,Z,Z,_,Z,aH Hw ?_];refine#[_,Z,Z,_,Z,bH Hw ?_];exact#[_,Z,_,Z,_,_,Z,Z,_,_,Z,Z,(by show(0:Int) < 1000000000000000000;decide),q]
 .refine#[_,Z,Z,_,Z,aH Hw ?_];refine#[_,Z,Z,_,Z,aH Hw ?_];refine#[_,Z,Z,_,Z,bH Hw ?_];exact#[_,Z,_,Z,_,_,Z,Z,.inl #[Hz,Hz],_,_,Z,Z,(by show(0:Int) < 1000000000000000000;decide),q]
 .refine#[_,Z,Z,_,Z,aH Hw ?_];refine#[_,Z,Z,_,Z,aH Hw ?_];refine#[_,Z,Z,_,Z,aH Hw ?_];refine#[_,Z,Z,_,Z,bH Hw ?_];let a:Q (.int (if y=0 then 0 else x / y)) H:=q;refine#[_,Z,Z,_,Z,?_];refine bZ (λc=>?_) (λc=>?_)
  .let C:HW y=HW 0:=Ll c;injection C with C;rw[Iw C]at a;exact a
  .let C:y≠0:=λz=>c (by rw[z];rfl);rw[Iy C]at a;exact#[_,Z,_,Z,_,_,Z,Z,#[Hz,Hz],a]
 .refine#[_,Z,Z,_,Z,aH Hw ?_];refine#[_,Z,Z,_,Z,aH Hw ?_];refine#[_,Z,Z,_,Z,aH Hw ?_];refine#[_,Z,Z,_,Z,aH Hw ?_];refine#[_,Z,Z,_,Z,bH Hw ?_];let a:Q (.int (if x < y then 1 else 0)) H:=q;refine#[_,Z,_,Z,_,_,Z,Z,_,Z,?_];refine bZ (λc=>?_) (λc=>?_)
  .rw[Iw$ Ll c]at a;exact a
  .rw[Iy$ NG$ xm.mpr c]at a;exact a
 .refine#[_,Z,Z,_,Z,aH Hw ?_];refine#[_,Z,Z,_,Z,aH Hw ?_];refine#[_,Z,Z,_,Z,aH Hw ?_];refine#[_,Z,Z,_,Z,aH Hw ?_];refine#[_,Z,Z,_,Z,aH Hw ?_];let a:Q (.int (if x=y then 1 else 0)) H:=q;refine#[_,Z,_,Z,Z,_,Z,?_];refine bZ (λc=>?_) (λc=>?_)
  .let C:HW x=HW y:=Ll c;injection C with C;rw[Iw C]at a;exact a
  .let C:x≠y:=λz=>c (by rw[z];exact IW Z);rw[Iy C]at a;exact a
theorem xu:am z8z z8z (ae lv):=bY
theorem sj(F:aK K "worth" "worth" lv f p)(C:Cl P w K mg base (n+1) f p z8z (cy K n) "worth")(v:Cl P w K mg base 1 R B z24z im "joined"):ak P w K mg base aD (n+2) f p z8z (cy K$ n+1):=by
 refine F.ok xu (λV H Q E h=>?_) (λD A o s H V Q E j h=>?_)
 .obtain⟨a,d,T,y,c,rfl,_⟩:=h;rfl
 obtain⟨a,d,T,y,c,rfl,t,I,g,l,G,q⟩:=h;refine#[_,(jd (jw (jW$ jx$ pv 0) (jg$ jo$ jx$ pv 0) jp)$ jd (jw (jW$ jx$ pv 0) (jg$ jo$ @qy _ _ _ _ _ _ _ _ _ (jQ j) (pv 1) (jx$ pv 0) jf #[Hv,Hv,Hv,Hv]) jp)$ jg$ jo$ v.e j.m$ ja (jx$ pv 0)$ ja (C.e j$ ja (jx$ pv 0)$ ja (pv 1) jb)$ ja (C.e j$ ja (jx$ pv 0)$ ja (pv 1) jb) jb),?_];cases T with
 |num m=>
  let b:aC K H a [.str "num",.int m]:=t.elim (λh=>aC.of h) λz=>by cases z.1;exact z.2
  refine#[_,Z,a,_,_,_,Z,Z,b,Z,Z,_,Z,bH Hw ?_];exact#[_,Z,a,_,_,_,Z,Z,b,Z,q]
 |var x=>
  let b:H a=δ (.tup [.str "var",.str x]):=t.resolve_right λz=>by cases z.1
  refine(jq b Z #[Z,_,Z,aH Hw ?_]);refine(jq b Z #[Z,_,Z,bH Hw ?_]);refine#[_,Z,d,Z,.inl #[c,.inl l],jq b Z #[_,a6.k (k:=Sum.inr x) l,?_]];rw[qC G];exact q
 |op i r u=>
  obtain⟨J,L,b,M,N⟩:=t.resolve_right λz=>by cases z.1
  let O:max r.depth u.depth+1 < n+1:=I;refine(jq b Z #[Z,_,Z,aH Hw ?_]);refine(jq b Z #[Z,_,Z,aH Hw ?_]);refine(jq b Z ?_);refine(jq b Z #[_,Z,J,d,r,y,c,Z,.inl M,Hz,g.2.1,l,G,?_]);refine(jq b Z #[_,Z,L,d,u,y,c,Z,.inl N,Hz,g.2.2,l,G,?_]);exact#[i,_,_,Z,g.1,zM G g.2.1,zM G g.2.2,q]
theorem rS:ak P w K mg base aD 1 f e z8z (cy K 0):=by
 let n:∀v H Q E,¬cy K 0 v H Q E:=λv H Q E h=>by obtain⟨a,d,T,y,k,_,_,c,_⟩:=h;exact absurd c$ MN _
 exact#[λv H Q E h=>absurd h (n v H Q E),λA o s H b u v Q E _ _ _ _ h=>absurd h (n v H Q E)]
theorem uK(F:aK K "worth" "worth" lv f a)(b:ay K a z8z [])(m:mg "worth"=δ (.ref f))(c:Cl P w K mg base 1 e d z24z im "joined"):
  ∀n:Nat,ak P w K mg base aD (n+1) f a z8z (cy K n)
 |0=>rS
 |n+1=>sj F #[(uK F b m c n),b,F.kp,m] c
def TV(H:Hp)(y:List π)(t:ε)(T:Tm):Prop:=aQ H T t/\di y T
theorem TV.mono(k:ai H a)(h:TV H y t T):TV a y t T:=#[h.1.mono k,h.2]
inductive Gl where
 |give (t:ε) (T:Tm) |nought |go (n:Nat)
structure WD where
 sets:List (π×ε×Tm)
 goal:Gl
def Gl.gol(N:ε):Gl->EN
 | .give t _=>.give t
 | .nought=>.give N
 | .go n=>.go (n:Int)
def WD.wy(n:ε)(w:WD):Wy:=#[w.sets.map λs=>(s.1,s.2.1),w.goal.gol n]
def CZ(H:Hp)(y:List π)(m:Nat):Gl->Prop
 | .give t T=>TV H y t T
 | .nought=>True
 | .go n=>n < m
structure mG(H:Hp)(ys:List π)(m N:Nat)(w:WD):Prop where
 sets:∀s∈w.sets,TV H ys s.2.1 s.2.2
 len:w.sets.length<=N
 goal:CZ H ys m w.goal
def mO(H:Hp)(y:List π)(n:ε)(m N:Nat)(w:Wy):Prop:=∃d:WD,d.wy n=w/\mG H y m N d
def GY(F:eQ)(H:Hp)(y:List π):Dd->Prop
 | .st p=>∃(l:Lf) (v:List V),H p=δ (.tup v)/\uP H l v/\l.Ok y/\l.isCut=μ/\l.Cs F
 | .ask t=>∃T,TV H y t T
def Dd.ways:Dd->Nat
 | .st _=>1
 | .ask _=>2
structure uW(F:eQ)(H:Hp)(ys:List π)(nA:ε)(m N:Nat)(c:Ct):Prop where
 mem:∀x,c.M x->x∈ys
 deed:GY F H ys c.d
 ways:∀w∈c.ws,mO H ys nA m N w
 len:c.ws.length=c.d.ways
structure uR(H:Hp)(ys:List π)(nA:ε)(m N:Nat)(pc:Pc):Prop where
 mem:∀x,pc.M x->x∈ys
 way:mO H ys nA m N pc.w
section
variable {F:eQ}{H H':Hp}{ys:List π}{nA:ε}{m N N':Nat}
theorem CZ.mono(k:ai H H')(h:CZ H ys m g):CZ H' ys m g:=by
 cases g with
 |give t T=>exact TV.mono k h
 |nought=>trivial
 |go n=>exact h
theorem mG.mono(k:ai H H'){w:WD}(h:mG H ys m N w):mG H' ys m N w:=#[λs a=>(h.sets s a).mono k,h.len,h.goal.mono k]
theorem mO.up(a:N<=N'){w:Wy}(h:mO H ys nA m N w):mO H ys nA m N' w:=let #[d,e,v]:=h;#[d,e,v.sets,IB v.len a,v.goal]
theorem uW.up(a:N<=N')(h:uW F H ys nA m N c):uW F H ys nA m N' c:=#[h.mem,h.deed,λw b=>(h.ways w b).up a,h.len]
theorem uR.up(a:N<=N')(h:uR H ys nA m N p):uR H ys nA m N' p:=#[h.mem,h.way.up a]
theorem Ye{n:Nat}(a:k=(n:Int))(b:n < m):mO H ys nA m N #[[],.go k]:=#[#[[],.go n],by rw[a];rfl,(λ_ h=>absurd h IF),Is _,b]
theorem Ku:∀(b:Bd) {X:List V} {g:Pc} {fs:List Ct} {N:Nat},c8 H b X->b.Ok ys->b.Cs F->uR H ys nA m N g->(∀c∈fs,uW F H ys nA m N c)->fs.length+b.cuts<=m->
  uR H ys nA m (N+b.size) (pB (m:Int) b g fs).1/\∀c∈(pB (m:Int) b g fs).2,uW F H ys nA m (N+b.size) c
 | .nil,_,_,_,_,_,_,_,o,y,_=>#[o,y]
 | .lf p l r,X,g,fs,N,C,i,k,o,y,D=>by
  obtain⟨vs,zs,_,h1,I,h3⟩:=C;let E:fs.length+(l.cut+r.cuts)<=m:=D;obtain⟨R,A⟩:=Ku r h3 i.2 k.2 o y Hz;let hl:=ki (m:Int) r g fs;let S:N+r.size<=N+(r.size+1):=by omega
  let j:=Lf.use_in i.1 R.mem;let J:l.isCut=μ->l.cut=1->uR H ys nA m (N+(r.size+1)) #[l.use (pB (m:Int) r g fs).1.M,#[[],.go ((m:Int) - ((pB (m:Int) r g fs).2.length:Int) - 1)]]/\∀c∈(pB (m:Int) r g fs).2++[#[l.use (pB (m:Int) r g fs).1.M,.st p,[(pB (m:Int) r g fs).1.w]]],uW F H ys nA m (N+(r.size+1)) c:=λG h0=>
   #[#[j,Ye (n:=m - (fs.length+r.cuts) - 1) (by rw[hl];omega) Hz],λc L=>by
    rcases γ.mp L with z |z
    .exact(A c z).up S
    .rw[ρ.mp z];exact#[j,#[l,vs,h1,I,i.1,G,k.1],λw hw=>by rw[ρ.mp hw];exact R.way.up S,Z]]
  show uR H ys nA m (N+(r.size+1)) (pL (m:Int) p l$ pB (m:Int) r g fs).1/\∀c∈(pL (m:Int) p l$ pB (m:Int) r g fs).2,uW F H ys nA m (N+(r.size+1)) c;cases l with
  |gv t T=>exact#[#[j,#[#[[],.give t T],Z,(λ_ h=>absurd h IF),Is _,I.2,i.1]],λc G=>(A c G).up S]
  |st x t T=>
   refine#[#[j,?_],λc G=>(A c G).up S];show mO H ys nA m _ (fV x t (pB (m:Int) r g fs).1);unfold fV;split
   .obtain⟨d,e,v⟩:=R.way;refine#[#[(x,t,T)::d.sets,d.goal],by rw[<- e];rfl,λs hs=>?_,Lp v.len,v.goal];rcases Δ.mp hs with rfl |hs
    .exact#[I.2,i.1.2]
    .exact v.sets s hs
   .exact R.way.up S
  |rd x t T |wr t u T U |cl x f q ts=>exact J Z Z
 | .ite p t T a c r,X,g,fs,N,C,i,k,o,y,D=>by
  obtain⟨qa,qb,as,bs,zs,_,g1,O,g2,g3,Q,g5,W⟩:=C;let E:fs.length+(1+a.cuts+c.cuts+r.cuts)<=m:=D;obtain⟨R,A⟩:=Ku r W i.2.2.2 k.2.2 o y Hz;let B:=ki (m:Int) r g fs;obtain⟨c1,c2⟩:=Ku c g5 i.2.2.1 k.2.1 R A Hz;let h4:=ki (m:Int) c (pB (m:Int) r g fs).1 (pB (m:Int) r g fs).2;obtain⟨Y,a2⟩:=Ku a Q i.2.1 k.1 (R.up$ Mo _ _) c2 Hz;let S:N+r.size+c.size+a.size<=N+(a.size+c.size+r.size+1):=by omega
  let j:∀x,(Bd.ite p t T a c .nil).use (pB (m:Int) r g fs).1.M x->x∈ys:=Bd.use_in #[i.1,i.2.1,i.2.2.1,trivial] R.mem;let hk:(m:Int) - ((pB (m:Int) r g fs).2.length:Int) - ((Bd.ite p t T a c .nil).cuts:Int)=((m - (fs.length+r.cuts) - (1+a.cuts+c.cuts):Nat):Int):=by show(m:Int) - _ - ((1+a.cuts+c.cuts+0:Nat):Int)=_;rw[B];omega
  unfold pB;dsimp only;refine#[#[j,Ye hk Hz],λe he=>?_];rcases γ.mp he with z |z
  .exact(a2 e z).up S
  .rw[ρ.mp z];refine#[j,#[T,O,i.1],λw hw=>?_,Z];rcases Δ.mp hw with rfl |hw
   .exact Y.way.up S
   .rw[ρ.mp hw];exact c1.way.up (by show _<=N+(a.size+c.size+r.size+1);omega)
 | .loop p t T a r,X,g,fs,N,C,i,k,o,y,D=>by
  obtain⟨qa,as,zs,_,g1,O,g2,Q,W⟩:=C;let E:fs.length+(1+a.cuts+r.cuts)<=m:=D;obtain⟨R,A⟩:=Ku r W i.2.2 k.2 o y Hz;let B:=ki (m:Int) r g fs;let j:∀x,(Bd.loop p t T a .nil).use (pB (m:Int) r g fs).1.M x->x∈ys:=Bd.use_in #[i.1,i.2.1,trivial] R.mem;let hk:(m:Int) - ((pB (m:Int) r g fs).2.length:Int) - ((Bd.loop p t T a .nil).cuts:Int)=((m - (fs.length+r.cuts) - (1+a.cuts):Nat):Int):=by show(m:Int) - _ - ((1+a.cuts+0:Nat):Int)=_;rw[B];omega
  let pl:uR H ys nA m (N+r.size) #[(Bd.loop p t T a .nil).use (pB (m:Int) r g fs).1.M,#[[],.go ((m:Int) - ((pB (m:Int) r g fs).2.length:Int) - ((Bd.loop p t T a .nil).cuts:Int))]]:=#[j,Ye hk Hz];obtain⟨Y,a2⟩:=Ku a Q i.2.1 k.1 pl A Hz;let S:N+r.size+a.size<=N+(a.size+r.size+1):=by omega
  unfold pB;dsimp only;refine#[pl.up (by show _<=N+(a.size+r.size+1);omega),λe he=>?_];rcases γ.mp he with z |z
  .exact(a2 e z).up S
  .rw[ρ.mp z];refine#[j,#[T,O,i.1],λw hw=>?_,Z];rcases Δ.mp hw with rfl |hw
   .exact Y.way.up S
   .rw[ρ.mp hw];exact R.way.up (by show _<=N+(a.size+r.size+1);omega)
end
noncomputable def bE(n:ε)(d:Df):List Ct:=(fg n d).2.reverse
theorem Zf(n:ε)(d:Df):(bE n d).length=d.b.cuts:=by unfold bE;rw[M3];exact(ki _ _ _ _).trans (M5 _)
theorem D9{nA:ε}{d:Df}(f:c8 H d.b B)(g:d.b.Ok y):uR H y nA d.b.cuts d.b.size (fg nA d).1/\∀c∈bE nA d,uW d.b.calls H y nA d.b.cuts d.b.size c:=by let p:uR H y nA d.b.cuts 0 (FX nA):=#[λx i=>absurd i IF,#[[],.nought],Z,(λ_ h=>absurd h IF),Im _,trivial];obtain⟨a,e⟩:=Ku (m:=d.b.cuts) d.b f g (zj d.b) p (fs:=[]) (λ_ h=>absurd h IF) (by show 0+_<=_;omega);rw[M5]at a e;exact#[a,λc j=>e c (List.mem_reverse.mp j)]
theorem QY{M:π->Prop}{y:List π}(h:∀x,M x->x∈y):(canon M).length<=y.length:=by
 by_cases e:∃s,Nm s M
 .obtain⟨s,H⟩:=e;rw[<- H.canon];exact H.len h
 .unfold canon;rw[dif_neg e];exact Is _
def bj:List (π×ε×Tm)->aF->aF
 | [],k=>k
 |s::r,k=>bj r (ax k (.inr s.1) (.int (s.2.2.ev k)))
noncomputable def dO(N:ε)(d:Df)(n:Nat):List π:=match (bE N d)[n]? with
 |some c=>canon c.M
 |none=>[]
def rG(N:Nat->List π)(k:aF):Gl->Tr
 | .give _ T=>a5 [bo "give",aY (T.ev k)]
 | .nought=>a5 [bo "give",aY 0]
 | .go n=>a5 [bo "go",aY (n:Int),a5 ((N n).map λx=>aY (look k (.inr x) 0))]
theorem Jr{H:Hp}{ys:List π}:∀{ss:List (π×ε×Tm)} {k:aF},(∀s∈ss,TV H ys s.2.1 s.2.2)->GT k->GT (bj ss k)
 | [],_,_,g=>g
 |s::r,k,h,g=>Jr (H:=H) (ys:=ys) (ss:=r) (λS a=>h S (IK _ a)) (g.put _ (zM g (h s ID).2.1))
theorem Z6{S:List (π×ε×Tm)}:∀{i:Nat} {s:π×ε×Tm} {k:aF},S[i]?=δ s->bj (S.take$ i+1) k=ax (bj (S.take i) k) (.inr s.1) (.int$ s.2.2.ev$ bj (S.take i) k):=by
 induction S with
 |nil=>intro i s k h;simp at h
 |cons a r I=>
  intro i s k h;cases i with
  |zero=>cases h;rfl
  |succ i=>exact I (by simpa using h)
theorem JA{kvs:aF}{k:bq}{v:V}:(ax kvs k v).length<=kvs.length+1:=by
 unfold ax;split
 .rw[Ik];exact LU _
 .rw[Io];exact Im _
theorem XJ:∀{ss:List (π×ε×Tm)} {k:aF},(bj ss k).length<=k.length+ss.length
 | [],_=>Im _
 |s::r,k=>by let h:=XJ (ss:=r) (k:=ax k (.inr s.1) (.int$ s.2.2.ev k));let H:=JA (kvs:=k) (k:=.inr s.1) (v:=.int (s.2.2.ev k));show(bj r _).length<=k.length+(r.length+1);omega
def aR(n:List π)(i:List Int):aF:=bV [] ((n.map Sum.inr).zip$ i.map HW)
theorem XL:∀{m:aF} {k:aF},GT k->GT m->GT (bV k m)
 | [],_,g,_=>g
 |p::r,k,g,h=>by
  obtain⟨i,e,H⟩:=h p ID;let E:ax k p.1 p.2=ax k p.1 (.int i):=by rw[e]
  show GT (bV (ax k p.1 p.2) r);rw[E];exact XL (g.put _ H) λq a=>h q (IK _ a)
theorem KI(h:∀i∈I,dG i):GT (aR n I):=by refine XL GT.nil λp H=>?_;obtain⟨i,a,e⟩:=cJ.mp (NB H).2;exact#[i,e.symm,h i a]
theorem Zg{ns:List π}{is:List Int}:(aR ns is).length<=ns.length:=by let h:=zS ((ns.map Sum.inr).zip$ is.map HW) [];rw[Oo,Ik]at h;show(bV [] _).length<=_;let H:(bV [] ((ns.map Sum.inr).zip$ is.map HW)).length<=0+min ns.length (is.map HW).length:=h;omega
abbrev mY:ey:=top 19
abbrev i7:ey:=top 20
abbrev h9:ey:=top 23
abbrev i6:ey:=top 24
abbrev hZ:ey:=top 25
abbrev j':ey:=top 26
structure nM(H:Hp)(nA:ε)(d:Df)(ys:List π)(v:V):Prop where
 tr:aN H (eN nA d) v []
 bd:∃bs,c8 H d.b bs
 ok:d.b.Ok ys
 y20:ys.length<=20
 sz:d.b.size<=400
structure CY(H:Hp)(nA:ε)(d:Df)(ys:List π)(c:Ct)(ka na wa:ε)(dv:V)(wvs:List V):Prop where
 at':H ka=δ (.tup [.ref na,dv,.ref wa])
 nms:H na=δ (.tup ((canon c.M).map HV))
 deed:aN H (EY c.d) dv []
 wat:H wa=δ (.tup wvs)
 ways:aN H (aE$ c.ws.map gR) .non wvs
 v:uW d.b.calls H ys nA d.b.cuts d.b.size c
theorem Zh:∀{S:List π} {v:List V},aN H (aE$ S.map bo) .non v->v=S.map HV
 | [],v,h=>h
 |s::S,v,h=>by obtain⟨_,_,y,Y,rfl,⟨rfl,_⟩,a⟩:=h;rw[Zh a];rfl
section
variable {H H':Hp}{nA:ε}{d:Df}{ys:List π}{v:V}
theorem nM.mono(k:ai H H')(h:nM H nA d ys v):nM H' nA d ys v:=#[h.tr.mono k,let #[b,a]:=h.bd;#[b,a.mono k],h.ok,h.y20,h.sz]
theorem nM.parts(h:nM H nA d ys v):∃(a c:ε) (W:V) (C:List V),v= .ref a/\H a=δ (.tup [.str d.f,.ref d.pa,W,.ref c])/\aN H (gR (fg nA d).1.w) W []/\H c=δ (.tup C)/\aN H (aE ((bE nA d).map Dg)) .non C:=by obtain⟨_,a,x,rfl,i,_,_,n,Y,rfl,⟨rfl,_⟩,_,_,o,j,rfl,⟨rfl,_⟩,_,_,W,k,rfl,l,_,_,p,y,rfl,m,e⟩:=h.tr;let e:y=[]:=e;subst e;obtain⟨_,c,C,rfl,b,g⟩:=m;exact#[a,c,W,C,Z,i,l,b,g]
theorem nM.cut{C:List V}(h:nM H nA d ys v)(a:aN H (aE ((bE nA d).map Dg)) .non C){n:Nat}{c:Ct}(g:(bE nA d)[n]?=δ c):∃k N i D W,C[n]?=δ (.ref k)/\CY H nA d ys c k N i D W:=by
 let L:=zz a;rw[Ik]at L;let u:n < C.length:=by rw[L];exact(τ.mp g).1
 let j:C[n]?=δ C[n]:=Ii u;obtain⟨T,b,t⟩:=q8 a n _ j;rw[Iv,g]at b;cases b;obtain⟨B,y⟩:=h.bd;let z:=(D9 (nA:=nA) y h.ok).2 c (IA g);generalize C[n]=x at j t;obtain⟨_,k,E,rfl,l,_,_,F,G,rfl,m,_,_,D,I,rfl,o,_,_,J,A,rfl,p,e⟩:=t;let e:A=[]:=e;subst e;obtain⟨_,N,M,rfl,f,q⟩:=m;obtain⟨_,i,W,rfl,r,s⟩:=p;rw[Zh q]at f;exact#[k,N,i,D,W,j,l,f,o,r,s,z]
theorem rQ(h:(bE nA d)[n]?=δ c):dO nA d n=canon c.M:=by unfold dO;rw[h]
end
structure Fu(H:Hp)(nA:ε)(w:WD)(wa sa ga:ε)(ss:List V)(wd:π)(u:V):Prop where
 at':H wa=δ (.tup [.ref sa,.ref ga])
 sat:H sa=δ (.tup ss)
 sets:∀(i:Nat) (x:V),ss[i]?=δ x->∃(s:π×ε×Tm) (p:ε),w.sets[i]?=δ s/\x= .ref p/\H p=δ (.tup [.str s.1,.ref s.2.1])
 len:ss.length=w.sets.length
 gat:H ga=δ (.tup [.str wd,u])
 goal:match w.goal with
  | .give t _=>wd="give"/\u= .ref t
  | .nought=>wd="give"/\u= .ref nA
  | .go n=>wd="go"/\u= .int (n:Int)
theorem xR{w:WD}(h:aN H (gR$ w.wy N) v []):∃(l S G:ε) (A:List V) (W:π) (u:V),v= .ref l/\Fu H N w l S G A W u:=by
 obtain⟨_,r,X,rfl,C,_,_,y0,D,rfl,⟨_,s,c,rfl,E,m⟩,_,_,Y,y,rfl,b,e⟩:=h;let e:y=[]:=e;subst e;let L:=zz m;let st:∀(i:Nat) (x:V),c[i]?=δ x->∃(s:π×ε×Tm) (p:ε),w.sets[i]?=δ s/\x= .ref p/\H p=δ (.tup [.str s.1,.ref s.2.1]):=λi x F=>by obtain⟨tr,o,I⟩:=q8 m i x F;rw[Iv]at o;obtain⟨q,J,rfl⟩:=fy.mp o;let a:(w.sets.map λs=>(s.1,s.2.1))[i]?=δ q:=J;rw[Iv]at a;obtain⟨z,M,rfl⟩:=fy.mp a;obtain⟨_,p,X,rfl,O,_,_,Q,R,rfl,⟨rfl,_⟩,_,_,U,B,rfl,⟨rfl,_⟩,e⟩:=I;let e:B=[]:=e;subst e;exact#[z,p,M,Z,O]
 let ln:c.length=w.sets.length:=by rw[L,Ik];exact Ik ..
 let f:∀g:Gl,w.goal=g->aN H (vE$ g.gol N) Y []->∃(G:ε) (W:π) (u:V),Y= .ref G/\H G=δ (.tup [.str W,u])/\match g with
  | .give t _=>W="give"/\u= .ref t
  | .nought=>W="give"/\u= .ref N
  | .go n=>W="go"/\u= .int (n:Int):=λg _ b=>by
  cases g with
  |give t T |nought |go n=>obtain⟨_,gl,X,rfl,d,_,_,Q,R,rfl,⟨rfl,_⟩,_,_,U,B,rfl,⟨rfl,_⟩,e⟩:=b;let e:B=[]:=e;subst e;exact#[gl,_,_,Z,d,Z,Z]
 obtain⟨G,W,u,rfl,j,k⟩:=f w.goal Z b;exact#[r,s,G,c,W,u,Z,C,E,st,ln,j,k]
inductive ij(b:ε)(e:List V)(H:Hp)(Q:VK)(a:XK):Prop
 |mk(v:V)(n:Nat)(d:Df)(f:List π)(c:Ct)(_:e=[v,.int (n:Int)])(_:nM H b d f v)(_:(bE b d)[n]?=δ c)(_:∀(ka na wa:ε) (dv:V) (wvs:List V),CY H b d f c ka na wa dv wvs->Q (.ref ka) H)
inductive il(f:ε)(g:List V)(H:Hp)(Q:VK)(a:XK):Prop
 |mk(v:V)(n:Nat)(b:ε)(d:Df)(h:List π)(c:Ct)(e:List Int)(_:g=[v,.int (n:Int),.ref b])(_:nM H f d h v)(_:(bE f d)[n]?=δ c)(_:H b=δ (.tup (e.map HW)))(_:e.length=(canon c.M).length)(_:∀dd:ε,H dd=ζ->Q (.ref dd) (aj H dd (.dK (aR (canon c.M) e))))
theorem Zi:∀(s:List π),(s.map (Sum.inr:π->bq)).map kV=s.map HV:=λs=>by rw[LM];rfl
theorem xo:am ["part","n"] ["part","n"] (ae mY):=bY
theorem rX{f:ε}{g:bm}{N:ε}(F:aK K "cut_at" "cut_at" mY f g):ak P w K mg base aD 1 f g ["part","n"] (ij N):=by
 refine F.ok xo ?_ λl A o s H V Q E B h=>?_
 .rintro _ _ _ _ ⟨v,n,d,y,c,rfl,_⟩;rfl
 obtain⟨v,n,d,y,c,rfl,i,m,q⟩:=h;refine#[_,(jg$ jo$ js j7 (jx$ pv 0) (pv 1) (λ_ _=>Z)),?_];obtain⟨a,p,I,J,rfl,r,L,b,e⟩:=i.parts;obtain⟨t,u,x,D,W,z,C⟩:=i.cut e m;exact#[_,Z,a,_,_,_,Z,Z,aC.of r,jN (j:=3) Z,_,Z,p,_,_,_,Z,Z,aC.of b,jN z,q t u x D W C]
theorem tH:am z12z z12z (ae i7):=bY
theorem Z7(F:aK K "held_at" "held_at" i7 f g)(i:Cl P w K mg base 1 J j ["part","n"] (ij N) "cut_at")(m:mg "dict"=ζ)(a:mg "zip"=ζ):ak P w K mg base aD 2 f g z12z (il N):=by
 refine F.ok tH ?_ λp A o s H V Q E r h=>?_
 .rintro _ _ _ _ ⟨v,n,b,d,y,c,I,rfl,_⟩;rfl
 obtain⟨v,n,b,d,y,c,I,rfl,t,u,x,z,q⟩:=h;refine#[_,(jg$ jo$ @Xe _ _ _ _ _ _ _ _ Z m Z a Z (ja (js j7 (i.e r$ ja (pv 0)$ ja (pv 1) jb) jf (λ_ _=>Z))$ ja (pv 2) jb) Hv Hv Hv Hv),?_];refine#[_,Z,_,Z,v,n,d,y,c,Z,t,u,λB D O R W C=>#[B,_,_,_,Z,Z,aC.of C.at',hG,_,Z,D,b,(canon c.M).map Sum.inr,_,Z,by rw[Zi];exact aC.of C.nms,aC.of x,by rw[Ik,Ik,z],λl G=>q l G]]
inductive Wh where
 |rd (a i:Int) |wr (a b:Int) |ask (b:Int) |cl (f:π) (is:List Int) (i:Int)
def Ag(H:Hp)(u:V):Wh->Prop
 | .rd a i=>∃p,u= .ref p/\H p=δ (.tup [.str "read",.int a,.int i])
 | .wr a b=>∃p,u= .ref p/\H p=δ (.tup [.str "write",.int a,.int b])
 | .ask b=>∃p,u= .ref p/\H p=δ (.tup [.str "ask",.int b])
 | .cl f I i=>∃p c g e,u= .ref p/\H p=δ (.tup [.str "call",.ref c])/\H c=δ (.tup [.str f,.ref g,e,.int i])/\H g=δ (.tup (I.map HW))
theorem Ag.mono{H d:Hp}(k:ai H d){u:V}{w:Wh}(h:Ag H u w):Ag d u w:=by
 cases w with
 |rd a i |wr a b |ask b=>obtain⟨p,e,h⟩:=h;exact#[p,e,k _ _ h]
 |cl f I i=>obtain⟨p,c,g,e,E,j,l,m⟩:=h;exact#[p,c,g,e,E,k _ _ j,k _ _ l,k _ _ m]
inductive DD where
 |st (p:ε) (l:Lf) |ask (t:ε) (T:Tm)
def DD.dd:DD->Dd
 | .st p _=>.st p
 | .ask t _=>.ask t
def xY(H:Hp)(y:List π):DD->Prop
 | .st p l=>∃v,H p=δ (.tup v)/\uP H l v/\l.Ok y/\l.isCut=μ
 | .ask t T=>TV H y t T
theorem xY.mono(k:ai H a)(h:xY H y d):xY a y d:=by
 cases d with
 |st p l=>obtain⟨v,b,c,e⟩:=h;exact#[v,k _ _ b,c.mono k,e]
 |ask t T=>exact TV.mono k h
def DD.Cs(F:eQ):DD->Prop
 | .st _ l=>l.Cs F
 | .ask _ _=>True
def EK:DD->Wh->Prop
 | .st _ (.rd _ _ _),.rd _ i=>dG i
 | .st _ (.wr _ _ _ _),.wr _ _=>True
 | .st _ (.cl _ _ _ _),.cl _ _ i=>dG i
 | .ask _ _,.ask b=>b=0∨b=1
 |_,_=>False
def oH(d:DD)(w:Wh)(k:aF):aF:=match d,w with
 | .st _ (.rd x _ _),.rd _ i=>ax k (.inr x) (.int i)
 | .st _ (.cl x _ _ _),.cl _ _ i=>ax k (.inr x) (.int i)
 |_,_=>k
def Wh.side:Wh->Nat
 | .ask b=>if b=0 then 1 else 0
 |_=>0
def p7(Q:VK)(H:Hp):Wh->Prop
 | .rd _ i=>Q (.int i) H
 | .cl _ _ i=>Q (.int i) H
 |_=>False
inductive eE(b:List V)(H:Hp)(Q:VK)(a:XK):Prop
 |mk(u:V)(w:Wh)(_:b=[u])(_:Ag H u w)(_:p7 Q H w)
inductive mh(c:ε)(e:List V)(H:Hp)(Q:VK)(a:XK):Prop
 |mk(v f:V)(b:ε)(d:Df)(g:List π)(w:WD)(k:aF)(_:e=[v,f,.ref b])(_:nM H c d g v)(_:aN H (gR (w.wy c)) f [])(_:mG H g d.b.cuts d.b.size w)(_:H b=δ (.dK k))(_:GT k)(_:k.length<=200)(_:∀(u:V) (H':Hp),aN H' (rG (dO c d) (bj w.sets k) w.goal) u []->aA b H H'->Q u H')
inductive EI(c:ε)(a:_L.St)(j:List (π×ε×Tm))(k:aF)(H:Hp)(i:Nat)(l:_L.St)(b:Hp):Prop
 |mk(g h:Option V)(d:l=a++[g,h,ζ,ζ])(e:b c=δ (.dK (bj (j.take i) k)))(f:aA c H b)
theorem Js{H:Hp}:∀{is:List Int},aN H (aE$ is.map aY) .non (is.map HW)
 | []=>rfl
 |i::is=>jm Z j3 (Js (is:=is))
theorem oY:am ["what"] ["what"] (ae h9):=bY
theorem rZ(F:aK K "found_in" "found_in" h9 f n):ak P w K mg base aD 1 f n ["what"] eE:=by
 refine F.ok oY ?_ λC A o s H v Q E t h=>?_
 .rintro _ _ _ _ ⟨u,W,rfl,_⟩;rfl
 obtain⟨u,W,rfl,d,q⟩:=h;refine#[_,(jg$ jo$ zG (jW$ jx$ pv 0) (jx$ js j7 (pv 0) jf (λ_ _=>Z))$ js j7 (pv 0) (yI uE jf) (λ_ _=>Z)),?_];cases W with
 |rd a i=>obtain⟨p,rfl,l⟩:=d;exact(jq l hG #[Z,_,Z,aH Hw #[_,Z,_,Z,p,_,_,_,Z,Z,aC.of l,Z,q]])
 |cl f I i=>obtain⟨p,c,g,e,rfl,m,r,_⟩:=d;exact(jq m hG #[Z,_,Z,bH Hw$ jq m iV #[c,_,_,_,Z,Z,aC.of r,jN (j:=3) Z,q]])
 |wr a b |ask b=>exact q.elim
theorem fq:am ["part","way","numbers","name","term","goal","held"] ["part","way","numbers"] (ae i6):=bY
def YM:sB:=#[.function,[(".0",.local),("name",.local),("numbers",.free)],ν,ν,[]]
theorem vL:(["name","numbers"]:List π).Nodup:=by decide+kernel
theorem vg:bp ["part","way","numbers","name","term","goal","held"] (ae i6) YM ["name","numbers"] 1 [2]:=pk
theorem rY(F:aK K "end_of" "end_of" i6 f fd)(cC:Cl P w K mg base 1 fC f2 ["part","n"] (ij U) "cut_at")(cW:Cl P w K mg base 7 fW f3 z8z (cy K 6) "worth")(m0:mg "tuple"=ζ)(no:mK K U):ak P w K mg base aD 8 f fd ["part","way","numbers"] (mh U):=by
 refine F.ok fq ?_ λc0 A o1 s H vs Q E Y h=>?_
 .rintro _ _ _ _ ⟨v,w1,D,d,ys,O,k,rfl,_⟩;rfl
 obtain⟨v,w1,D,d,ys,O,k,rfl,hp,hw,wv,hd,gk,hk,q⟩:=h;refine#[_,(jd (kX IZ Z (zn$ jx$ pv 1) (zD (n:=2) Z$ jz (ju (i:=3) fq.nd Z$ ω Z)$ jz (ju (i:=4) fq.nd Z$ ω Z) kx)$ jg$ kf (jQ Y) (pv 2) (pv 3) (cW.e Y.m$ ja (pv 4)$ ja (pv 2) jb) Z)$ jd (jy 5 fq.nd$ jx$ pv 1)$ jd (jw (jW$ jx$ pv 5) (jg$ jo$ jh$ ja jj$ ja (cW.e Y.m$ ja (jx$ pv 5)$ ja (pv 2) jb) jb) jp)$ jd (@Y4 _ _ _ _ _ _ _ _ _ _ (6) (["name","numbers"]) (1) ([2]) _ _ _ _ fq.nd Z (ω Z) Z (zn$ js j7 (cC.e Y.m$ ja (pv 0)$ ja (jx$ pv 5) jb) jf (λ_ _=>Z)) vg (λ_ _ _ _ _=>(ju (i:=0) vL Z$ ω Z)) (λ_ _ _ _ _=>(@zQ _)) (λ_ _ _ _ _=>(@qy _ _ _ _ _ _ _ _ _ (jQ Y) (pv 1) (pv 0) jf #[Hv,Hv,Hv,Hv])) Hv (by first |exact .inl Z |exact .inr Z) (by intro _;rfl))$ jg$ jo$ jh$ ja jj$ ja (jx$ pv 5)$ ja (jC jH Z m0 LZ$ ja (pv 6) jb) jb),?_];let b0:=aI;obtain⟨wa,sa,ga,ss,wd,u,rfl,W⟩:=xR hw;let R:∀g,aA D H g->ai H g:=λg k b xs e=>k b _ (jE e hd (by intro z;cases z)) e;let h2:=hp.sz;let h3:=wv.len;refine ah λF1 C=>gu λJ j=>(jq W.at' hG #[sa,Z,#[_,aC.of W.sat],j _ _ ?_]);clear j;refine qA (K:=K) (xs:=ss) (EI D [δ v,δ$ .ref wa,δ$ .ref D] O.sets k H) #[_,_,Z,hd,aA.refl] (λi σ g _ h=>?_) ?_ (λσ g h=>C _ _ ?_)
 .obtain⟨_,_,_,_,I⟩:=h;exact aC.of$ R _ I _ _ W.sat
 .intro E _ i x σ H1 hx f0 Gq kq h;obtain⟨o3,o4,rfl,L,I⟩:=h;clear C;obtain⟨s,p,hs,rfl,h0⟩:=W.sets i x hx;let S:=R _ I;let tv:=(wv.sets s$ IA hs).mono S;let g1:GT (bj (O.sets.take i) k):=Jr (H:=H) (ys:=ys) (λs hs=>wv.sets s (Lg hs)) gk;let l1:=XJ (ss:=O.sets.take i) (k:=k);rw[IU]at l1;refine kq ?_;clear kq;refine#[p,_,Z,aC.of$ S _ _ h0,Z,_,_,Z,_,_,Z,Z,?_];refine#[_,Z,_,Z,s.2.1,D,s.2.2,ys,_,Z,.inl tv.1,tv.2.2,tv.2.1,L,g1,_,Z,_,Z,D,_,Z,.inl #[_,.inr s.1,L,Z,Hz,Z],f0 _ _ #[_,_,Z,?_,λc o X e=>by rw[ji X];exact I c o X e]];rw[Z6 hs];exact jc
 .obtain⟨o3,o4,rfl,L,I⟩:=h;rw[W.len,Ln]at L;let S:=R _ I;let g1:GT (bj O.sets k):=Jr (H:=H) (ys:=ys) wv.sets gk;let B:=wv.goal;let a:=W.goal;generalize bj O.sets k=N at L g1 q;refine ah λF1 C=>(jq (S _ _ W.at') iV$ C _ _ ?_);clear C;let G:=S _ _ W.gat;refine ah λF1 C=>nO λG1 k3 k0=>(jq G hG #[Z,_,Z,?_]);let give:∀(t:ε) (T:Tm),wd="give"->u= .ref t->Gy K g T t->di ys T->(∀(u':V) (H9:Hp),aN H9 (a5 [bo "give",aY$ T.ev N]) u' []->aA D H H9->Q u' H9)->G1 (decide$ HV wd=HV "give") g:=by intro t T e1 e2 x1 x2 x3;subst e1;subst e2;rw[IW Z];refine k3 _$ jq G iV #[_,Z,t,D,T,ys,N,Z,x1,x2.2,x2.1,L,g1,bK,λr nr=>?_];exact x3 _ _ (jD jc$ jm Z jM$ jm Z j3 jA) λc o X e=>je nr _ _ (I c o X e)
  cases hg:O.goal with
  |give t T=>rw[hg]at B a q;exact give t T a.1 a.2 (.inl$ B.1.mono S) B.2 q
  |nought=>rw[hg]at a q;exact give U (.num 0) a.1 a.2 (.inr #[Z,no _]) #[#[HA,HA],HA] q
  |go n=>
   rw[hg]at B a q;clear give k3;obtain⟨e1,e2⟩:=a;subst e1;subst e2;let hn:n < (bE U d).length:=by rw[Zf];exact B
   obtain⟨c,hc⟩:∃c,(bE U d)[n]?=δ c:=#[_,Ii hn];let e0:decide (HV "go"=HV "give")=ν:=by decide+kernel
   rw[e0];refine k0 _$ C _ _ ?_;clear k0 C;refine ah λF1 C=>#[_,Z,jq G iV #[v,n,d,ys,c,Z,hp.mono S,hc,λka na w2 dv w3 ca=>#[ka,_,_,_,Z,Z,aC.of ca.at',hG,na,Z,#[_,aC.of ca.nms],?_]]];let cl:=IB (QY ca.v.mem) hp.y20;let q:∀(u:V) (g:Hp),aN g (a5 [bo "go",aY (n:Int),a5 ((dO U d n).map λx=>aY (look N (.inr x) 0))]) u []->aA D H g->Q u g:=q;rw[rQ hc]at q;refine zX (K:=K) (xs:=(canon c.M).map HV) (by rw[Ik];omega) (λi zs Hx=>zs=((canon c.M).take i).map (λx=>HW (look N (.inr x) 0))/\Hx=g) #[Z,Z] (λi zs Hx h=>?_) (λi x zs Hx hx h=>?_) (λzs Hx h l nl=>C _ _ ?_)
   .obtain⟨rfl,rfl⟩:=h;exact#[aC.of ca.nms,by rw[Ik,IU];omega]
   .obtain⟨rfl,rfl⟩:=h;rw[Iv]at hx;obtain⟨y,hy,rfl⟩:=fy.mp hx;refine#[_,Z,D,Z,.inl #[N,.inl L],_,Z,_,a6.k (k:=Sum.inr y) L,?_,Z];rw[qC g1,Mj,hy,IN];rfl
   .obtain⟨rfl,rfl⟩:=h;rw[Ik,Ln];refine(jq (je nl _ _ G) iV #[_,Z,l,_,Z,.inl #[aG.of jc,λtl n0=>#[eA,λr nr=>?_]]]);refine q _ _ (jD jc$ jm Z jM$ jm Z j3$ jm Z (jD (ao jc nr) ?_) jA) λc' o X e=>je nr _ _ (je n0 _ _$ je nl _ _$ I c' o X e);let:=Js (H:=aj (aj (aj Hx l$ .lst ((canon c.M).map (λx=>HW (look N (.inr x) 0)))) tl$ .tup ((canon c.M).map (λx=>HW (look N (.inr x) 0)))) r (.tup [.str "go",.int (n:Int),.ref tl])) (is:=(canon c.M).map λx=>look N (.inr x) 0);rw[LM,LM]at this;exact this
structure lU(H:Hp)(nA:ε)(d:Df)(ys:List π)(v:V)(sa:ε)(n:Nat)(hv:ε)(uw:V)(c:Ct)(is:List Int)(wh:Wh)(e:DD)(wd:WD):Prop where
 prt:nM H nA d ys v
 at':H sa=δ (.tup [.int (n:Int),.ref hv,uw])
 cut:(bE nA d)[n]?=δ c
 hat:H hv=δ (.tup$ is.map HW)
 hl:is.length=(canon c.M).length
 hin:∀i∈is,dG i
 whv:Ag H uw wh
 ed:e.dd=c.d
 dv:xY H ys e
 fit:EK e wh
 way:c.ws[wh.side]?=δ (wd.wy nA)
 wdv:mG H ys d.b.cuts d.b.size wd
theorem lU.mono(k:ai H a)(h:lU H N d y v s n b u c i f e g):lU a N d y v s n b u c i f e g:=
 #[h.prt.mono k,k _ _ h.at',h.cut,k _ _ h.hat,h.hl,h.hin,h.whv.mono k,h.ed,h.dv.mono k,h.fit,h.way,h.wdv.mono k]
noncomputable def FV(n:ε)(d:Df)(c:Ct)(i:List Int)(a:Wh)(e:DD)(W:WD):Tr:=rG (dO n d) (bj W.sets$ oH e a$ aR (canon c.M) i) W.goal
inductive gc(e:ε)(g:List V)(H:Hp)(Q:VK)(a:XK):Prop
 |mk(v:V)(b:ε)(d:Df)(h f:List π)(c:List Int)(w:WD)(_:g=[v,.ref b])(_:nM H e d h v)(_:H d.pa=δ (.tup (f.map HV)))(_:f.length<=100)(_:H b=δ (.tup (c.map HW)))(_:c.length=f.length)(_:∀i∈c,dG i)(_:w.wy e=(fg e d).1.w)(_:mG H h d.b.cuts d.b.size w)(_:∀(u:V) (H':Hp),aN H' (rG (dO e d) (bj w.sets (aR f c)) w.goal) u []->af H H'->Q u H')
inductive tX(g:ε)(j:List V)(H:Hp)(Q:VK)(a:XK):Prop
 |mk(v i:V)(h b:ε)(n:Nat)(d:Df)(m:List π)(c:Ct)(f:List Int)(l:Wh)(e:DD)(k:WD)(_:j=[v,.ref h])(_:lU H g d m v h n b i c f l e k)(_:∀(u:V) (H':Hp),aN H' (FV g d c f l e k) u []->af H H'->Q u H')
theorem pH(h:EK e a)(g:GT k):GT (oH e a k):=by
 unfold oH;split
 .exact g.put _ h
 .exact g.put _ h
 .exact g
theorem ve{e:DD}{wh:Wh}{k:aF}:(oH e wh k).length<=k.length+1:=by
 unfold oH;split
 .exact JA
 .exact JA
 .exact LU _
theorem oX:am ["part","args"] ["part","args"] (ae hZ):=bY
theorem YN(F:aK K "first_of" "first_of" hZ f I)(J:Cl P w K mg base 8 fE L ["part","way","numbers"] (mh T) "end_of")(M:mg "dict"=ζ)(b:mg "zip"=ζ):ak P w K mg base aD 9 f I ["part","args"] (gc T):=by
 refine F.ok oX ?_ λR A O s H vs Q E U h=>?_
 .rintro _ _ _ _ ⟨v,x,d,y,p,is,z,rfl,_⟩;rfl
 obtain⟨v,x,d,y,p,is,z,rfl,C,g,V,i,n,r,t,W,q⟩:=h;refine#[_,(jg$ jo$ J.e U.m$ ja (pv 0)$ ja (jx$ pv 0)$ ja (@Xe _ _ _ _ _ _ _ _ Z M Z b Z (ja (jx$ pv 0)$ ja (pv 1) jb) Hv Hv Hv Hv) jb),?_];obtain⟨a,ca,X,cs,rfl,D,G,Y,h0⟩:=C.parts;rw[<- t]at G;refine#[_,Z,_,Z,a,_,_,_,Z,Z,aC.of D,jN (j:=2) Z,jq D iV #[_,Z,d.pa,x,p.map Sum.inr,_,Z,by rw[Zi];exact aC.of g,aC.of i,by rw[Ik,Ik,n],λl N=>?_]];let S:af H (aj H l$ .dK$ aR p is):=je N;let zl:=Zg (ns:=p) (is:=is);exact#[.ref a,X,l,d,y,z,aR p is,Z,C.mono$ af.tm S,G.mono$ af.tm S,W.mono$ af.tm S,jc,KI r,Hz,λu H' tu k=>q u H' tu λc o e=>k c o (jk e N) (S _ _ e)]
theorem el:am ["part","step","cut","numbers","what","way"] ["part","step"] (ae j'):=bY
theorem Z8{f:ε}{fd:bm}{nA fC fD fF fE:ε}{f0 f3 f4 f5:bm}(F:aK K "onward" "onward" j' f fd)(cC:Cl P w K mg base 1 fC f0 ["part","n"] (ij nA) "cut_at")(cD:Cl P w K mg base 2 fD f3 z12z (il nA) "held_at")(cF:Cl P w K mg base 1 fF f4 ["what"] eE "found_in")(cE:Cl P w K mg base 8 fE f5 ["part","way","numbers"] (mh nA) "end_of"):ak P w K mg base aD 9 f fd ["part","step"] (tX nA):=by
 refine F.ok el ?_ λc0 A o2 s H vs Q E hr h=>?_
 .rintro _ _ _ _ ⟨v,L,Y,hv,n,d,ys,c,is,wh,e,wd,rfl,_⟩;rfl
 obtain⟨v,L,Y,hv,n,d,ys,c,is,wh,e,wd,rfl,C,q⟩:=h;refine#[_,(jd (jy 2 el.nd$ cC.e hr.m$ ja (pv 0)$ ja (jx$ pv 1) jb)$ jd (jy 3 el.nd$ cD.e hr.m$ ja (pv 0)$ ja (jx$ pv 1)$ ja (jx$ pv 1) jb)$ jd (jy 4 el.nd$ jx$ pv 1)$ jd (jw (jB zB (jx$ pv 4) (jh$ ja jj$ ja jj jb) Z) (jg$ kf (jQ hr) (pv 3) (jx$ js j7 (pv 2) jf (λ_ _=>Z)) (cF.e hr.m$ ja (pv 4) jb) Z) jp)$ jd (jy 5 el.nd$ zG (jB (By$ jQ hr) (pv 4) (jh$ ja jj$ ja jf jb)$ au _) (jx$ js j7 (pv 2) jf (λ_ _=>Z))$ jx$ js j7 (pv 2) jf (λ_ _=>Z))$ jg$ jo$ cE.e hr.m$ ja (pv 0)$ ja (pv 5)$ ja (pv 3) jb),?_];let b0:=aI;obtain⟨a,ca,wv,cs,rfl,ha,hw,a0,a1⟩:=C.prt.parts;let h0:=C.at';refine ah λF1 J=>#[_,Z,jq h0 hG #[_,n,d,ys,c,Z,C.prt,C.cut,λka na wa dv w0 cu=>J _ _ ?_]];clear J;refine ah λF1 J=>#[_,Z,jq h0 hG$ jq h0 iV #[_,n,hv,d,ys,c,is,Z,C.prt,C.cut,C.hat,C.hl,λD n0=>J _ _ ?_]];clear J;let s1:af H (aj H D$ .dK$ aR (canon c.M) is):=je n0;let d1:aj H D (.dK$ aR (canon c.M) is) D=δ (.dK$ aR (canon c.M) is):=jc;generalize aj H D (.dK$ aR (canon c.M) is)=H1 at s1 d1;let O:=C.mono (af.tm s1);let g0:GT (aR (canon c.M) is):=KI C.hin;let z0:=Zg (ns:=canon c.M) (is:=is);let z1:=QY cu.v.mem;let z2:=C.prt.y20;generalize h7:aR (canon c.M) is=k0 at d1 g0 z0;refine ah λF1 J=>#[_,Z,Y,_,_,_,Z,Z,aC.of O.at',jN (j:=2) Z,J _ _ ?_];clear J;let o1:FV nA d c is wh e wd=rG (dO nA d) (bj wd.sets$ oH e wh k0) wd.goal:=by unfold FV;rw[h7]
 rw[o1]at q;let h1:=zz cu.ways;rw[Ik]at h1;let G:∃x,w0[wh.side]?=δ x/\aN H (gR$ wd.wy nA) x []:=by
  let hj:wh.side < w0.length:=by rw[h1];exact(τ.mp C.way).1
  obtain⟨tr,ht,tx⟩:=q8 cu.ways wh.side _ (Ii hj);rw[Iv,C.way]at ht;cases ht;exact#[_,Ii hj,tx]
 obtain⟨wx,G,t0⟩:=G;let h4:=cu.at';let h8:=cu.wat;refine ah λF1 J=>?_;let r0:∀(H3:Hp),H3 D=δ (.dK$ oH e wh k0)->aA D H1 H3->F1 [δ$ .ref a,δ$ .ref Y,δ$ .ref ka,δ$ .ref D,δ L,ζ] H3:=by
  intro H3 h3 k3;refine J _ _ ?_;clear J;let s3:af H H3:=λc o x=>k3 c o (jk x n0) (s1 _ _ x);let l3:=ve (e:=e) (wh:=wh) (k:=k0);refine ah λF2 f2=>?_;let f6:∀H4,af H3 H4->F2 [δ$ .ref a,δ$ .ref Y,δ$ .ref ka,δ$ .ref D,δ L,δ wx] H4:=λH4 s4=>f2 _ _ (by
   let S:=s3.trans s4;exact#[_,Z,_,Z,_,Z,.ref a,wx,D,d,ys,wd,_,Z,C.prt.mono$ af.tm S,t0.mono$ af.tm S,C.wdv.mono$ af.tm S,s4 _ _ h3,pH C.fit g0,Hz,λu R tu k=>q u R tu λc o x=>k c o (jk x n0) (S _ _ x)])
  clear f2;let wk:=C.whv.mono (af.tm s3);let dF:∀(H4:Hp) (j:Nat),af H3 H4->w0[j]?=δ wx->dQ (eS K) (dQ (eS K) (aZ 2)$ tC$ .int 2) (tC$ .int (j:Int)) [δ$ .ref a,δ$ .ref Y,δ$ .ref ka,δ$ .ref D,δ L,ζ] H4 λx H5=>F2 ([δ$ .ref a,δ$ .ref Y,δ$ .ref ka,δ$ .ref D,δ L,ζ].set 5 (δ x)) H5:=λH4 j s4 hj=>
   #[_,Z,ka,_,_,_,Z,Z,aC.of ((s3.trans s4) _ _ h4),jN (j:=2) Z,wa,_,_,_,Z,Z,aC.of ((s3.trans s4) _ _ h8),jN hj,f6 H4 s4]
  cases wh with
  |rd a' i |wr a' b=>obtain⟨p,rfl,B⟩:=wk;exact#[_,Z,bK,λt N=>#[p,t,_,_,Z,Z,aC.of$ je N _ _ B,aC.of jc,.inl #[Z,Z,_,Z,aH (by unfold pT;exact OF _)$ dF _ 0 (je N) G]]]
  |ask b=>
   obtain⟨p,rfl,B⟩:=wk;let hb:b=0∨b=1:=by
    let:=C.fit;cases e with
    |st p l=>cases l<;>exact this.elim
    |ask t T=>exact this
   rcases hb with rfl |rfl
   .exact#[_,Z,bK,λt N=>#[p,t,_,_,Z,Z,aC.of$ je N _ _ B,aC.of jc,.inl #[Z,Z,_,Z,bH Hw$ dF _ 1 (je N) G]]]
   .exact#[_,Z,bK,λt N=>#[p,t,_,_,Z,Z,aC.of$ je N _ _ B,aC.of jc,.inl #[Z,Z,_,Z,aH Hw$ dF _ 0 (je N) G]]]
  |cl f' i0 i=>obtain⟨p,c',g,e',rfl,B,h',_⟩:=wk;exact#[_,Z,bK,λt N=>#[p,t,_,_,Z,Z,aC.of$ je N _ _ B,aC.of jc,.inr #[_,c',_,_,_,Z,aC.of$ je N _ _ h',Z,_,Z,aH Z$ dF _ 0 (je N) G]]]
 let wk:=O.whv;let dk:=O.dv;let fk:=O.fit;let h5:=s1 _ _ h4;let d0:=cu.deed;rw[<- C.ed]at d0;let skip:∀(p:ε) (W:π) (r:List V),L= .ref p->H1 p=δ (.tup (.str W::r))->nQ (.str W) [.str "read",.str "call"]=ν->oH e wh k0=k0->iN (iS$ dQ (D6 K ν) (dQ (eS K) (aZ 4)$ tC$ .int 0)$ bJ$ al (tC$ .str "read")$ al (tC$ .str "call") aJ) (sO (aZ 3) (dQ (eS K) (dQ (eS K) (aZ 2)$ tC$ .int 1)$ tC$ .int 1)$ dP eE [] E0$ al (aZ 4) aJ) uq { nx:=F1,rt:=Q } [δ$ .ref a,δ$ .ref Y,δ$ .ref ka,δ$ .ref D,δ L,ζ] H1:=by intro p W r I B e2 e3;subst I;refine nO λG1 k1 k2=>(jq B hG #[bK,λt N=>#[t,_,Z,.inr$ aC.of jc,Z,Z,_,Z,?_]]);show G1 (nQ (.str W) [.str "read",.str "call"]) _;rw[e2];exact k2 _$ r0 _ (by rw[e3];exact ao d1 N) λc o _ x=>je N _ _ x
 let p0:∀(p p':ε) (W:π) (r:List V) (i:Int) (x:π) (y:V) (r':List V),L= .ref p->H1 p=δ (.tup (.str W::r))->nQ (.str W) [.str "read",.str "call"]=μ->dv= .ref p'->H1 p'=δ (.tup (y:: .str x::r'))->(∀R:Hp,af H1 R->Ag R L wh)->(∀(Q':VK) (R:Hp),Q' (.int i) R->p7 Q' R wh)->oH e wh k0=ax k0 (.inr x) (.int i)->iN (iS$ dQ (D6 K ν) (dQ (eS K) (aZ 4)$ tC$ .int 0)$ bJ$ al (tC$ .str "read")$ al (tC$ .str "call") aJ) (sO (aZ 3) (dQ (eS K) (dQ (eS K) (aZ 2)$ tC$ .int 1)$ tC$ .int 1)$ dP eE [] E0$ al (aZ 4) aJ) uq { nx:=F1,rt:=Q } [δ$ .ref a,δ$ .ref Y,δ$ .ref ka,δ$ .ref D,δ L,ζ] H1:=by intro p p' W r i x y r' I B e2 e4 X e5 e6 e3;subst I;subst e4;refine nO λG1 k1 k2=>(jq B hG #[bK,λt N=>#[t,_,Z,.inr$ aC.of jc,Z,Z,_,Z,?_]]);show G1 (nQ (.str W) [.str "read",.str "call"]) _;rw[e2];refine k1 _ #[_,Z,.ref p,wh,Z,e5 _$ je N,e6 _ _ ?_];exact#[_,Z,jq (je N _ _ h5) iV #[p',_,_,_,Z,Z,aC.of$ je N _ _ X,iV,D,_,Z,.inl #[k0,.inr x,ao d1 N,Z,Hz,Z],r0 _ (by rw[e3];exact jc) λc o nc z=>by rw[ji nc];exact je N _ _ z]]
 cases e with
 |ask t T=>
  cases wh with
  |ask b=>obtain⟨p,I,B⟩:=wk;exact skip p _ _ I B Hw Z
  |_=>exact fk.elim
 |st p' l=>
  obtain⟨vs,X,h6,_⟩:=dk;let ed:dv= .ref p':=d0.1;cases l with
  |rd x t T=>
   cases wh with
   |rd b i=>obtain⟨p,I,B⟩:=wk;obtain⟨rfl,_⟩:=h6;exact p0 p p' _ _ i x _ _ I B Hw ed X (λR s'=>#[p,I,s' _ _ B]) (λ_ _ h=>h) Z
   |_=>exact fk.elim
  |wr t u T U=>
   cases wh with
   |wr b i=>obtain⟨p,I,B⟩:=wk;exact skip p _ _ I B Hw Z
   |_=>exact fk.elim
  |cl x f' q' ts=>
   cases wh with
   |cl f2 i1 i=>obtain⟨p,c2,g2,e2,I,B,h2,h3⟩:=wk;obtain⟨rfl,_⟩:=h6;exact p0 p p' _ _ i x _ _ I B Hw ed X (λR s'=>#[p,c2,g2,e2,I,s' _ _ B,s' _ _ h2,s' _ _ h3]) (λ_ _ h=>h) Z
   |_=>exact fk.elim
  |st x t T |gv t T=>cases wh<;>exact fk.elim
abbrev gW:ey:=top 21
abbrev iZ:ey:=top 22
def GJ(k:aF):DD->Tr
 | .st _ (.rd _ _ T)=>a5 [bo "read",aY (T.ev k)]
 | .st _ (.wr _ _ T U)=>a5 [bo "write",aY (T.ev k),aY (U.ev k)]
 | .st _ (.cl _ f _ t)=>a5 [bo "call",bo f,a5 (t.map λc=>aY (c.2.ev k))]
 | .ask _ T=>a5 [bo "ask",aY (if T.ev k=0 then 0 else 1)]
 |_=>.nil
inductive fX(g:ε)(h:List V)(H:Hp)(Q:VK)(a:XK):Prop
 |mk(v:V)(n:Nat)(b:ε)(d:Df)(j:List π)(c:Ct)(f:List Int)(e:DD)(_:h=[v,.int (n:Int),.ref b])(_:nM H g d j v)(_:(bE g d)[n]?=δ c)(_:H b=δ (.tup (f.map HW)))(_:f.length=(canon c.M).length)(_:∀i∈f,dG i)(_:e.dd=c.d)(_:xY H j e)(_:∀(u:V) (H':Hp),aN H' (GJ (aR (canon c.M) f) e) u []->af H H'->Q u H')
inductive gj(f:List V)(H:Hp)(Q:VK)(b:XK):Prop
 |mk(a d:ε)(e:List (ε×Tm))(g:List π)(k:aF)(_:f=[.ref a,.ref d])(_:H a=δ (.tup (e.map λc=>HX c.1)))(_:e.length<=6)(_:∀c∈e,aQ H c.2 c.1/\di g c.2)(_:H d=δ (.dK k))(_:GT k)(_:∀(r:ε) (H':Hp),H' r=δ (.tup (e.map λc=>HW (c.2.ev k)))->af H H'->Q (.ref r) H')
theorem tP:am ["terms","numbers"] ["terms","numbers"] (ae gW):=bY
def YO:sB:=#[.function,[(".0",.local),("term",.local),("worth",.globalImplicit),("numbers",.free)],ν,ν,[]]
theorem vM:(["term","numbers"]:List π).Nodup:=by decide+kernel
theorem vh:bp ["terms","numbers"] (ae gW) YO ["term","numbers"] 1 [1]:=pk
theorem Z9(F:aK K "worths" "worths" gW f v)(C:Cl P w K mg base 7 U B z8z (cy K 6) "worth")(M:mg "tuple"=ζ):ak P w K mg base aD 8 f v ["terms","numbers"] gj:=by
 refine F.ok tP ?_ λG A o s H R Q E I h=>?_
 .rintro _ _ _ _ ⟨a,D,t,g,k,rfl,_⟩;rfl
 obtain⟨a,D,t,g,k,rfl,p,W,b,J,L,q⟩:=h;refine#[_,(jg$ jo$ jC jH Z M LZ$ ja (@zg _ _ _ _ _ _ _ (["term","numbers"]) (1) ([1]) _ _ _ _ Z (zn$ pv 0) vh (λ_ _ _ _ _=>(ju (i:=0) vM Z$ ω Z)) (λ_ _ _ _ _=>(@zQ _)) (λ_ _ _ _ _=>(C.e I.m$ ja (pv 0)$ ja (pv 1) jb)) (by intro _;rfl)) jb),?_];let N:=aI;refine#[_,Z,a,Z,#[_,aC.of p],?_];refine zX (K:=K) (xs:=t.map λc=>HX c.1) (by rw[Ik];omega) (λi z d=>z=(t.take i).map (λc=>HW (c.2.ev k))/\d=H) #[Z,Z] (λi z d h=>?_) (λi x z d r h=>?_) (λz d h l O=>?_)
 .obtain⟨rfl,rfl⟩:=h;exact#[aC.of p,by rw[Ik,IU];omega]
 .obtain⟨rfl,rfl⟩:=h;rw[Iv]at r;obtain⟨y,u,rfl⟩:=fy.mp r;let Y:=IA u;refine#[_,Z,_,Z,y.1,D,y.2,g,k,Z,.inl (b y Y).1,(b y Y).2.2,(b y Y).2.1,J,L,?_,Z];rw[Mj,u,IN];rfl
 .obtain⟨rfl,rfl⟩:=h;rw[Ik,Ln];exact#[l,_,Z,.inl #[aG.of jc,λT n=>q T _ jc ((je O).trans$ je n)]]
theorem fj:am ["part","n","held","numbers","deed","word"] z12z (ae iZ):=bY
theorem oN(F:aK K "deed_at" "deed_at" iZ f fd)(cH:Cl P w K mg base 2 fH f0 z12z (il nA) "held_at")(cC:Cl P w K mg base 1 fC f2 ["part","n"] (ij nA) "cut_at")(cW:Cl P w K mg base 7 fW f3 z8z (cy K 6) "worth")(cS:Cl P w K mg base 8 fS f4 ["terms","numbers"] gj "worths"):ak P w K mg base aD 9 f fd z12z (fX nA):=by
 refine F.ok fj ?_ λc0 A o1 s H vs Q E L h=>?_
 .rintro _ _ _ _ ⟨v,n,hv,d,Y,c,is,e,rfl,_⟩;rfl
 obtain⟨v,n,hv,d,Y,c,is,e,rfl,hp,hc,hh,hl,h0,h1,h2,q⟩:=h;refine#[_,(jd (jy 3 fj.nd$ cH.e L.m$ ja (pv 0)$ ja (pv 1)$ ja (pv 2) jb)$ jd (jy 4 fj.nd$ js j7 (cC.e L.m$ ja (pv 0)$ ja (pv 1) jb) jf (λ_ _=>Z))$ jd (jy 5 fj.nd$ jx$ pv 4)$ jd (jw (jW$ pv 5) (jg$ jo$ jh$ ja (pv 5)$ ja (zG (jB zq (cW.e L.m$ ja (jx$ pv 4)$ ja (pv 3) jb) jf$ au _) jf jf) jb) jp)$ jd (jw (jW$ pv 5) (jg$ jo$ jh$ ja (pv 5)$ ja (jx$ pv 4)$ ja (cS.e L.m$ ja (jx$ pv 4)$ ja (pv 3) jb) jb) jp)$ jd (jw (jW$ pv 5) (jg$ jo$ jh$ ja (pv 5)$ ja (cW.e L.m$ ja (jx$ pv 4)$ ja (pv 3) jb) jb) jp)$ jg$ jo$ jv ky (jh$ ja (pv 5) jb)$ cS.e L.m$ ja (jK qd (pv 4) (jI jf) kL)$ ja (pv 3) jb),?_];let b0:=aI;obtain⟨a,ca,p0,cs,rfl,ha,_,h7,h8⟩:=hp.parts;refine ah λi b=>#[_,Z,_,Z,_,Z,.ref a,n,hv,d,Y,c,is,Z,hp,hc,hh,hl,λC n0=>b _ _ ?_];clear b;let S:af H (aj H C$ .dK$ aR (canon c.M) is):=je n0;let O:aj H C (.dK$ aR (canon c.M) is) C=δ (.dK$ aR (canon c.M) is):=jc;show cR _ _ _ _ (aj H C$ .dK$ aR (canon c.M) is);generalize aj H C (.dK$ aR (canon c.M) is)=H1 at S O;let V:GT (aR (canon c.M) is):=KI h0;generalize aR (canon c.M) is=k at O V q;let dk:=h2.mono (af.tm S);refine ah λi b=>#[_,Z,_,Z,.ref a,n,d,Y,c,Z,hp.mono$ af.tm S,hc,λka na wa dv w0 cu=>#[ka,_,_,_,Z,Z,aC.of cu.at',iV,b _ _ ?_]];clear b;let D:=cu.deed;rw[<- h1]at D;cases e with
 |ask t T=>
  obtain⟨_,p,xs,rfl,g,_,_,y0,z0,rfl,⟨rfl,_⟩,_,_,y1,z1,rfl,⟨rfl,_⟩,e⟩:=D;let e:z1=[]:=e;subst e;refine ah λi b=>(jq g hG$ b _ _ ?_);clear b;refine ah λi b=>#[_,Z,Z,_,Z,bH Hw #[_,Z,jq g iV #[_,Z,t,C,T,Y,k,Z,.inl dk.1,dk.2.2,dk.2.1,O,V,Z,_,Z,?_]]];by_cases z:T.ev k=0
  .refine bH (by rw[z];decide+kernel) #[bK,λr G=>q _ _ (jD jc$ jm Z jM$ jm Z #[?_,Z] jA) (S.trans$ je G)];rw[Iw z]
  .refine aH (by rw[II];intro e;injection e with e;exact z e) #[bK,λr G=>q _ _ (jD jc$ jm Z jM$ jm Z #[?_,Z] jA) (S.trans$ je G)];rw[Iy z]
 |st p l=>
  let ed:dv= .ref p:=D.1;subst ed;obtain⟨vs,g,I,B,h3⟩:=dk;cases l with
  |rd x t T=>obtain⟨rfl,ht⟩:=I;refine ah λi b=>(jq g hG$ b _ _ ?_);clear b;refine ah λi b=>#[_,Z,Z,_,Z,aH Hw$ b _ _ ?_];clear b;refine ah λi b=>#[_,Z,Z,_,Z,aH Hw$ b _ _ ?_];clear b;refine ah λi b=>#[_,Z,Z,_,Z,bH Hw #[_,Z,_,Z,p,_,_,_,Z,Z,aC.of g,jN (j:=2) Z,_,Z,t,C,T,Y,k,Z,.inl ht,B.2.2,B.2.1,O,V,bK,λr G=>?_]];exact q _ _ (jD jc$ jm Z jM$ jm Z j3 jA)$ S.trans$ je G
  |wr t u T U=>
   obtain⟨rfl,ht,hu⟩:=I;refine ah λi b=>(jq g hG$ b _ _ ?_);clear b;refine ah λi b=>#[_,Z,Z,_,Z,aH Hw$ b _ _ ?_];clear b;refine ah λi b=>#[_,Z,Z,_,Z,aH Hw$ b _ _ ?_];clear b;refine ah λi b=>#[_,Z,Z,_,Z,aH Hw$ b _ _ ?_];clear b;refine#[_,Z,gZ,λr1 N=>#[_,Z,1,Z,p,_,Z,je N _ _ g,λr2 H2 J R=>#[_,Z,r2,C,[(t,T),(u,U)],Y,k,Z,J,(by show 2<=6;decide),?_,R _ _$ je N _ _ O,V,λr3 H3 h4 s3=>#[r1,r3,_,_,Z,Z,s3 _ _$ R _ _ jc,h4,eA,λr4 H4 h5 s4=>?_]]]]
   .intro y W;let X:=(je (o:=.tup [.str "write"]) N).trans R;simp only[LJ,IF,NF]at W;rcases W with rfl |rfl
    .exact#[ht.same X,B.1]
    .exact#[hu.same X,B.2]
   .exact q _ _ (jD h5$ jm Z jM$ jm Z j3$ jm Z j3 jA)$ S.trans ((je N).trans$ R.trans$ s3.trans s4)
  |cl x f' qa ts=>obtain⟨rfl,hq,h6⟩:=I;refine ah λi b=>(jq g hG$ b _ _ ?_);clear b;refine ah λi b=>#[_,Z,Z,_,Z,aH Hw$ b _ _ ?_];clear b;let l6:ts.length<=6:=B.2.1;refine ah λi b=>#[_,Z,Z,_,Z,bH Hw #[_,Z,_,Z,p,_,_,_,Z,Z,aC.of g,jN (j:=2) Z,_,Z,p,_,_,_,Z,Z,aC.of g,jN (j:=3) Z,_,Z,qa,C,ts,Y,k,Z,hq,l6,λy W=>#[h6 y W,B.2.2 y W],O,V,λr2 H2 J R=>#[eA,λr G=>?_]]];refine q _ _ (jD jc$ jm Z jM$ jm Z jM$ jm Z (jD (ao J G) ?_) jA)$ S.trans$ R.trans$ je G;let:=Js (H:=aj H2 r (.tup [.str "call",.str f',.ref r2])) (is:=ts.map λc=>c.2.ev k);rw[LM,LM]at this;exact this
  |st x t T |gv t T=>cases h3
abbrev i9:ey:=top 13
abbrev mW:ey:=top 14
abbrev i5:ey:=top 15
abbrev sY:ey:=cn (top 16) 0
abbrev nj:ey:=cn (top 16) 1
abbrev sZ:ey:=cn (top 16) 2
abbrev lr:ey:=top 18
def CQ(H:Hp)(x:V)(g:π):Prop:=∃p r,x= .ref p/\H p=δ (.tup (.str g::r))
inductive lJ(c:List V)(H:Hp)(Q:VK)(b:XK):Prop
 |mk(a:ε)(f:π)(d:List V)(i:Nat)(v:V)(_:c=[.ref a,.str f])(_:H a=δ (.tup d))(_:d[i]?=δ v)(_:CQ H v f)(_:∀j x,j < i->d[j]?=δ x->∃g,CQ H x g/\g≠f)(_:Q v H)
inductive gX(e:List V)(H:Hp)(Q:VK)(b:XK):Prop
 |mk(a g:ε)(f:π)(h k:List V)(i:Nat)(v:V)(p c:ε)(r d:List V)(_:e=[.ref a,.str f,.ref g])(_:H a=δ (.tup h))(_:h[i]?=δ v)(_:v= .ref p)(_:H p=δ (.tup (.str f:: .ref c::r)))(_:H c=δ (.tup d))(_:H g=δ (.tup k))(_:k.length=d.length)(_:∀j x,j < i->h[j]?=δ x->∃g,CQ H x g/\g≠f)(_:Q v H)
def g9(e:List (π×V))(c l p:ε)(m:Int)(t:Nat):List (π×V):=HM (("cells":π),HX c) (HM (("most":π),HW m)$ HM (("left":π),HX l)$ HM (("turns":π),HW (t:Int))$ HM (("parts":π),HX p) e)
structure Tl(ex:List (π×V)):Prop where
 l:ex.length<=10
 t:ex.lookup ("take_turn":π)=ζ
 n:ex.lookup ("number_in":π)=ζ
 c:ex.lookup ("chain_of":π)=ζ
 w:ex.lookup ("what_of":π)=ζ
theorem Tl.nil:Tl []:=#[Is _,Z,Z,Z,Z]
structure Rn(H:Hp)(C r dx:ε)(ex:List (π×V))(cA lA pA:ε)(m:Int)(t:Nat)(L Cs:aF):Prop where
 ins:H r=δ (.ins C dx$ g9 ex cA lA pA m t)
 lf:H lA=δ (.dK L)
 ce:H cA=δ (.dK Cs)
 iL:GT L
 iC:GT Cs
 cl:cA≠lA
 tl:Tl ex
 hm:m<=1000
structure RK(K:Ω)(C:ε):Prop where
 cl:ph K C
 n1:bP K C "cells"
 n2:bP K C "most"
 n3:bP K C "left"
 n4:bP K C "turns"
 n5:bP K C "parts"
inductive gf(C:ε)(i:List V)(H:Hp)(Q:VK)(a:XK):Prop
 |mk(r e:ε)(f:List (π×V))(d g h:ε)(m c:Int)(t:Nat)(L b:aF)(_:i=[.ref r,.int c])(_:Rn H C r e f d g h m t L b)(_:Q (.int (look L (.inl c) (look b (.inl c) 0))) H)
inductive lN(C:ε)(e:List V)(H:Hp)(Q:VK)(a:XK):Prop
 |mk(r c:ε)(d:List (π×V))(b:ε)(m:Int)(_:e=[.ref r,.ref b,.int m])(_:H r=δ (.ins C c []))(_:∀lA,H lA=ζ->Q .non (aj (aj H lA (.dK [])) r (.ins C c [("cells",.ref b),("most",.int m),("left",.ref lA),("turns",.int 0)])))
structure XM(K:Ω)(mg:π->Option η)(x:π)(L:ε):Prop where
 ex:excIn K L oI "ValueError.__new__"=μ
 kp:rs K (.ref L)=μ
 xc:pG K L
 ty:typeIn K (.ref L)=δ (.type "type")
 m:mg x=δ (.ref L)
def NX(o:HO):Prop:=∀a,o≠ .ext a
def Kp(H h:Hp):Prop:=∀b o,NX o->H b=δ o->h b=δ o
theorem Kp.of_same(s:af H h):Kp H h:=λb o _ e=>s _ _ e
theorem Kp.trans(a:Kp H h)(b:Kp h d):Kp H d:=λc o n e=>b c o n (a c o n e)
def nR(E:XK):XK:=λC d H=>∀x T t c,C= .ref c->H x=δ (gI c d T x)->H T=δ (fb T)->H t=ζ->E (.ref c) d (aj (aj H t$ fb t) x$ gI c d t x)
theorem zZ{P:ψ}{w:dg}{K:Ω}{mg:π->Option η}{base:fv}:dy (eZ P w) (fc (eZ P w) P w K mg base N q s f g A o a H E) (nR E):=
 wD λx C d T t i b c e h=>h x T t C Z b c e
theorem Kl{H h:Hp}(e:h b=δ o)(n:NX o)(a:h x=δ (gI C d T x))(c:h t=ζ):aj (aj h t$ fb t) x (gI C d t x) b=δ o:=by
 let N:b≠x:=λz=>by rw[z,a]at e;injection e with e;exact n _ e.symm
 rw[ji N,ji$ jk e c];exact e
def Fl(E:XK)(L:ε)(R:Hp->Prop):Prop:=∀(_:Unit) H,R H->E (.ref L) ζ H
inductive iq(C L:ε)(f:List V)(H:Hp)(Q:VK)(E:XK):Prop
 |mk(r b:ε)(c:List (π×V))(a d e:ε)(m:Int)(t:Nat)(_:f=[.ref r])(_:H r=δ (.ins C b (g9 c a d e m t)))(_:Tl c)(_:(t:Int) < m->Q .non (aj H r (.ins C b (g9 c a d e m (t+1)))))(_:m<=(t:Int)->Fl E L (Kp H))
inductive em(D:ε)(a:List V)(H:Hp)(Q:VK)(E:XK):Prop
 |mk(d:Int)(_:a=[.int d])(_:d < 15->Q (.int (d+1)) H)(_:15<=d->Fl E D (Kp H))
theorem XN{H:Hp}(a:H x=ζ)(N:aj H x (ya L ζ x) T=ζ):af H (aj (aj (aj H x$ ya L ζ x) T$ fb T) x$ gI L d T x):=by intro b o e;let n:b≠x:=jk e a;rw[ji n,ji (λz=>by rw[<- z,ji n,e]at N;cases N),ji n];exact e
theorem ma:am ["ones","f","one"] ["ones","f"] (ae i9):=bY
theorem oQ(F:aK K "named" "named" i9 f D):ak P w K mg base aD 1 f D ["ones","f"] lJ:=by
 refine F.ok ma ?_ λG A o s H W Q E X h=>?_
 .rintro _ _ _ _ ⟨a,f,xs,i,v,rfl,_⟩;rfl
 obtain⟨a,f,xs,i,v,rfl,t,u,L,d,q⟩:=h;refine#[_,(jd (kX IZ Z (zn$ pv 0) (ju (i:=2) ma.nd Z$ ω Z)$ jg$ jw (jB zq (jx$ pv 2) (pv 1)$ au _) (jg$ jo$ pv 2) jp)$ @sG _ _),?_];let M:i < xs.length:=(τ.mp u).1;refine ah λY f1=>gu λJ j=>#[_,Z,a,Z,#[_,aC.of t],j _ _ ?_];clear j;refine qA (K:=K) (xs:=xs) (λk c e=>(∃O,c=[δ$ .ref a,δ$ .str f,O])/\e=H/\k<=i) #[#[_,Z],Z,Is _] (λk c e _ h=>by rw[h.2.1];exact aC.of t) ?_ (λc e h=>?_)
 .intro l R k x c H2 m N I b h;obtain⟨⟨O,rfl⟩,rfl,y⟩:=h;refine b ?_;clear b;by_cases S:k=i
  .subst S;rw[u]at m;cases m;obtain⟨p,r,rfl,n⟩:=id L;show iN _ _ _ l _ _;refine nO λT B C=>(jq n hG #[_,Z,Z,_,Z,?_]);rw[IW (Z:HV f=HV f)];refine B _ ?_;show iw _ l _ _;unfold iw;rw[R];exact#[_,Z,q]
  .obtain⟨g,⟨p,r,rfl,n⟩,U⟩:=d k x Hz m;show iN _ _ _ l _ _;refine nO λT B C=>(jq n hG #[_,Z,Z,_,Z,?_]);rw[II (λz=>U (by injection z))];exact C _$ N _ _ #[#[_,Z],Z,Hz]
 .obtain⟨_,_,y⟩:=h;exact absurd y Hz
theorem tM:am ["parts","f"] ["parts","f"] (ae lr):=bY
theorem oR(F:aK K "part_of" "part_of" lr f c)(C:Cl P w K mg base 1 r d ["ones","f"] lJ "named"):ak P w K mg base aD 2 f c ["parts","f"] lJ:=by
 refine F.ok tM ?_ λg A o s H V Q E j h=>?_
 .rintro _ _ _ _ ⟨a,f,x,i,v,rfl,_⟩;rfl
 obtain⟨a,f,x,i,v,rfl,l,n,p,b,q⟩:=h;refine#[_,(jg$ jo$ C.e j.m$ ja (pv 0)$ ja (pv 1) jb),?_];exact#[_,Z,_,Z,a,f,x,i,v,Z,l,n,p,b,q]
theorem oe:am ["ones","f","args","one"] ["ones","f","args"] (ae mW):=bY
theorem rV(F:aK K "begun" "begun" mW f j)(C:Cl P w K mg base 1 N l ["ones","f"] lJ "named")(M:mg "len"=ζ):ak P w K mg base aD 2 f j ["ones","f","args"] gX:=by
 refine F.ok oe ?_ λn A o s H V Q E t h=>?_
 .rintro _ _ _ _ ⟨a,g,f,x,y,i,v,p,c,r,u,rfl,_⟩;rfl
 obtain⟨a,g,f,x,y,i,v,p,c,r,u,rfl,z,B,rfl,d,D,G,I,J,q⟩:=h;refine#[_,(jd (jy 3 oe.nd$ C.e t.m$ ja (pv 0)$ ja (pv 1) jb)$ jd (jw (jB JV (jS jL Z M LI$ ja (pv 2) jb) (jS jL Z M LI$ ja (jx$ pv 3) jb)$ au _) (@sG _ _) jp)$ jg$ jo$ pv 3),?_];refine ah λL b=>#[_,Z,_,Z,a,f,x,i,.ref p,Z,z,B,#[p,_,Z,d],J,b _ _ ?_];clear b;refine ah λL b=>#[_,Z,g,_,Z,.inr$ aC.of G,jq d iV #[c,_,Z,.inr$ aC.of D,Z,_,Z,aH (by rw[I];simp)$ b _ _ #[_,Z,q]]]
theorem tF:am ["deep"] ["deep"] (ae i5):=bY
theorem oO(F:aK K "deeper" "deeper" i5 f a)(M:mg "DEEPEST"=δ (.int 15 t))(X:XM K mg "TooDeep" D):ak P w K mg base (eZ P w) 1 f a ["deep"] (em D):=by
 refine F.ok1 tF ?_ λC A o s H V Q E g h=>?_
 .rintro _ _ _ _ ⟨d,rfl,_⟩;rfl
 obtain⟨d,rfl,q,e⟩:=h;refine#[_,(jd (jw (jB sq (pv 0) (Jk (v:=.int 15) Z M #[t,Z])$ au _) (jg$ @Xz _ _ _ _ _ Z QO$ @QL _ _ _ _ _ X.ex X.kp Z X.m HA) jp)$ jg$ jo$ jv jT (pv 0) jf),?_];refine ah λi b=>#[_,Z,_,_,Z,Z,_,Z,?_];by_cases c:(15:Int)<=d
 .refine bH (IW c) λx n=>?_;exact#[x,D,ζ,Z,jc,X.xc,X.ty,λT N=>e c () _ (Kp.of_same$ XN n N)]
 .exact aH (II c)$ b _ _ #[_,Z,_,_,Z,Z,q Hz]
theorem Cc:am z25z z25z (ae sY):=bY
theorem wq(F:aK K "__init__" "Turns.__init__" sY f u)(c:RK K C):ak P w K mg base aD 1 f u z25z (lN C):=by
 refine F.ok Cc ?_ λv A o s H V Q E B h=>?_
 .rintro _ _ _ _ ⟨r,D,x,y,m,rfl,_⟩;rfl
 obtain⟨r,D,x,y,m,rfl,uS,q⟩:=h;refine#[_,(jd (@qY _ _ _ _ _ _ _ _ (pv 0) (pv 1) Z)$ jd (@qY _ _ _ _ _ _ _ _ (pv 0) (pv 2) Z)$ jd (@qY _ _ _ _ _ _ _ _ (pv 0) Jy Z)$ jg$ @qY _ _ _ _ _ _ _ _ (pv 0) jf Z),?_];refine ah λi a=>#[_,Z,_,Z,r,C,D,_,Z,uS,c.cl,c.n1,HA,a _ _ ?_];clear a;refine ah λi a=>#[_,Z,_,Z,r,C,D,_,Z,jc,c.cl,c.n2,(by show 1 < 1000;decide),a _ _ ?_];clear a;refine ah λi a=>λl n=>#[_,Z,r,C,D,_,Z,ao jc n,c.cl,c.n3,(by show 2 < 1000;decide),a _ _ ?_];clear a;refine#[_,Z,r,C,D,_,Z,jc,c.cl,c.n4,(by show 3 < 1000;decide),?_];let N:l≠r:=λe=>by rw[e,jc]at n;cases n
 let z:H l=ζ:=by rw[ji N,ji N]at n;exact n
 let e:∀j p t O:HO,aj (aj (aj (aj (aj H r j) r p) l$ .dK []) r t) r O=aj (aj H l$ .dK []) r O:=λj p t O=>by
  funext b;by_cases d:b=r
  .rw[d,jc,jc]
  .rw[ji d,ji d,ji d];by_cases g:b=l
   .rw[g,jc,jc]
   .rw[ji g,ji d,ji d,ji g]
 rw[e];exact q l z
theorem xq:am ["self"] ["self"] (ae nj):=bY
theorem sf(F:aK K "take_turn" "Turns.take_turn" nj f g)(a:RK K C)(X:XM K mg "TooLong" L):ak P w K mg base (eZ P w) 1 f g ["self"] (iq C L):=by
 refine F.ok1 xq ?_ λi A o s H V Q E z h=>?_
 .rintro _ _ _ _ ⟨r,d,b,j,n,p,m,t,rfl,_⟩;rfl
 obtain⟨r,d,b,j,n,p,m,t,rfl,uS,u,q,e⟩:=h;refine#[_,(jd (jw (jB sq (zE (pv 0) Z) (zE (pv 0) Z)$ au _) (jg$ @Xz _ _ _ _ _ Z QO$ @QL _ _ _ _ _ X.ex X.kp Z X.m HA) jp)$ jg$ @ZB _ _ _ _ _ _ _ _ _ _ (pv 0) jf AR),?_];refine ah λB v=>#[_,Z,r,C,d,_,_,Z,uS,a.cl,a.n4,Z,_,Z,r,C,d,_,_,Z,uS,a.cl,a.n2,Z,_,_,Z,Z,_,Z,?_];by_cases c:m<=(t:Int)
 .refine bH (IW c) λx N=>?_;exact#[x,L,ζ,Z,jc,X.xc,X.ty,λT y=>e c () _ (Kp.of_same$ XN N y)]
 .exact aH (II c)$ v _ _ #[_,Z,r,C,d,_,_,Z,uS,a.cl,a.n4,Z,_,_,Z,Z,d,_,uS,(by let:=u.l;show b.length+1+1+1+1+1 < 1000;omega),q Hz]
theorem Cd:am ["self","cell"] ["self","cell"] (ae sZ):=bY
theorem wt(F:aK K "number_in" "Turns.number_in" sZ f p)(b:RK K C):ak P w K mg base aD 1 f p ["self","cell"] (gf C):=by
 refine F.ok Cd ?_ λu A o s H V Q E g h=>?_
 .rintro _ _ _ _ ⟨r,d,x,i,l,y,m,c,t,L,j,rfl,_⟩;rfl
 obtain⟨r,d,x,i,l,y,m,c,t,L,j,rfl,a,q⟩:=h;refine#[_,(jg$ jo$ zG (BM$ @BC _ _ _ _ _ (jQ g) (pv 1)$ zE (pv 0) Z) (ke (jQ g) (zE (pv 0) Z) (pv 1) (λ_ _=>Z))$ @qy _ _ _ _ _ _ _ _ _ (jQ g) (zE (pv 0) Z) (pv 1) jf #[Hv,Hv,Hv,Hv]),?_];refine#[_,Z,_,Z,r,C,d,_,_,Z,a.ins,b.cl,b.n3,Z,l,_,Z,a6.k (k:=.inl c) a.lf,_,Z,?_];cases e:cg L (.inl c) with
 |some v=>refine bH Z #[_,Z,r,C,d,_,_,Z,a.ins,b.cl,b.n3,Z,_,Z,l,v,Z,by rw[<- e];exact a6.k (k:=.inl c) a.lf,?_];rw[Z3 a.iL e$ look j (.inl c) 0];exact q
 |none=>refine aH Z #[_,Z,r,C,d,_,_,Z,a.ins,b.cl,b.n1,Z,i,Z,.inl #[_,.inl a.ce],_,Z,_,a6.k (k:=.inl c) a.ce,?_];rw[qC a.iC];rw[Z4 e]at q;exact q
abbrev sM:ey:=cn (top 28) 0
abbrev wT:ey:=cn (top 28) 1
abbrev wU:ey:=cn (top 28) 2
abbrev BW:ey:=top 29
inductive Sk where
 |nil |st (n:Int) (hs:List Int) (w r:Sk) |ask (b:Int) |rd (c i:Int) |wr (c i:Int) |cl (f:π) (is:List Int) (s:Sk) (a:Int)
def Sk.dep:Sk->Nat
 | .st _ _ w r=>max w.dep r.dep
 | .cl _ _ s _=>s.dep+1
 |_=>0
def Sk.size:Sk->Nat
 | .st _ _ w r=>w.size+r.size+1
 | .cl _ _ s _=>s.size
 |_=>0
def Sk.ok:Bool->Sk->Prop
 |true,.nil=>True
 |true,.st _ _ w r=>w.ok ν/\r.ok μ
 |false,.cl _ _ s _=>s.ok μ
 |false,.ask _=>True
 |false,.rd _ _=>True
 |false,.wr _ _=>True
 |_,_=>False
def iO(H:Hp):Sk->V->List V->Prop
 | .nil,_,x=>x=[]
 | .st n d w r,_,x=>∃p h u y,x= .ref p::y/\H p=δ (.tup [.int n,.ref h,u])/\H h=δ (.tup (d.map HW))/\iO H w u []/\iO H r .non y
 | .ask b,u,_=>∃p,u= .ref p/\H p=δ (.tup [.str "ask",.int b])
 | .rd c i,u,_=>∃p,u= .ref p/\H p=δ (.tup [.str "read",.int c,.int i])
 | .wr c i,u,_=>∃p,u= .ref p/\H p=δ (.tup [.str "write",.int c,.int i])
 | .cl f I s a,u,_=>∃p c g e S,u= .ref p/\H p=δ (.tup [.str "call",.ref c])/\H c=δ (.tup [.str f,.ref g,.ref e,.int a])/\H g=δ (.tup (I.map HW))/\H e=δ (.tup S)/\iO H s .non S
theorem iO.mono(k:ai H i):∀{s:Sk} {u:V} {x:List V},iO H s u x->iO i s u x
 | .nil,_,_,h=>h
 | .st _ _ _ _,_,_,z=>by obtain⟨p,h,u,y,e,a,b,d,f⟩:=z;exact #[p,h,u,y,e,k _ _ a,k _ _ b,iO.mono k d,iO.mono k f]
 | .ask _,_,_,z=>by obtain⟨p,e,h⟩:=z;exact #[p,e,k _ _ h]
 | .rd _ _,_,_,z=>by obtain⟨p,e,h⟩:=z;exact #[p,e,k _ _ h]
 | .wr _ _,_,_,z=>by obtain⟨p,e,h⟩:=z;exact #[p,e,k _ _ h]
 | .cl _ _ _ _,_,_,z=>by obtain⟨p,c,g,e,S,E,a,b,d,f,j⟩:=z;exact #[p,c,g,e,S,E,k _ _ a,k _ _ b,k _ _ d,k _ _ f,iO.mono k j]
def Sk.put(n:Int)(h:List Int)(W:Sk):Sk->Sk
 | .st a b c r=>.st a b c (Sk.put n h W r)
 |_=>.st n h W .nil
theorem yL{H:Hp}{n:Int}{a:List Int}{w:Sk}{p h:ε}{u:V}(b:H p=δ (.tup [.int n,.ref h,u]))(c:H h=δ (.tup$ a.map HW))(d:iO H w u []):∀{s:Sk} {x:List V},s.ok μ->iO H s .non x->iO H (Sk.put n a w s) .non (x++[.ref p])
 | .nil,_,_,e=>by let e:_=[]:=e;rw[e];exact#[p,h,u,[],Z,b,c,d,Z]
 | .st _ _ _ r,_,o,z=>by obtain⟨f,g,U,y,e,i,j,k,l⟩:=z;rw[e];exact#[f,g,U,y++[.ref p],Z,i,j,k,yL b c d o.2 l]
theorem Zj{w:Sk}(h:w.ok ν):∀{s:Sk},s.ok μ->(Sk.put n H w s).ok μ
 | .nil,_=>#[h,trivial]
 | .st _ _ _ _,o=>#[o.1,Zj h o.2]
theorem XO{n:Int}{hs:List Int}{w:Sk}:∀{s:Sk},s.ok μ->(Sk.put n hs w s).size=s.size+(w.size+1)
 | .nil,_=>by show w.size+0+1=0+(w.size+1);omega
 | .st _ _ c r,o=>by let:=XO (n:=n) (hs:=hs) (w:=w) (s:=r) o.2;show c.size+(Sk.put n hs w r).size+1=c.size+r.size+1+(w.size+1);omega
theorem Zk{n:Int}{hs:List Int}{w:Sk}{j:Nat}(H:w.dep<=j):∀{s:Sk},s.ok μ->s.dep<=j->(Sk.put n hs w s).dep<=j
 | .nil,_,_=>by show max w.dep 0<=j;omega
 | .st _ _ c r,o,h=>by let h:max c.dep r.dep<=j:=h;let:=Zk (n:=n) (hs:=hs) H (s:=r) o.2 Hz;show max c.dep (Sk.put n hs w r).dep<=j;omega
theorem Yf:∀{s:Sk} {x:List V},s.ok μ->iO H s .non x->x.length<=s.size
 | .nil,_,_,e=>by let e:_=[]:=e;rw[e];exact Im 0
 | .st _ _ w r,_,o,z=>by obtain⟨_,_,_,y,e,_,_,_,h⟩:=z;let:=Yf o.2 h;rw[e];show y.length+1<=w.size+r.size+1;omega
def xX(H:Hp)(f:π)(i:List Int)(s:Sk)(a:Int)(u:V):Prop:=∃c g e S,u= .ref c/\H c=δ (.tup [.str f,.ref g,.ref e,.int a])/\H g=δ (.tup$ i.map HW)/\H e=δ (.tup S)/\iO H s .non S
def Sk.wh:Sk->Wh
 | .ask b=>.ask b
 | .rd c i=>.rd c i
 | .wr c i=>.wr c i
 | .cl f I _ a=>.cl f I a
 |_=>.ask 0
theorem Gr{s:Sk}(o:s.ok ν)(h:iO H s u []):Ag H u s.wh:=by
 cases s with
 |nil |st=>exact o.elim
 |ask b |rd c i |wr c i=>exact h
 |cl f I s a=>obtain⟨p,c,g,e,S,E,d,j,k,_⟩:=h;exact#[p,c,g,.ref e,E,d,j,k]
inductive Gd where
 |give (a:Int) |go (n:Nat) (hs:List Int)
def de(N:Nat->List π)(k:aF):Gl->Gd
 | .give _ T=>.give (T.ev k)
 | .nought=>.give 0
 | .go n=>.go n ((N n).map λx=>look k (.inr x) 0)
structure Aa where
 nm:List π
 e:DD
 ws:List WD
structure eM where
 f:π
 ps:List π
 way:WD
 cs:List Aa
structure EJ(H:Hp)(ys:List π)(nA:ε)(d:Df)(c:Ct)(cd:Aa):Prop where
 nm:cd.nm=canon c.M
 ed:cd.e.dd=c.d
 dv:xY H ys cd.e
 cs:cd.e.Cs d.b.calls
 len:cd.ws.length=c.ws.length
 ws:∀(j:Nat) (w:Wy) (wd:WD),c.ws[j]?=δ w->cd.ws[j]?=δ wd->wd.wy nA=w/\mG H ys d.b.cuts d.b.size wd
structure yg(H:Hp)(nA:ε)(d:Df)(ys:List π)(pd:eM):Prop where
 f:pd.f=d.f
 ps:H d.pa=δ (.tup$ pd.ps.map HV)
 wy:pd.way.wy nA=(fg nA d).1.w
 wv:mG H ys d.b.cuts d.b.size pd.way
 len:pd.cs.length=(bE nA d).length
 cs:∀(n:Nat) (c:Ct) (cd:Aa),(bE nA d)[n]?=δ c->pd.cs[n]?=δ cd->EJ H ys nA d c cd
theorem EJ.mono(k:ai H f)(h:EJ H y n d c C):EJ f y n d c C:=#[h.nm,h.ed,h.dv.mono k,h.cs,h.len,λj w W a b=>let #[e,v]:=h.ws j w W a b;#[e,v.mono k]]
theorem yg.mono(k:ai H e)(h:yg H N d y p):yg e N d y p:=#[h.f,k _ _ h.ps,h.wy,h.wv.mono k,h.len,λn c C a b=>(h.cs n c C a b).mono k]
def mV(p:eM)(n:Nat):List π:=match p.cs[n]? with
 |some c=>c.nm
 |none=>[]
theorem yg.nms(h:yg H N d y p):dO N d=mV p:=by
 funext n;unfold dO mV;by_cases a:n < p.cs.length
 .let b:n < (bE N d).length:=by rw[<- h.len];exact a
  rw[Ii a,Ii b];exact(h.cs n _ _ (Ii b)$ Ii a).nm.symm
 .rw[Lr$ Nt a,Lr (by rw[<- h.len];exact Nt a)]
inductive OW where
 |ok (w:Sk) (L:aF) (t:Nat) |long |deep
inductive OC where
 |ok (s:Sk) (a:Int) (L:aF) (t:Nat) |long |deep
def OC.cons(n:Int)(h:List Int)(w:Sk):OC->OC
 | .ok s a L t=>.ok (.st n h w s) a L t
 | .long=>.long
 | .deep=>.deep
def Sk.app:Sk->Sk->Sk
 | .st n h w r,s=>.st n h w (r.app s)
 |_,s=>s
def OC.pre(S:Sk):OC->OC
 | .ok s a L t=>.ok (S.app s) a L t
 | .long=>.long
 | .deep=>.deep
theorem XQ:∀{s:Sk},s.ok μ->s.app .nil=s
 | .nil,_=>rfl
 | .st n h w r,o=>by show Sk.st n h w (r.app .nil)=_;rw[XQ o.2]
theorem Zl{w:Sk}:∀{s:Sk},s.ok μ->(Sk.put n h w s).app q=s.app (.st n h w q)
 | .nil,_=>rfl
 | .st a b c r,o=>by show Sk.st a b c ((Sk.put n h w r).app q)=Sk.st a b c (r.app (.st n h w q));rw[Zl o.2]
theorem sF{w s:Sk}(o:OC)(h:s.ok μ):(o.cons n H w).pre s=o.pre (Sk.put n H w s):=by
 cases o with
 |ok q a L t=>show OC.ok (s.app (.st n H w q)) a L t= .ok ((Sk.put n H w s).app q) a L t;rw[Zl h]
 |long |deep=>rfl
abbrev uN:=π->List Int->aF->Nat->OC
def OC.cl(f:π)(i:List Int):OC->OW
 | .ok s a L t=>.ok (.cl f i s a) L t
 | .long=>.long
 | .deep=>.deep
def lT(M:Nat)(call:uN)(C:aF)(k L:aF)(t:Nat)(e:DD):OW:=if t < M then match e with
 | .ask _ T=>.ok (.ask (if T.ev k=0 then 0 else 1)) L (t+1)
 | .st _ (.rd _ _ T)=>.ok (.rd (T.ev k) (look L (.inl (T.ev k)) (look C (.inl (T.ev k)) 0))) L (t+1)
 | .st _ (.wr _ _ T U)=>.ok (.wr (T.ev k) (U.ev k)) (ax L (.inl (T.ev k)) (.int (U.ev k))) (t+1)
 | .st _ (.cl _ f _ a)=>(call f (a.map λc=>c.2.ev k) L (t+1)).cl f (a.map λc=>c.2.ev k)
 |_=>.long
 else .long
theorem Km{call:uN}(h:¬t < M):lT M call C k L t e= .long:=by unfold lT;rw[Iy h]
theorem Q6{call:uN}(h:t < M):lT M call C k L t (.ask p T)= .ok (.ask (if T.ev k=0 then 0 else 1)) L (t+1):=by unfold lT;rw[Iw h]
theorem yj{call:uN}(h:t < M):lT M call C k L t (.st p$ .rd x a T)= .ok (.rd (T.ev k)$ look L (.inl$ T.ev k)$ look C (.inl$ T.ev k) 0) L (t+1):=by unfold lT;rw[Iw h]
theorem yk{call:uN}(h:t < M):lT M call C k L t (.st p$ .wr a b T U)= .ok (.wr (T.ev k)$ U.ev k) (ax L (.inl$ T.ev k)$ .int$ U.ev k) (t+1):=by unfold lT;rw[Iw h]
theorem JZ{call:uN}(h:t < M):lT M call C k L t (.st p$ .cl x f q T)=(call f (T.map λc=>c.2.ev k) L$ t+1).cl f (T.map λc=>c.2.ev k):=by unfold lT;rw[Iw h]
def nS(p:eM)(c:Aa)(h:List Int)(w:Wh):Gd:=match c.ws[w.side]? with
 |some W=>de (mV p) (bj W.sets (oH c.e w (aR c.nm h))) W.goal
 |none=>.give 0
def eI(M:Nat)(call:uN)(C:aF)(p:eM):Nat->Gd->aF->Nat->OC
 |0,_,_,_=>.long
 |_+1,.give a,L,t=>.ok .nil a L t
 |m+1,.go n h,L,t=>match p.cs[n]? with
  |none=>.long
  |some c=>match lT M call C (aR c.nm h) L t c.e with
   | .ok w l T=>(eI M call C p m (nS p c h w.wh) l T).cons (n:Int) h w
   | .long=>.long
   | .deep=>.deep
def dF:List eM->π->Option eM
 | [],_=>ζ
 |p::r,f=>if p.f=f then δ p else dF r f
theorem Zm:∀{b:List eM} {i:Nat} {a:eM},b[i]?=δ a->(∀(j:Nat) (p:eM),j < i->b[j]?=δ p->p.f≠a.f)->dF b a.f=δ a
 | [],i,a,h,_=>by simp at h
 |p::r,0,a,h,_=>by cases h;show(if p.f=p.f then δ p else _)=_;rw[Iw Z]
 |p::r,i+1,a,h,k=>by show(if p.f=a.f then δ p else dF r a.f)=_;rw[Iy$ k 0 p (Nat.succ_pos _) Z];exact Zm (i:=i) (by simpa using h) λj q H c=>k (j+1) q (Nat.succ_lt_succ H) (by simpa using c)
def ba(M:Nat)(p:List eM)(C:aF):Nat->uN
 |0=>λ_ _ _ _=>.deep
 |j+1=>λf i L t=>match dF p f with
  |none=>.long
  |some a=>eI M (ba M p C j) C a (M+2) (de (mV a) (bj a.way.sets (aR a.ps i)) a.way.goal) L t
structure Ps(H:Hp)(nA pA:ε)(ds:List Df)(ns:List Nat)(xs:List V)(pds:List eM):Prop where
 at':H pA=δ (.tup xs)
 tr:aN H (aE$ ds.map$ eN nA) .non xs
 dv:∃zs,bX H ds zs
 ok:iU ds ns
 pa:iz H ds ns
 dl:pds.length=ds.length
 pr:∀(i:Nat) (d:Df) (pd:eM),ds[i]?=δ d->pds[i]?=δ pd->∃ys,(d.b.Ok ys/\ys.length<=20)/\yg H nA d ys pd
theorem Ps.mono(h:Ps H n c D N x p)(k:ai H e):Ps e n c D N x p:=#[k _ _ h.at',h.tr.mono k,let #[f,z]:=h.dv;#[f,z.mono k],h.ok,h.pa.mono k,h.dl,λi d g a b=>let #[Y,y,r]:=h.pr i d g a b;#[Y,y,r.mono k]]
theorem Zn(h:aN H (eN n d) v []):CQ H v d.f:=by obtain⟨_,a,x,rfl,b,_,_,Y,y,rfl,⟨rfl,_⟩,_⟩:=h;exact#[a,_,Z,b]
theorem yn:∀{D:List Df} {z:List V},bX H D z->∀{i:Nat} {d:Df},D[i]?=δ d->∃B,c8 H d.b B
 |_::_,_,q,0,d,a=>by obtain⟨u,r,e,⟨B,_,_,_,h⟩,c⟩:=q;cases a;exact#[B,h]
 |_::_,_,#[u,r,e,_,c],i+1,d,a=>yn c (by simpa using a)
section
variable {H:Hp}{nA pA:ε}{ds:List Df}{ns:List Nat}{xs:List V}{pds:List eM}
theorem Ps.part(h:Ps H nA pA ds ns xs pds){i:Nat}{d:Df}{v:V}(b:ds[i]?=δ d)(q:xs[i]?=δ v):∃y c,nM H nA d y v/\pds[i]?=δ c/\yg H nA d y c/\dF pds d.f=δ c:=by
 obtain⟨T,n,t⟩:=q8 h.tr i v q;rw[Iv,b]at n;cases n;obtain⟨z,r⟩:=h.dv;obtain⟨_,_,s⟩:=(h.ok.1 d$ IA b).1;let u:i < ds.length:=(τ.mp b).1;let g:pds[i]?=δ (pds[i]'(by rw[h.dl];exact u)):=Ii _;obtain⟨y,⟨O,Y⟩,k⟩:=h.pr i d _ b g;refine#[y,_,#[t,yn r b,O,Y,s],g,k,?_];rw[<- k.f];refine Zm g λj p A l e=>?_;let a:j < ds.length:=by omega
 obtain⟨_,_,m⟩:=h.pr j _ p (Ii a) l;rw[m.f,k.f]at e;let x:(ds.map Df.f)[j]?=δ (ds[j]).f:=by rw[Iv,Ii a];rfl
 let o:(ds.map Df.f)[i]?=δ d.f:=by rw[Iv,b];rfl
 rw[<- e]at o;let:=(PU (by rw[Ik];exact a) h.ok.2.1).mp (x.trans o.symm);omega
theorem Ps.cs(h:Ps H nA pA ds ns xs pds){i:Nat}{d:Df}(a:ds[i]?=δ d):∀f∈d.b.calls,f∈(ds.map Df.f).zip ns:=zK (h.ok.1 d$ IA a).2
theorem Ps.at(h:Ps H nA pA ds ns xs pds){i:Nat}{d:Df}(b:ds[i]?=δ d):∃v,xs[i]?=δ v/\aN H (eN nA d) v []/\CQ H v d.f/\∀j x,j < i->xs[j]?=δ x->∃g,CQ H x g/\g≠d.f:=by
 let L:=zz h.tr;rw[Ik]at L;let r:i < ds.length:=(τ.mp b).1;let t:∀(j:Nat) (x:V),xs[j]?=δ x->∃c,ds[j]?=δ c/\aN H (eN nA c) x []:=λj x k=>by obtain⟨s,m,t⟩:=q8 h.tr j x k;rw[Iv]at m;obtain⟨c,a,rfl⟩:=fy.mp m;exact#[c,a,t]
 let n:xs[i]?=δ (xs[i]'Hz):=Ii Hz;obtain⟨c,a,T⟩:=t _ _ n;rw[b]at a;cases a;refine#[_,n,T,Zn T,λj x u k=>?_];obtain⟨c,a,q⟩:=t j x k;refine#[c.f,Zn q,λe=>?_];let o:(ds.map Df.f)[j]?=δ c.f:=by rw[Iv,a];rfl
 let p:(ds.map Df.f)[i]?=δ d.f:=by rw[Iv,b];rfl
 rw[<- e]at p;let l:j < (ds.map Df.f).length:=(τ.mp o).1;let:=(PU l h.ok.2.1).mp (o.trans p.symm);omega
theorem Ps.find(h:Ps H nA pA ds ns xs pds)(a:(f,n)∈(ds.map Df.f).zip ns):∃(i:Nat) (d:Df),ds[i]?=δ d/\ns[i]?=δ n/\d.f=f:=by
 obtain⟨i,b,e⟩:=GE.mp a;let E:((ds.map Df.f).zip ns)[i]?=δ (f,n):=by rw[<- e];exact Ii b
 rw[OM]at E;rw[Iv]at E;obtain⟨d,c,g⟩:=fy.mp E.1;exact#[i,d,c,E.2,g]
end
theorem Rn.tm(h:Rn H C r d E c l p m t L f)(k:aT r l H a):ai H a:=λb x e=>k b _ (jE e h.ins (by intro z;cases z)) (jE e h.lf (by intro z;cases z)) e
theorem Rn.same(h:Rn H C r d e c l p m t L a)(s:af H b):Rn b C r d e c l p m t L a:=#[s _ _ h.ins,s _ _ h.lf,s _ _ h.ce,h.iL,h.iC,h.cl,h.tl,h.hm]
theorem Rn.rl(h:Rn H C r d e c l p m t L a):r≠l/\r≠c:=#[jE h.ins h.lf (by intro z;cases z),jE h.ins h.ce (by intro z;cases z)]
def CP(r l:ε)(H h:Hp):Prop:=∀b o,b≠r->b≠l->NX o->H b=δ o->h b=δ o
theorem Fl.next(h:Fl E L (CP r l H)):Fl (nR E) L (CP r l H):=λd i k x T t c e a j f=>by cases e;exact h d _ λb o N g n e=>Kl (H:=H) (k b o N g n e) n a f
theorem Fl.nextK(h:Fl E L (Kp H)):Fl (nR E) L (Kp H):=λd g k x T t c e a i f=>by cases e;exact h d _ λb o n e=>Kl (H:=H) (k b o n e) n a f
theorem Fl.mono{R S:Hp->Prop}(h:Fl E L R)(k:∀H,S H->R H):Fl E L S:=λd H s=>h d H (k H s)
inductive lK(C:ε)(e:List V)(H:Hp)(Q:VK)(a:XK):Prop
 |mk(r c d b:ε)(m:Int)(_:e=[.ref r,.ref d,.ref b,.int m])(_:H r=δ (.ins C c []))(_:∀lA,H lA=ζ->Q .non (aj (aj H lA (.dK [])) r (.ins C c (g9 [] b lA d m 0))))
def mN(A B:Prop)(E:XK)(T t:ε)(R:Hp->Prop):Prop:=(A->Fl E T R)/\(B->Fl E t R)
theorem mN.mono{R S:Hp->Prop}(h:mN A B E T t R)(k:∀H,S H->R H):mN A B E T t S:=#[λa=>(h.1 a).mono k,λb=>(h.2 b).mono k]
theorem mN.next(h:mN A B E T t (CP r l H)):mN A B (nR E) T t (CP r l H):=#[λa=>(h.1 a).next,λb=>(h.2 b).next]
theorem mN.imp{R:Hp->Prop}(h:mN A B E T t R)(a:c->A)(b:d->B):mN c d E T t R:=#[λx=>h.1 (a x),λx=>h.2 (b x)]
inductive dJ(C g f q:ε)(j:Nat)(x:List V)(H:Hp)(Q:VK)(E:XK):Prop
 |mk(M:Nat)(r m:ε)(n:List (π×V))(k p w h:ε)(b t i:Nat)(L e:aF)(v:V)(d:Df)(l:List Df)(s:List Nat)(y:List V)(c:List eM)(o:List Int)(_:x=[.ref r,v,.ref h,.int (b:Int)])(_:b+j=16)(_:1<=j)(_:Rn H C r m n k p w M t L e)(_:L.length<=t)(_:t<=M)(_:Ps H q w l s y c)(_:l[i]?=δ d)(_:s[i]?=δ o.length)(_:y[i]?=δ v)(_:H h=δ (.tup (o.map HW)))(_:∀z∈o,dG z)(_:∀(u:V) (sk:Sk) (a:Int) (L':aF) (H':Hp),ba M c e j d.f o L t= .ok sk a L' (t+sk.size)->xX H' d.f o sk a u->sk.ok μ->sk.dep+1<=j->dG a->Rn H' C r m n k p w M (t+sk.size) L' e->L'.length<=t+sk.size->t+sk.size<=M->aT r p H H'->Q u H')(_:mN (ba M c e j d.f o L t= .long) (ba M c e j d.f o L t= .deep) E g f (CP r p H))
inductive nG(C f d n:ε)(j:Nat)(q:List V)(H:Hp)(Q:VK)(E:XK):Prop
 |mk(M:Nat)(r i:ε)(l:List (π×V))(g m p:ε)(a t:Nat)(L c k:aF)(u:V)(e:DD)(x:List π)(h:List Df)(o:List Nat)(s:List V)(b:List eM)(_:q=[.ref r,u,.int (a:Int)])(_:a+j=15)(_:Rn H C r i l g m p M t L c)(_:L.length<=t)(_:t<=M)(_:Ps H n p h o s b)(_:aN H (GJ k e) u [])(_:xY H x e)(_:GT k)(_:e.Cs ((h.map Df.f).zip o))(_:∀(w:Sk) (v:V) (L':aF) (H':Hp),lT M (ba M b c j) c k L t e= .ok w L' (t+1+w.size)->iO H' w v []->w.ok ν->EK e w.wh->w.dep<=j->Rn H' C r i l g m p M (t+1+w.size) L' c->L'.length<=t+1+w.size->t+1+w.size<=M->aT r m H H'->Q v H')(_:mN (lT M (ba M b c j) c k L t e= .long) (lT M (ba M b c j) c k L t e= .deep) E f d (CP r m H))
theorem Cb:am z26z z26z (ae sM):=bY
theorem wg(F:aK K "__init__" "BookRun.__init__" sM f p)(i:RK K C)(GT:ak P w K mg base aD 1 t c z25z (lN C))(B:ay K c z25z [])(M:mg "Turns"=δ (.ref T))(u:y9 K T "__init__" t):ak P w K mg base aD 2 f p z26z (lK C):=by
 refine F.ok Cb ?_ λv A o s H V Q E x h=>?_
 .rintro _ _ _ _ ⟨r,d,y,j,m,rfl,_⟩;rfl
 obtain⟨r,d,y,j,m,rfl,uS,q⟩:=h;refine#[_,(jd (jR$ @wE _ _ _ _ _ _ _ _ _ _ _ _ _ _ _ _ _ _ _ _ Z M u GT x.m B .nil bN (ja (pv 0)$ ja (pv 2)$ ja (pv 3) jb) HA Hv Hv Hv)$ jg$ @qY _ _ _ _ _ _ _ _ (pv 0) (pv 1) Z),?_];refine ah λz l=>#[_,Z,_,Z,_,Z,r,d,[],j,m,Z,uS,λL N=>l _ _ ?_];clear l;refine#[_,Z,_,Z,r,C,d,_,Z,jc,i.cl,i.n5,(by show 4 < 1000;decide),?_];let e:∀(g:Hp) (n O:HO),aj (aj g r n) r O=aj g r O:=λg n O=>by
  funext b;by_cases a:b=r
  .rw[a,jc,jc]
  .rw[ji a,ji a,ji a]
 rw[e];exact q L N
theorem Xf(h:aN H (a5 t) u []):∃a x,u= .ref a/\H a=δ (.tup x)/\aN H (aE t) .non x:=let #[_,a,x,e,b,c]:=h;#[a,x,e,b,c]
theorem qe(h:aN H (aE (t::T)) .non x):∃y Y,x=y::Y/\aN H t y []/\aN H (aE T) .non Y:=let #[_,_,y,Y,e,a,b]:=h;#[y,Y,e,a,b]
theorem Zo(h:aN H (bo x) y []):y= .str x:=h.1
theorem Kn(h:aN H (aY n) y []):y= .int n:=h.1
theorem KN:∀{I:List Int} {v:List V},aN H (aE$ I.map aY) .non v->v=I.map HW
 | [],v,h=>h
 |i::I,v,h=>by obtain⟨y,Y,rfl,a,b⟩:=qe h;rw[Kn a,KN b];rfl
theorem Xg{H:Hp}{w:π}{t:List Tr}{u:V}(h:aN H (a5 (bo w::t)) u []):∃a x,u= .ref a/\H a=δ (.tup (.str w::x))/\aN H (aE t) .non x:=by obtain⟨a,x,rfl,b,h⟩:=Xf h;obtain⟨y,Y,rfl,c,d⟩:=qe h;rw[Zo c]at b;exact#[a,Y,Z,b,d]
theorem Q7{H:Hp}{w:π}{i:Int}{u:V}(h:aN H (a5 [bo w,aY i]) u []):∃a,u= .ref a/\H a=δ (.tup [.str w,.int i]):=by obtain⟨a,x,rfl,b,h⟩:=Xg h;obtain⟨y,Y,rfl,c,d⟩:=qe h;let e:Y=[]:=d;rw[Kn c,e]at b;exact#[a,Z,b]
theorem uG{H:Hp}{w:π}{i:Int}{t:Tr}{u:V}(h:aN H (a5 [bo w,aY i,t]) u []):∃a y,u= .ref a/\H a=δ (.tup [.str w,.int i,y])/\aN H t y []:=by obtain⟨a,x,rfl,b,h⟩:=Xg h;obtain⟨y,Y,rfl,c,d⟩:=qe h;obtain⟨z,f,rfl,g,j⟩:=qe d;let e:f=[]:=j;rw[Kn c,e]at b;exact#[a,z,Z,b,g]
theorem Ee:am z20z z20z (ae wU):=bY
theorem Bl(F:aK K "what_of" "BookRun.what_of" wU f fd)(ck:RK K C)(GT:ak P w K mg base (eZ P w) 1 fT f0 ["self"] (iq C TL))(bT:ay K f0 ["self"] [])(m0:cj K C "take_turn" fT)(GI:ak P w K mg base aD 1 fI f2 ["self","cell"] (gf C))(bI:ay K f2 ["self","cell"] [])(m1:cj K C "number_in" fI)(GD:ak P w K mg base (eZ P w) 1 fD f3 ["deep"] (em TD))(bD:ay K f3 ["deep"] [])(kD:rs K (.ref fD)=μ)(mD:mg "deeper"=δ (.ref fD))(cP:Cl P w K mg base 2 fP f6 ["parts","f"] lJ "part_of")(GC:ak P w K mg base (eZ P w) (2*j+12) fC f4 z13z (dJ C TL TD nA j))(bC:ay K f4 z13z [])(m2:cj K C "chain_of" fC):ak P w K mg base (eZ P w) (2*j+13) f fd z20z (nG C TL TD nA j):=by
 refine F.ok1 Ee ?_ λc5 A o2 s H vs Q E hr h=>?_
 .rintro _ _ _ _ ⟨M,r,I,Y,cA,N,W,O,t,L,Cs,k,u,e,ys,ds,ns,xs,p1,rfl,_⟩;rfl
 obtain⟨M,r,I,Y,cA,N,W,O,t,L,Cs,k,u,e,ys,ds,ns,xs,p1,rfl,h4,D,h5,ht,hP,J,h0,hk,h1,q,t0⟩:=h;refine#[_,(jd (jR$ sr (pv 0) ck.cl m0 GT hr.m bT .nil zZ)$ jd (jw (jW$ jx$ pv 1) (jg$ jo$ jh$ ja jj$ ja (jx$ pv 1)$ ja (za (pv 0) ck.cl m1 GI hr.m bI .nil bN$ ja (jx$ pv 1) jb) jb) jp)$ jd (jw (jW$ jx$ pv 1) (jg$ jo$ jh$ ja jj$ ja (za (pv 0) ck.cl m2 GC hr.m bC .nil zZ$ ja (cP.e hr.m$ ja (zE (pv 0) Z)$ ja (jx$ pv 1) jb)$ ja (jx$ pv 1)$ ja (kK GD hr.m Z mD kD bD .nil zZ$ ja (pv 2) jb) jb) jb) jp)$ jd (jw (jW$ jx$ pv 1) (jg$ kf (jQ hr) (zE (pv 0) Z) (jx$ pv 1) (jx$ pv 1) Z) jp)$ jg$ jo$ pv 1),?_];let b0:=aI;let hM:=D.hm;refine ah λF1 B=>#[_,Z,r,I,_,Z,D.ins,D.tl.t,r,I,Y,cA,N,W,M,t,Z,D.ins,D.tl,λlt=>B _ _ ?_,λge=>((t0.1$ Km Hz).mono λH' kk=>λb o _ _ nx e=>kk b o nx e).nextK];clear B;let t1:ai H (aj H r$ .ins C I$ g9 Y cA N W M$ t+1):=λb xs e=>by rw[ji$ jE e D.ins (by intro z;cases z)];exact e
 let R:Rn (aj H r$ .ins C I$ g9 Y cA N W M$ t+1) C r I Y cA N W M (t+1) L Cs:=#[jc,by rw[ji D.rl.1.symm];exact D.lf,by rw[ji D.rl.2.symm];exact D.ce,D.iL,D.iC,D.cl,D.tl,D.hm];let k1:aT r N H (aj H r$ .ins C I$ g9 Y cA N W M$ t+1):=λb o n1 n2 e=>by rw[ji n1];exact e
 generalize aj H r (.ins C I$ g9 Y cA N W M$ t+1)=H1 at t1 R k1;let J:=J.mono t1;let lt':t+1<=M:=by omega
 let f5:∀(w:Sk) (xs:List V) (X:Hp) (v:ε),X v=ζ->iO (aj X v$ .tup xs) w (.ref v) []->w.ok ν->lT M (ba M p1 Cs j) Cs k L t e= .ok w L (t+1)->EK e w.wh->w.size=0->w.dep<=j->H1=X->Q (.ref v) (aj X v$ .tup xs):=λw xs X v nv hw ok eq ft sz dp e2=>by subst e2;exact q w _ L _ (by rw[sz];exact eq) hw ok ft dp (by rw[sz];exact R.same$ je nv) Hz Hz$ k1.trans$ aT.of_same$ je nv
 cases e with
 |ask ta T=>
  obtain⟨p,rfl,G⟩:=Q7 J;refine ah λF1 B=>(jq G Z #[Z,_,Z,aH Hw$ B _ _ ?_]);clear B;refine ah λF1 B=>(jq G Z #[Z,_,Z,aH Hw$ B _ _ ?_]);clear B;refine ah λF1 B=>(jq G Z #[Z,_,Z,aH Hw$ B _ _ ?_]);clear B;refine#[_,Z,q (.ask (if T.ev k=0 then 0 else 1)) _ L _ (Q6 Hz) #[p,Z,G] trivial ?_ (Is _) R (by show L.length<=t+1+0;omega) lt' k1];show(if T.ev k=0 then (0:Int) else 1)=0∨(if T.ev k=0 then (0:Int) else 1)=1;split
  .exact .inl Z
  .exact .inr Z
 |st p0 l=>
  obtain⟨vs,_,h6,o1,c0⟩:=h0;cases l with
  |gv ta T |st x ta T=>cases c0
  |rd x ta T=>obtain⟨p,rfl,G⟩:=Q7 J;refine ah λF1 B=>(jq G Z #[Z,_,Z,bH Hw$ jq G Z #[_,Z,r,I,_,Z,R.ins,R.tl.n,jq G Z #[r,I,Y,cA,N,W,M,_,_,_,_,Z,R,eA,λv nv=>?_]]]);exact f5 (.rd (T.ev k)$ look L (.inl$ T.ev k)$ look Cs (.inl$ T.ev k) 0) _ _ v nv #[v,Z,jc] trivial (yj Hz) (Jq R.iL$ Jq R.iC qK) Z (Is _) Z
  |wr ta ub T U=>
   obtain⟨p,y,rfl,G,hy⟩:=uG J;rw[Kn hy]at G;refine ah λF1 B=>(jq G Z #[Z,_,Z,aH Hw$ B _ _ ?_]);clear B;refine ah λF1 B=>(jq G Z #[Z,_,Z,aH Hw$ B _ _ ?_]);clear B;refine ah λF1 B=>(jq G Z #[Z,_,Z,bH Hw$ jq G Z #[_,Z,r,C,I,_,_,Z,R.ins,ck.cl,ck.n3,Z,jq G Z #[N,_,Z,dU.k (k:=.inl (T.ev k)) R.lf Hz,B _ _ ?_]]]);clear B;let pl:=JA (kvs:=L) (k:=.inl (T.ev k)) (v:=.int (U.ev k));let t3:ai H1 (aj H1 N$ .dK$ ax L (.inl$ T.ev k)$ .int$ U.ev k):=λb xs e=>by rw[ji$ jE e R.lf (by intro z;cases z)];exact e
   refine#[_,Z,q (.wr (T.ev k)$ U.ev k) _ (ax L (.inl$ T.ev k)$ .int$ U.ev k) _ (yk Hz) #[p,Z,t3 _ _ G] trivial trivial (Is _) #[by rw[ji D.rl.1];exact R.ins,jc,by rw[ji D.cl];exact R.ce,R.iL.put _$ zM hk o1.2.1,R.iC,R.cl,R.tl,R.hm] (by show _<=t+1+0;omega) lt' λb o n1 n2 e=>?_];rw[ji n2];exact k1 b o n1 n2 e
  |cl x f q' ts=>
   obtain⟨p,y3,rfl,G,hy⟩:=Xg J;obtain⟨y1,y5,rfl,e1,hy⟩:=qe hy;obtain⟨y2,y0,rfl,e2,hy⟩:=qe hy;let e3:y0=[]:=hy;subst e3;rw[Zo e1]at G;obtain⟨ag,a0,rfl,ha,S⟩:=Xf e2;let S:aN H1 (aE ((ts.map λc=>c.2.ev k).map aY)) .non a0:=by rw[LM];exact S
   rw[KN S]at ha;obtain⟨i,d,hd,hn,rfl⟩:=hP.find h1;let P1:=hP.mono t1;obtain⟨v,hv,_,h2,h3⟩:=P1.at hd;refine ah λF1 B=>(jq G Z #[Z,_,Z,aH Hw$ B _ _ ?_]);clear B;refine ah λF1 B=>(jq G Z #[Z,_,Z,bH Hw ?_]);clear B;refine#[_,Z,r,I,_,Z,R.ins,R.tl.c,_,Z,r,C,I,_,_,Z,R.ins,ck.cl,ck.n5,Z,jq G Z #[W,d.f,xs,i,v,Z,P1.at',hv,h2,h3,jq G Z #[_,Z,(O:Int),Z,λdl=>?_,λdg=>((t0.2 (by let z:j=0:=Hz;rw[JZ Hz,z];rfl)).mono λX kk=>λb o n1 n2 nx e=>kk b o nx (k1 b o n1 n2 e)).nextK]]];refine#[M,r,I,Y,cA,N,W,ag,O+1,t+1,i,L,Cs,v,d,ds,ns,xs,p1,ts.map λc=>c.2.ev k,Z,Hz,Hz,R,Hz,lt',P1,hd,by rw[Ik];exact hn,hv,ha,λz hz=>?_,λu sk a L' X eq hc ok dp ia R2 l2 t2 k2=>?_,mN.next ((t0.imp (λz=>by rw[JZ Hz,z];rfl) (λz=>by rw[JZ Hz,z];rfl)).mono λX kk=>λb o n1 n2 nx e=>kk b o n1 n2 nx (k1 b o n1 n2 e))]
   .obtain⟨c,hc,rfl⟩:=cJ.mp hz;exact zM hk (o1.2.2 c hc).1
   .obtain⟨c,g,ee,ss,rfl,c1,c2,c3,c4⟩:=hc;refine#[bK,λv2 nv=>?_];let s2:af X (aj X v2$ .tup [.str "call",.ref c]):=je nv;refine q (.cl d.f (ts.map λc=>c.2.ev k) sk a) _ L' _ (by rw[JZ Hz,eq];rfl) #[v2,c,g,ee,ss,Z,jc,s2 _ _ c1,s2 _ _ c2,s2 _ _ c3,c4.mono$ af.tm s2] ok ia (by show sk.dep+1<=j;omega) (R2.same s2) l2 t2 ((k1.trans k2).trans$ aT.of_same s2)
theorem Ak:dC (s++[x]) (-1)=δ x:=by
 let l:(s++[x]).length=s.length+1:=by rw[Io];rfl
 unfold dC mQ;rw[l,Iy Hz,Iw Hz];let e:(-1+((s.length+1:Nat):Int)).toNat=s.length:=by omega
 show(s++[x])[(-1+((s.length+1:Nat):Int)).toNat]?=_;rw[e];simp
inductive EL(H:Hp)(nA:ε)(d:Df)(u:V):Gd->Prop
 |give (p:ε) (a:Int) (e:u= .ref p) (h:H p=δ (.tup [.str "give",.int a])) (i:dG a):EL H nA d u (.give a)
 |go (p hv:ε) (n:Nat) (c:Ct) (is:List Int) (e:u= .ref p) (h:H p=δ (.tup [.str "go",.int (n:Int),.ref hv])) (h2:H hv=δ (.tup (is.map HW))) (hc:(bE nA d)[n]?=δ c) (hl:is.length=(canon c.M).length) (hi:∀i∈is,dG i):EL H nA d u (.go n is)
theorem rH{H:Hp}(h:aN f (rG (dO N d) k g) u [])(j:GT k)(l:CZ H Y d.b.cuts g):EL f N d u (de (dO N d) k g):=by
 cases g with
 |give t T=>obtain⟨p,e,h⟩:=Q7 h;exact .give p _ e h (zM j l.2.1)
 |nought=>obtain⟨p,e,h⟩:=Q7 h;exact .give p 0 e h qK
 |go n=>
  obtain⟨p,y,e,h,q⟩:=uG h;obtain⟨a,X,rfl,m,c⟩:=Xf q;let r:n < (bE N d).length:=by rw[Zf];exact l
  let o:(bE N d)[n]?=δ (bE N d)[n]:=Ii r;let c:aN f (aE (((dO N d n).map λx=>look k (.inr x) 0).map aY)) .non X:=by rw[LM];exact c
  rw[KN c]at m;refine .go p a n _ _ e h m o (by rw[Ik,rQ o]) λi s=>?_;obtain⟨x,_,rfl⟩:=cJ.mp s;exact Jq j qK
inductive CI(M:Nat)(a:uN)(N:eM)(h:OC)(C r o:ε)(E:List (π×V))(n G K l P I:ε)(b t j:Nat)(i:aF)(v:V)(d:Df)(H:Hp)(F:Nat)(R:_L.St)(k:Hp):Prop
 |mk(J:Option V)(u:V)(g:Gd)(m:Nat)(O:Sk)(Q:List V)(L:aF)(p:R=[δ (.ref r),δ v,δ (.ref l),δ (.int (b:Int)),δ (.ref P),δ u,J])(q:k P=δ (.lst Q))(s:iO k O .non Q)(w:O.ok μ)(x:O.dep+1<=j)(y:EL k I d u g)(z:Rn k C r o E n G K M (t+O.size) L i)(A:L.length<=t+O.size)(B:t+O.size<=M)(D:aT r G H k)(c:F+t+O.size=M+1)(e:(eI M a i N m g L (t+O.size)).pre O=h)(f:M+2<=m+(t+O.size))
theorem lX:am ["self","part","args","deep","steps","goal","what"] z13z (ae wT):=bY
theorem Bi(F:aK K "chain_of" "BookRun.chain_of" wT f fd)(ck:RK K C)(cF:Cl P w K mg base 9 fF f2 ["part","args"] (gc nA) "first_of")(cD:Cl P w K mg base 9 fD f3 z12z (fX nA) "deed_at")(cO:Cl P w K mg base 9 fO f4 ["part","step"] (tX nA) "onward")(GW:ak P w K mg base (eZ P w) (2*j+13) fW f0 z20z (nG C TL TD nA j))(bW:ay K f0 z20z [])(m0:cj K C "what_of" fW)(m1:mg "tuple"=ζ):ak P w K mg base (eZ P w) (2*j+14) f fd z13z (dJ C TL TD nA$ j+1):=by
 refine F.ok1 lX ?_ λc3 A o2 s H vs Q E hr h=>?_
 .rintro _ _ _ _ ⟨M,r,dx,ex,cA,lA,pA,ag,U,t,i,L,y,v,d,ds,ns,xs,x,is,rfl,_⟩;rfl
 obtain⟨M,r,dx,ex,cA,lA,pA,ag,U,t,i,L,y,v,d,ds,ns,xs,x,is,rfl,b5,_,hR,a0,ht,hP,hd,hn,hv,ha,h3,q,t4⟩:=h;refine#[_,(jd (jy 4 lX.nd$ jG jb)$ jd (jy 5 lX.nd$ cF.e hr.m$ ja (pv 1)$ ja (pv 2) jb)$ jd (KM PassesOwn.leaving (jW$ jx$ pv 5)$ jd (jy 6 lX.nd$ za (pv 0) ck.cl m0 GW hr.m bW .nil zZ$ ja (cD.e hr.m$ ja (pv 1)$ ja (jx$ pv 5)$ ja (jx$ pv 5) jb)$ ja (pv 3) jb)$ jd (jR$ kH mU tf ti jP (pv 4)$ ja (jh$ ja (jx$ pv 5)$ ja (jx$ pv 5)$ ja (pv 6) jb) jb)$ jg$ jy 5 lX.nd$ cO.e hr.m$ ja (pv 1)$ ja (js jr (pv 4) (yI uE jf) (λ_ _=>Z)) jb)$ jg$ jo$ jh$ ja (jx$ pv 1)$ ja (pv 2)$ ja (jC jH Z m1 boot_tuple$ ja (pv 4) jb)$ ja (jx$ pv 5) jb),?_];let b9:=aI;let hM:=hR.hm;obtain⟨ys,g,h1,b',pr,a1⟩:=hP.part hd hv;obtain⟨ps,h4,a2,a3⟩:=hP.pa.2 i d _ hd hn;let e3:ps=g.ps:=by let z:=h4.symm.trans pr.ps;injection z with z;injection z with z;exact(List.map_inj_right λa b e=>by injection e).mp z
 subst e3;let e0:ba M x y (j+1) d.f is L t=eI M (ba M x y j) y g (M+2) (de (mV g) (bj g.way.sets$ aR g.ps is) g.way.goal) L t:=by show(match dF x d.f with |none=>OC.long |some g=>eI M (ba M x y j) y g (M+2) (de (mV g) (bj g.way.sets$ aR g.ps is) g.way.goal) L t)=_;rw[a1]
 generalize ba M x y (j+1) d.f is L t=X at q t4 e0;refine ah λF1 J=>#[pf,λS Y=>J _ _ ?_];clear J;let s1:af H (aj H S$ .lst []):=je Y;let l1:aj H S (.lst []) S=δ (.lst []):=jc;generalize aj H S (.lst [])=H1 at s1 l1 ⊢;let e4:=pr.wy;let h2:=pr.wv;refine ah λF1 J=>#[_,Z,_,Z,v,ag,d,ys,g.ps,is,g.way,Z,h1.mono$ af.tm s1,s1 _ _ h4,Hz,s1 _ _ ha,a2.symm,h3,e4,h2.mono$ af.tm s1,λu H2 hu s2=>J _ _ ?_];clear J;let S2:=s1.trans s2;let gz:GT (aR g.ps is):=KI h3;let g0:=rH (H:=H) hu (Jr h2.sets gz) h2.goal;rw[pr.nms]at g0;let s0:S≠r:=Ne.symm (jk hR.ins Y);let s3:S≠lA:=Ne.symm (jk hR.lf Y);let s9:cA≠S:=jk hR.ce Y;refine ah λF1 J=>?_;refine nJ (CI M (ba M x y j) g X C r dx ex cA lA pA ag S nA U t (j+1) y v d H) (M+1 - t) #[ζ,u,_,M+2,.nil,[],L,Z,s2 _ _ l1,Z,trivial,by show 0+1<=j+1;omega,g0,hR.same S2,a0,ht,aT.of_same S2,by show M+1 - t+t+0=M+1;omega,by rw[e0];show OC.pre .nil (eI M (ba M x y j) y g (M+2) _ L t)=_;cases eI M (ba M x y j) y g (M+2) (de (mV g) (bj g.way.sets$ aR g.ps is) g.way.goal) L t<;>rfl,by show M+2<=M+2+(t+0);omega] ?_;intro kk σ H3 E' rt fE F kT cF.k Gq kq hW;obtain⟨o6,u,gd,m,N,R,L1,rfl,w1,w2,w3,w4,w5,w6,w7,w8,w9,c4,W,c5⟩:=hW;obtain⟨m,rfl⟩:∃m',m=m'+1:=#[m - 1,Hz];let t0:=hR.tm w9;let P3:=hP.mono t0;cases w5 with
 |give p a e h5 ia=>subst e;refine kq$ jq h5 Z #[Z,_,Z,?_];rw[show decide (HV (Str.ofString "give")=HV (Str.ofString "go"))=ν by decide+kernel];refine cF.k _$ J _ _ ?_;obtain⟨pa,ca,wv,cs,e,h7,_⟩:=(h1.mono t0).parts;subst e;refine(jq h7 Z #[_,Z,_,Z,S,R,Z,.inl #[aG.of w1,λl2 n0=>?_]]);let s4:af H3 (aj H3 l2$ .tup R):=je n0;refine(jq (s4 _ _ h5) Z #[uf,λv2 nv=>?_]);let s5:=s4.trans (je (o:=.tup [.str d.f,.ref ag,.ref l2,.int a]) nv);let S5:aT r lA H (aj (aj H3 l2$ .tup R) v2$ .tup [.str d.f,.ref ag,.ref l2,.int a]):=w9.trans (aT.of_same s5);let W:OC.ok (N.app .nil) a L1 (t+N.size)=X:=W;rw[XQ w3]at W;exact q _ N a L1 _ W.symm #[v2,ag,l2,R,Z,jc,hR.tm S5 _ _ ha,ao jc nv,w2.mono$ af.tm s5] w3 w4 ia (w6.same s5) w7 w8 S5
 |go p D n c hs e h5 h6 hc hl hi=>
  subst e;refine kq$ jq h5 Z #[Z,_,Z,?_];rw[show decide (HV (Str.ofString "go")=HV (Str.ofString "go"))=μ by decide+kernel];refine kT _ ?_;clear kT cF.k J;let P0:=h1.mono t0;obtain⟨pa,ca,wv,cs,e9,h7,_,_,a4⟩:=P0.parts;obtain⟨ka,na,wa,dv,c6,_,c1⟩:=P0.cut a4 hc;let a':n < g.cs.length:=by rw[pr.len];exact(τ.mp hc).1
  obtain⟨cd,h8⟩:∃cd,g.cs[n]?=δ cd:=#[_,db a'];let cr:=(pr.cs n c cd hc h8).mono t0;obtain⟨c2,e,c0⟩:=cd;obtain⟨e1,ed,d0,e5,EZ,b0⟩:=cr;let e1:c2=canon c.M:=e1;subst e1;let W:OC.pre N (match g.cs[n]? with
   |none=>OC.long
   |some c=>match lT M (ba M x y j) y (aR c.nm hs) L1 (t+N.size) c.e with
    | .ok w L1 t1=>(eI M (ba M x y j) y g m (nS g c hs w.wh) L1 t1).cons (n:Int) hs w
    | .long=>.long
    | .deep=>.deep)=X:=W
  rw[h8]at W;let W:OC.pre N (match lT M (ba M x y j) y (aR (canon c.M) hs) L1 (t+N.size) e with
    | .ok w L1 t1=>(eI M (ba M x y j) y g m (nS g #[canon c.M,e,c0] hs w.wh) L1 t1).cons (n:Int) hs w
    | .long=>.long
    | .deep=>.deep)=X:=W
  let gk:GT (aR (canon c.M) hs):=KI hi;refine ah λF1 J=>#[_,Z,r,dx,_,Z,w6.ins,w6.tl.w,_,Z,jq h5 Z$ jq h5 Z #[v,n,D,d,ys,c,hs,e,Z,P0,hc,h6,hl,hi,ed,d0,λud H4 b1 s4=>?_]];let t':=t0.trans (af.tm s4);refine#[_,Z,M,r,dx,ex,cA,lA,pA,U,t+N.size,L1,y,aR (canon c.M) hs,ud,e,ys,ds,ns,xs,x,Z,Hz,w6.same s4,w7,w8,hP.mono t',b1,d0.mono$ af.tm s4,gk,?_,λw uw L' H5 e7 hw o1 ft d1 R5 l5 t5 k5=>J _ _ ?_,?_]
  .cases e with
   |ask=>trivial
   |st p0 l=>cases l<;>first |trivial |exact hP.cs hd _ e5
  .clear J;let K5:aT r lA H3 H5:=(aT.of_same s4).trans k5;let t7:ai H3 H5:=w6.tm K5;let g5:=t7 _ _ h5;let w0:H5 S=δ (.lst R):=K5 _ _ s0 s3 w1;let l0:=Yf w3 w2;refine ah λF1 J=>#[_,Z,.inl #[Z,_,aG.of w0],jq g5 Z$ jq g5 Z #[_,Z,eA,λO n3=>?_]];let s6:af H5 (aj H5 O$ .tup [.int (n:Int),.ref D,uw]):=je n3;let e6:aj H5 O (.tup [.int (n:Int),.ref D,uw]) O=δ (.tup [.int (n:Int),.ref D,uw]):=jc;refine#[S,_,_,Z,Z,s6 _ _ w0,Hz,J _ _ ?_];clear J;generalize aj H5 O (.tup [.int (n:Int),.ref D,uw])=H6 at s6 e6;let b7:aA S H6 (aj H6 S$ .lst$ R++[.ref O]):=λb o nb e=>by rw[ji nb];exact e
   let t3:ai H6 (aj H6 S$ .lst$ R++[.ref O]):=λb xs e=>b7 _ _ (jE e (s6 _ _ w0) (by intro z;cases z)) e;let w':aj H6 S (.lst$ R++[.ref O]) S=δ (.lst$ R++[.ref O]):=jc;generalize aj H6 S (.lst$ R++[.ref O])=H7 at b7 t3 w';let t2:ai H5 H7:=λb xs e=>t3 _ _ (s6 _ _ e);let B:ai H3 H7:=t7.trans t2;let G:w.wh.side < c.ws.length:=by
    rw[c1.v.len,<- ed];cases e with
    |ask ta T=>show _ < 2;unfold Wh.side;split<;>(try split)<;>omega
    |st p0 l=>show _ < 1;cases w<;>first |exact Nat.one_pos |exact o1.elim | (cases l<;>exact ft.elim)
   obtain⟨I,h0⟩:∃I,c0[w.wh.side]?=δ I:=#[_,db (by rw[EZ];exact G)];obtain⟨e2,h'⟩:=b0 _ _ I (db G) h0;let sv:lU H7 nA d ys v O n D uw c hs w.wh e I:=#[P0.mono B,t3 _ _ e6,hc,B _ _ h6,hl,hi,(Gr o1 hw).mono t2,ed,d0.mono B,ft,by rw[e2];exact db G,h'.mono B];let b2:dC (R++[HX O]) (-1)=δ (.ref O):=Ak;refine#[_,Z,_,Z,_,Z,S,_,_,_,Z,Z,aG.of w',b2,v,uw,O,D,n,d,ys,c,hs,w.wh,e,I,Z,sv,λu2 H8 b3 s8=>?_];let t8:=af.tm s8;let b4:=B.trans t8;let g1:=rH (H:=H7) b3 (Jr sv.wdv.sets$ pH ft gk) sv.wdv.goal;let e8:nS g #[canon c.M,e,c0] hs w.wh=de (mV g) (bj I.sets$ oH e w.wh$ aR (canon c.M) hs) I.goal:=by show(match c0[w.wh.side]? with |some wd=>de (mV g) (bj wd.sets$ oH e w.wh$ aR (canon c.M) hs) wd.goal |none=>Gd.give 0)=_;rw[h0]
   rw[pr.nms,<- e8]at g1;rw[e7]at W;let W:OC.pre N ((eI M (ba M x y j) y g m (nS g #[canon c.M,e,c0] hs w.wh) L'$ t+N.size+1+w.size).cons (n:Int) hs w)=X:=W;rw[sF _ w3]at W;let s7:=XO (n:=(n:Int)) (hs:=hs) (w:=w) w3;let R7:Rn H7 C r dx ex cA lA pA M (t+N.size+1+w.size) L' y:=#[b7 _ _ (Ne.symm s0)$ s6 _ _ R5.ins,b7 _ _ (Ne.symm s3)$ s6 _ _ R5.lf,b7 _ _ s9$ s6 _ _ R5.ce,R5.iL,R5.iC,R5.cl,R5.tl,R5.hm];let ez:t+N.size+1+w.size=t+(Sk.put (n:Int) hs w N).size:=by rw[s7];omega
   rw[ez]at R7 l5 t5 W;refine fE (kk - (w.size+1)) _ _ Hz #[_,u2,_,m,Sk.put (n:Int) hs w N,R++[.ref O],L',Z,s8 _ _ w',(yL (t3 _ _ e6) (B _ _ h6) (hw.mono t2) w3$ w2.mono B).mono t8,Zj o1 w3,?_,g1,R7.same s8,l5,t5,?_,by rw[s7];omega,W,Hz]
   .let:=Zk (n:=(n:Int)) (hs:=hs) (w:=w) (j:=j) d1 w3 Hz;omega
   .intro b o n1 n2 e;exact s8 _ _$ b7 _ _ (jk e Y)$ s6 _ _$ K5 _ _ n1 n2$ w9 _ _ n1 n2 e
  .exact mN.next ((t4.imp (λz=>by rw[z]at W;exact W.symm) (λz=>by rw[z]at W;exact W.symm)).mono λH5 kk=>λb o n1 n2 nx e=>kk b o n1 n2 nx (s4 _ _$ w9 _ _ n1 n2 e))
inductive ot(f e l:ε)(o:List V)(H:Hp)(Q:VK)(E:XK):Prop
 |mk(M:Nat)(n g h:ε)(i:Nat)(c:aF)(d:Df)(j:List Df)(m:List Nat)(p:List V)(b:List eM)(k:List Int)(_:o=[.ref n,.str d.f,.ref g,.ref h,.int (M:Int)])(_:M<=1000)(_:Ps H l n j m p b)(_:j[i]?=δ d)(_:m[i]?=δ k.length)(_:H g=δ (.tup (k.map HW)))(_:∀z∈k,dG z)(_:H h=δ (.dK c))(_:GT c)(_:∀(u:V) (sk:Sk) (a:Int) (L':aF) (H':Hp),ba M b c 16 d.f k [] 0= .ok sk a L' sk.size->xX H' d.f k sk a u->sk.ok μ->sk.dep<=15->sk.size<=M->af H H'->Q u H')(_:mN (ba M b c 16 d.f k [] 0= .long) (ba M b c 16 d.f k [] 0= .deep) E f e (Kp H))
theorem wC(h:aN H (eN n d) v []):∃p r,v= .ref p/\H p=δ (.tup (.str d.f:: .ref d.pa::r)):=by obtain⟨_,a,x,rfl,b,_,_,c,y,rfl,⟨rfl,_⟩,_,_,e,Y,rfl,⟨rfl,_⟩,_⟩:=h;exact#[a,_,Z,b]
theorem A9:ak P w K mg base (eZ P w) k f c z13z (dJ C T b N 0):=by
 let n:∀{V H Q E},¬dJ C T b N 0 V H Q E:=by rintro V H Q E ⟨M,r,e,g,j,l,m,q,D,t,i,L,u,v,d,x,y,X,p,I,_,_,z,_⟩;omega
 exact#[λV H Q E h=>(n h).elim,λA o s H a U V Q E B F G J h=>(n h).elim]
theorem C7(d:RK K C)(F:aK K "chain_of" "BookRun.chain_of" wT k f)(B:ay K f z13z [])(m:cj K C "chain_of" k)(l:aK K "what_of" "BookRun.what_of" wU D e)(o:ay K e z20z [])(M:cj K C "what_of" D)(p:Cl P w K mg base 9 Q E ["part","args"] (gc n) "first_of")(q:Cl P w K mg base 9 U H z12z (fX n) "deed_at")(r:Cl P w K mg base 9 Y I ["part","step"] (tX n) "onward")(GT:ak P w K mg base (eZ P w) 1 J g ["self"] (iq C T))(s:ay K g ["self"] [])(a:cj K C "take_turn" J)(G:ak P w K mg base aD 1 L h ["self","cell"] (gf C))(t:ay K h ["self","cell"] [])(b:cj K C "number_in" L)(u:ak P w K mg base (eZ P w) 1 v i ["deep"] (em N))(x:ay K i ["deep"] [])(y:rs K (.ref v)=μ)(z:mg "deeper"=δ (.ref v))(A:Cl P w K mg base 2 fP O ["parts","f"] lJ "part_of")(c:mg "tuple"=ζ):∀j,ak P w K mg base (eZ P w) (2*j+12) k f z13z (dJ C T N n j)
 |0=>A9
 |j+1=>Bi F d p q r (Bl l d GT s a G t b u x y z A (C7 d F B m l o M p q r GT s a G t b u x y z A c j) B m) o M c
theorem yS:am ["parts","f","args","cells","most","part"] z28z (ae BW):=bY
theorem Bs(F:aK K "run" "run" BW f fd)(ck:RK K C)(mk:Mk K C fI)(GI:ak P w K mg base aD 2 fI y z26z (lK C))(bI:ay K y z26z [])(mC:mg "BookRun"=δ (.ref C))(cB:Cl P w K mg base 2 fB f0 ["ones","f","args"] gX "begun")(GA:ak P w K mg base (eZ P w) 44 fA B z13z (dJ C TL TD nA 16))(bA:ay K B z13z [])(G:cj K C "chain_of" fA):ak P w K mg base (eZ P w) 45 f fd z28z (ot TL TD nA):=by
 refine F.ok1 yS ?_ λc0 A O s H vs Q E I h=>?_
 .rintro _ _ _ _ ⟨M,g,J,j,i,L,d,ds,ns,X,k,is,rfl,_⟩;rfl
 obtain⟨M,g,J,j,i,L,d,ds,ns,X,k,is,rfl,hM,x,R,hn,ha,T,t,U,q,V⟩:=h;refine#[_,(jd (jy 5 yS.nd$ cB.e I.m$ ja (pv 0)$ ja (pv 1)$ ja (pv 2) jb)$ jg$ jo$ za (Y1 mk GI I.m Z mC bI .nil bN$ ja (pv 0)$ ja (pv 3)$ ja (pv 4) jb) ck.cl G GA I.m bA .nil zZ$ ja (pv 5)$ ja (pv 2)$ ja jf jb),?_];obtain⟨v,hv,tv,h0,W⟩:=x.at R;obtain⟨p,pr,rfl,hp⟩:=wC tv;obtain⟨ps,Y,h1,_⟩:=x.pa.2 i d _ R hn;refine ah λF1 f1=>#[_,Z,_,Z,_,Z,g,J,d.f,X,_,i,.ref p,p,d.pa,pr,_,Z,x.at',hv,Z,hp,Y,ha,by rw[Ik,Ik];omega,W,f1 _ _ ?_];clear f1;refine#[_,Z,_,Z,_,Z,λr D N nd ne=>?_];let s0:af H (aj (aj H D$ .own r) r$ .ins C D []):=λc o e=>by rw[ji$ jk e N,ji$ jk e nd];exact e
 refine#[r,D,g,j,M,Z,jc,λl nl=>#[Z,?_]];let n0:l≠r:=λe=>by rw[e,jc]at nl;cases nl
 let n:H l=ζ:=by
  cases z:H l with
  |none=>rfl
  |some o=>have:=s0 _ _ z;rw[nl]at this;cases this
 let S:af H (aj (aj (aj (aj H D$ .own r) r$ .ins C D []) l$ .dK []) r$ .ins C D$ g9 [] j l g M 0):=λc o e=>by rw[ji$ jk e N,ji$ jk e n];exact s0 _ _ e
 let R1:Rn (aj (aj (aj (aj H D$ .own r) r$ .ins C D []) l$ .dK []) r$ .ins C D$ g9 [] j l g M 0) C r D [] j l g M 0 [] L:=#[jc,by rw[ji n0];exact jc,S _ _ t,GT.nil,U,jk t n,Tl.nil,Hz];generalize aj (aj (aj (aj H D$ .own r) r$ .ins C D []) l$ .dK []) r (.ins C D$ g9 [] j l g M 0)=H1 at S R1;let t0:=af.tm S;refine#[r,D,_,Z,R1.ins,Z,_,Z,_,Z,M,r,D,[],j,l,g,J,0,0,i,[],L,.ref p,d,ds,ns,X,k,is,Z,Z,HA,R1,Im _,Is _,x.mono t0,R,hn,hv,S _ _ ha,T,λu sk a L' H2 eq hc ok dp ia R2 l2 t2 k2=>?_,mN.next$ V.mono λH' kk=>λb o nx e=>kk b o (jk e N) (jk e n) nx (S _ _ e)];exact q u sk a L' H2 (by rw[M5]at eq;exact eq) hc ok Hz Hz λc o e=>k2 c o (jk e N) (jk e n) (S _ _ e)
def iF(T:Tm):Prop:=T.depth < 8/\∃ys,T.Good ys
inductive pE where
 |set (x:π) (T:Tm)
 |rd (x:π) (T:Tm)
 |wr (T U:Tm)
 |cl (x f:π) (ts:List Tm)
 |gv (T:Tm)
inductive bQ where
 |nil
 |lf (l:pE) (r:bQ)
 |ite (T:Tm) (a b r:bQ)
 |loop (T:Tm) (a r:bQ)
def bQ.app:bQ->bQ->bQ
 | .nil,s=>s
 | .lf l r,s=>.lf l (r.app s)
 | .ite T a b r,s=>.ite T a b (r.app s)
 | .loop T a r,s=>.loop T a (r.app s)
def bQ.size:bQ->Nat
 | .nil=>0
 | .lf _ r=>r.size+1
 | .ite _ a b r=>a.size+b.size+r.size+1
 | .loop _ a r=>a.size+r.size+1
def bQ.top:bQ->Nat
 | .nil=>0
 | .lf _ r=>r.top+1
 | .ite _ _ _ r=>r.top+1
 | .loop _ _ r=>r.top+1
def pE.Ok:pE->Prop
 | .set _ T=>iF T
 | .rd _ T=>iF T
 | .wr T U=>iF T/\iF U
 | .cl _ _ ts=>(∀T∈ts,iF T)/\ts.length<=100
 | .gv T=>iF T
def bQ.Ok:bQ->Prop
 | .nil=>True
 | .lf l r=>l.Ok/\r.Ok
 | .ite T a b r=>(iF T/\a.top<=400/\b.top<=400)/\a.Ok/\b.Ok/\r.Ok
 | .loop T a r=>(iF T/\a.top<=400)/\a.Ok/\r.Ok
def iG(H:Hp):List Tm->List V->Prop
 | [],vs=>vs=[]
 |T::ts,vs=>∃p r,vs= .ref p::r/\aQ H T p/\iG H ts r
theorem iG.mono{H H':Hp}(k:ai H H'):∀{ts:List Tm} {vs:List V},iG H ts vs->iG H' ts vs
 | [],_,h=>h
 |_::_,_,z_z=>by obtain⟨p,r,e,h1,h2⟩:=z_z;exact #[p,r,e,h1.mono k,h2.mono k]
theorem iG.len{H:Hp}:∀{ts:List Tm} {vs:List V},iG H ts vs->vs.length=ts.length
 | [],_,h=>by rw[show _=[] from h];rfl
 |_::_,_,z_z=>by obtain⟨p,r,e,h1,h2⟩:=z_z;rw[e,kz,kz,h2.len]
theorem iG.at{H:Hp}:∀{ts:List Tm} {vs:List V},iG H ts vs->∀(i:Nat) (v:V),vs[i]?=δ v->∃T p,ts[i]?=δ T/\v= .ref p/\aQ H T p
 | [],_,h,i,v,hv=>by rw[show _=[] from h]at hv;simp at hv
 |T::_,_,q_q,0,v,hv=>by obtain⟨p,r,e,h1,h2⟩:=q_q;rw[e]at hv;cases hv;exact#[T,p,rfl,rfl,h1]
 |_::ts,_,q_q,i+1,v,hv=>by obtain⟨p,r,e,h1,h2⟩:=q_q;rw[e]at hv;simpa using h2.at i v (by simpa using hv)
def oF(H:Hp)(v:V):pE->Prop
 | .set x T=>∃p t,v= .ref p/\H p=δ (.tup [.str "set",.str x,.ref t])/\aQ H T t
 | .rd x T=>∃p t,v= .ref p/\H p=δ (.tup [.str "read",.str x,.ref t])/\aQ H T t
 | .wr T U=>∃p t u,v= .ref p/\H p=δ (.tup [.str "write",.ref t,.ref u])/\aQ H T t/\aQ H U u
 | .cl x f ts=>∃p q vs,v= .ref p/\H p=δ (.tup [.str "call",.str x,.str f,.ref q])/\H q=δ (.tup vs)/\iG H ts vs
 | .gv T=>∃p t,v= .ref p/\H p=δ (.tup [.str "give",.ref t])/\aQ H T t
theorem oF.mono{H H':Hp}(k:ai H H'){v:V}{s:pE}(h:oF H v s):oF H' v s:=by
 cases s with
 |set x T |rd x T |gv T=>obtain⟨p,t,e,h1,h2⟩:=h;exact#[p,t,e,k _ _ h1,h2.mono k]
 |wr T U=>obtain⟨p,t,u,e,h1,h2,h3⟩:=h;exact#[p,t,u,e,k _ _ h1,h2.mono k,h3.mono k]
 |cl x f ts=>obtain⟨p,q,vs,e,h1,h2,h3⟩:=h;exact#[p,q,vs,e,k _ _ h1,k _ _ h2,h3.mono k]
def dW(H:Hp):bQ->List V->Prop
 | .nil,vs=>vs=[]
 | .lf l r,vs=>∃v ws,vs=v::ws/\oF H v l/\dW H r ws
 | .ite T a b r,vs=>∃p t pa pb as bs ws,vs= .ref p::ws/\H p=δ (.tup [.str "if",.ref t,.ref pa,.ref pb])/\aQ H T t/\H pa=δ (.tup as)/\dW H a as/\H pb=δ (.tup bs)/\dW H b bs/\dW H r ws
 | .loop T a r,vs=>∃p t pa as ws,vs= .ref p::ws/\H p=δ (.tup [.str "while",.ref t,.ref pa])/\aQ H T t/\H pa=δ (.tup as)/\dW H a as/\dW H r ws
theorem dW.mono{H H':Hp}(k:ai H H'):∀{b:bQ} {vs:List V},dW H b vs->dW H' b vs
 | .nil,_,h=>h
 | .lf _ _,_,z_z=>by obtain⟨v,ws,e,h1,h2⟩:=z_z;exact #[v,ws,e,h1.mono k,h2.mono k]
 | .ite _ _ _ _,_,z_z=>by obtain⟨p,t,pa,pb,as,bs,ws,e,h1,h2,h3,h4,h5,h6,h7⟩:=z_z;exact #[p,t,pa,pb,as,bs,ws,e,k _ _ h1,h2.mono k,k _ _ h3,h4.mono k,k _ _ h5,h6.mono k,h7.mono k]
 | .loop _ _ _,_,z_z=>by obtain⟨p,t,pa,as,ws,e,h1,h2,h3,h4,h5⟩:=z_z;exact #[p,t,pa,as,ws,e,k _ _ h1,h2.mono k,k _ _ h3,h4.mono k,h5.mono k]
theorem dW.len{H:Hp}:∀{b:bQ} {vs:List V},dW H b vs->vs.length=b.top
 | .nil,_,h=>by rw[show _=[] from h];rfl
 | .lf _ _,_,z_z=>by obtain⟨v,ws,e,h1,h2⟩:=z_z;rw[e,kz,h2.len];rfl
 | .ite _ _ _ _,_,z_z=>by obtain⟨p,t,pa,pb,as,bs,ws,e,h1,h2,h3,h4,h5,h6,h7⟩:=z_z;rw[e,kz,h7.len];rfl
 | .loop _ _ _,_,z_z=>by obtain⟨p,t,pa,as,ws,e,h1,h2,h3,h4,h5⟩:=z_z;rw[e,kz,h5.len];rfl
structure df where
 f:π
 ps:List π
 body:bQ
def oE(H:Hp)(v:V)(d:df):Prop:=∃p pa pb bs,v= .ref p/\H p=δ (.tup [.str d.f,.ref pa,.ref pb])/\H pa=δ (.tup$ d.ps.map HV)/\H pb=δ (.tup bs)/\dW H d.body bs
theorem oE.mono{H H':Hp}(k:ai H H'){v:V}{d:df}(h:oE H v d):oE H' v d:=by obtain⟨p,pa,pb,bs,e,h1,h2,h3,h4⟩:=h;exact#[p,pa,pb,bs,e,k _ _ h1,k _ _ h2,k _ _ h3,h4.mono k]
def eL(H:Hp):List df->List V->Prop
 | [],vs=>vs=[]
 |d::ds,vs=>∃v r,vs=v::r/\oE H v d/\eL H ds r
theorem eL.mono{H H':Hp}(k:ai H H'):∀{ds:List df} {vs:List V},eL H ds vs->eL H' ds vs
 | [],_,h=>h
 |_::_,_,z_z=>by obtain⟨p,r,e,h1,h2⟩:=z_z;exact #[p,r,e,h1.mono k,h2.mono k]
theorem eL.len{H:Hp}:∀{ds:List df} {vs:List V},eL H ds vs->vs.length=ds.length
 | [],_,h=>by rw[show _=[] from h];rfl
 |_::_,_,z_z=>by obtain⟨p,r,e,h1,h2⟩:=z_z;rw[e,kz,kz,h2.len]
theorem eL.at{H:Hp}:∀{ds:List df} {vs:List V},eL H ds vs->∀(i:Nat) (v:V),vs[i]?=δ v->∃d,ds[i]?=δ d/\oE H v d
 | [],_,h,i,v,hv=>by rw[show _=[] from h]at hv;simp at hv
 |d::_,_,q_q,0,v,hv=>by obtain⟨u,r,e,h1,h4⟩:=q_q;rw[e]at hv;cases hv;exact#[d,rfl,h1]
 |_::ds,_,q_q,i+1,v,hv=>by obtain⟨u,r,e,h1,h4⟩:=q_q;rw[e]at hv;simpa using h4.at i v (by simpa using hv)
def bg(P:List df)(f:π):Option df:=P.find? λd=>decide (d.f=f)
def cf(ps:List π)(is:List Int):aF:=bV [] ((ps.map Sum.inr).zip$ is.map HW)
inductive En where
 |ask (b:Int) |rd (c i:Int) |wr (c i:Int) |cl (f:π) (is:List Int)
abbrev LG:=aF×List En
def LG.ad(L:LG)(e:En):LG:=(L.1,L.2++[e])
def iI:En->Tr
 | .ask b=>a5 [bo "ask",aY b]
 | .rd c i=>a5 [bo "read",aY c,aY i]
 | .wr c i=>a5 [bo "write",aY c,aY i]
 | .cl f is=>a5 [bo "call",bo f,a5 (is.map aY)]
theorem Aw:∀(e:En),(iI e).isL=ν:=λe=>by cases e<;>rfl
def iD(H:Hp)(G:List En)(xs:List V):Prop:=aN H (aE$ G.map iI) .non xs
theorem iD.mono{H H':Hp}{G:List En}{xs:List V}(k:ai H H')(h:iD H G xs):iD H' G xs:=aN.mono k h
theorem iD.len{H:Hp}{G:List En}{xs:List V}(h:iD H G xs):xs.length=G.length:=by let:=zz (show aN H (aE$ G.map iI) .non xs from h);rw[Φ]at this;exact this
theorem iD.app{H:Hp}{G G2:List En}{xs ys:List V}(h:iD H G xs)(h2:iD H G2 ys):iD H (G++G2) (xs++ys):=by unfold iD;rw[va];exact Jp h2 h
theorem iD.one{H:Hp}{e:En}{v:V}(h:aN H (iI e) v []):iD H [e] [v]:=jm (Aw e) h jA
theorem q9{H:Hp}{a:ε}{kvs:aF}{o:HO}(h:H a=δ (.dK kvs)):ai H (aj H a o):=λb xs e=>by rw[ji$ jE e h (by intro z;cases z)];exact e
theorem zh{H:Hp}{a:ε}{ys:List V}{o:HO}(h:H a=δ (.lst ys)):ai H (aj H a o):=λb xs e=>by rw[ji$ jE e h (by intro z;cases z)];exact e
def ye(H:Hp)(L:LG)(t:Nat)(xs:List V):Prop:=iD H L.2 xs/\L.2.length<=t
theorem ye.mono{H H':Hp}{L:LG}{t:Nat}{xs:List V}(k:ai H H')(h:ye H L t xs):ye H' L t xs:=#[h.1.mono k,h.2]
theorem ye.up{H H':Hp}{L:LG}{t t2:Nat}{xs:List V}(h:ye H L t xs)(k:ai H H')(e:t<=t2):ye H' L t2 xs:=#[h.1.mono k,Nat.le_trans h.2 e]
theorem Aj{H:Hp}{p:ε}{b:Int}(h:H p=δ (.tup [.str "ask",.int b])):aN H (iI$ .ask b) (.ref p) []:=jD h (jm rfl jM$ jm rfl j3 jA)
theorem GQ{H:Hp}{p:ε}{c i:Int}(h:H p=δ (.tup [.str "read",.int c,.int i])):aN H (iI$ .rd c i) (.ref p) []:=jD h (jm rfl jM$ jm rfl j3$ jm rfl j3 jA)
theorem GV{H:Hp}{p:ε}{c i:Int}(h:H p=δ (.tup [.str "write",.int c,.int i])):aN H (iI$ .wr c i) (.ref p) []:=jD h (jm rfl jM$ jm rfl j3$ jm rfl j3 jA)
theorem GH{H:Hp}{p g:ε}{f:π}{is:List Int}(h:H p=δ (.tup [.str "call",.str f,.ref g]))(hg:H g=δ (.tup$ is.map HW)):aN H (iI$ .cl f is) (.ref p) []:=jD h (jm rfl jM$ jm rfl jM$ jm rfl (jD hg Js) jA)
inductive iE where
 |done (a:Int) (L:LG) (t:Nat)
 |long
 |deep
def pE.turn:pE->Bool
 | .set _ _=>ν
 | .gv _=>ν
 |_=>μ
inductive Ex(P:List df)(C:aF)(m:Int):Nat->Nat->bQ->aF->LG->Nat->iE->Prop
 |nil {n h L} {t:Nat}:Ex P C m n 0 .nil h L t (.done 0 L t)
 |gv {n T r h L} {t:Nat}:Ex P C m n 0 (.lf (.gv T) r) h L t (.done (T.ev h) L t)
 |set {n k x T r h L o} {t:Nat} (q:Ex P C m n k r (ax h (.inr x) (.int (T.ev h))) L t o):Ex P C m n (k+1) (.lf (.set x T) r) h L t o
 |longL {n l r h L} {t:Nat} (e:l.turn=μ) (g:m<=(t:Int)):Ex P C m n 0 (.lf l r) h L t .long
 |longI {n T a b r h L} {t:Nat} (g:m<=(t:Int)):Ex P C m n 0 (.ite T a b r) h L t .long
 |longW {n T a r h L} {t:Nat} (g:m<=(t:Int)):Ex P C m n 0 (.loop T a r) h L t .long
 |rd {n k x T r h L o} {t:Nat} (g:(t:Int) < m) (q:Ex P C m n k r (ax h (.inr x) (.int (look L.1 (.inl (T.ev h)) (look C (.inl (T.ev h)) 0)))) (L.ad (.rd (T.ev h) (look L.1 (.inl (T.ev h)) (look C (.inl (T.ev h)) 0)))) (t+1) o):Ex P C m n (k+1) (.lf (.rd x T) r) h L t o
 |wr {n k T U r h L o} {t:Nat} (g:(t:Int) < m) (q:Ex P C m n k r h (ax L.1 (.inl (T.ev h)) (.int (U.ev h)),L.2++[.wr (T.ev h) (U.ev h)]) (t+1) o):Ex P C m n (k+1) (.lf (.wr T U) r) h L t o
 |ite {n k T a b r h L o} {t:Nat} (g:(t:Int) < m) (q:Ex P C m n k ((if T.ev h=0 then b else a).app r) h (L.ad (.ask (if T.ev h=0 then 0 else 1))) (t+1) o):Ex P C m n (k+1) (.ite T a b r) h L t o
 |loop1 {n k T a r h L o} {t:Nat} (g:(t:Int) < m) (e:T.ev h≠0) (q:Ex P C m n k (a.app (.loop T a r)) h (L.ad (.ask (if T.ev h=0 then 0 else 1))) (t+1) o):Ex P C m n (k+1) (.loop T a r) h L t o
 |loop0 {n k T a r h L o} {t:Nat} (g:(t:Int) < m) (e:T.ev h=0) (q:Ex P C m n k r h (L.ad (.ask (if T.ev h=0 then 0 else 1))) (t+1) o):Ex P C m n (k+1) (.loop T a r) h L t o
 |cl {n k1 k x f ts r h L d a L1 t1 o} {t:Nat} (g:(t:Int) < m) (hf:bg P f=δ d) (hl:d.ps.length=ts.length) (hk:k1<=130000) (c:Ex P C m n k1 d.body (cf d.ps (ts.map (Tm.ev h))) (L.ad (.cl f (ts.map (Tm.ev h)))) (t+1) (.done a L1 t1)) (q:Ex P C m (n+1) k r (ax h (.inr x) (.int a)) L1 t1 o):Ex P C m (n+1) (k+1) (.lf (.cl x f ts) r) h L t o
 |clL {n k1 x f ts r h L d} {t:Nat} (g:(t:Int) < m) (hf:bg P f=δ d) (hl:d.ps.length=ts.length) (hk:k1<=130000) (c:Ex P C m n k1 d.body (cf d.ps (ts.map (Tm.ev h))) (L.ad (.cl f (ts.map (Tm.ev h)))) (t+1) .long):Ex P C m (n+1) 0 (.lf (.cl x f ts) r) h L t .long
 |clD {n k1 x f ts r h L d} {t:Nat} (g:(t:Int) < m) (hf:bg P f=δ d) (hl:d.ps.length=ts.length) (hk:k1<=130000) (c:Ex P C m n k1 d.body (cf d.ps (ts.map (Tm.ev h))) (L.ad (.cl f (ts.map (Tm.ev h)))) (t+1) .deep):Ex P C m (n+1) 0 (.lf (.cl x f ts) r) h L t .deep
 |deep {x f ts r h L} {t:Nat} (g:(t:Int) < m):Ex P C m 0 0 (.lf (.cl x f ts) r) h L t .deep
theorem zN(kvs:aF)(k:bq)(v:V):(ax kvs k v).length<=kvs.length+1:=by
 unfold ax;split
 .rw[Φ];exact Nat.le_succ _
 .rw[fz];exact β _
end _K
namespace _K
open PySem PySem.Spec PyProof.Rows _L
variable {P:ψ}{w:dg}{K:Ω}{mg:π->Option η}{base:fv}
def Lf.er:Lf->pE
 | .rd x _ T=>.rd x T
 | .st x _ T=>.set x T
 | .wr _ _ T U=>.wr T U
 | .cl x f _ ts=>.cl x f (ts.map (·.2))
 | .gv _ T=>.gv T
def Bd.er:Bd->bQ
 | .nil=>.nil
 | .lf _ l r=>.lf l.er r.er
 | .ite _ _ T a b r=>.ite T a.er b.er r.er
 | .loop _ _ T a r=>.loop T a.er r.er
theorem JP:∀(a b:Bd),(a.app b).er=a.er.app b.er
 | .nil,_=>rfl
 | .lf _ l r,b=>by show bQ.lf l.er (r.app b).er=bQ.lf l.er (r.er.app b.er);rw[JP r b]
 | .ite _ _ T x y r,b=>by show bQ.ite T x.er y.er (r.app b).er=bQ.ite T x.er y.er (r.er.app b.er);rw[JP r b]
 | .loop _ _ T x r,b=>by show bQ.loop T x.er (r.app b).er=bQ.loop T x.er (r.er.app b.er);rw[JP r b]
structure gO where
 M:π->Prop
 w:WD
structure dt where
 M:π->Prop
 e:DD
 ws:List WD
noncomputable def dt.cd(c:dt):Aa:={ nm:=canon c.M,e:=c.e,ws:=c.ws }
open Classical in
noncomputable def md(x:π)(t:ε)(T:Tm)(pc:gO):WD:=if pc.M x then #[(x,t,T)::pc.w.sets,pc.w.goal] else pc.w
noncomputable def CU(m:Nat)(p:ε)(l:Lf)(q:gO×List dt):gO×List dt:=match l with
 | .gv t T=>(#[λx=>x∈T.vars,#[[],.give t T]],q.2)
 | .st x t T=>(#[(Lf.st x t T).use q.1.M,md x t T q.1],q.2)
 | .rd x t T=>(#[(Lf.rd x t T).use q.1.M,#[[],.go (m - q.2.length - 1)]],q.2++[#[(Lf.rd x t T).use q.1.M,.st p (.rd x t T),[q.1.w]]])
 | .wr t u T U=>(#[(Lf.wr t u T U).use q.1.M,#[[],.go (m - q.2.length - 1)]],q.2++[#[(Lf.wr t u T U).use q.1.M,.st p (.wr t u T U),[q.1.w]]])
 | .cl x f a ts=>(#[(Lf.cl x f a ts).use q.1.M,#[[],.go (m - q.2.length - 1)]],q.2++[#[(Lf.cl x f a ts).use q.1.M,.st p (.cl x f a ts),[q.1.w]]])
noncomputable def aM(m:Nat):Bd->gO->List dt->gO×List dt
 | .nil,pc,fs=>(pc,fs)
 | .lf p l r,pc,fs=>CU m p l (aM m r pc fs)
 | .ite p t T a b r,pc,fs=>
  let q:=aM m r pc fs
  let o:=aM m b q.1 q.2
  let s:=aM m a q.1 o.2
  (#[(Bd.ite p t T a b .nil).use q.1.M,#[[],.go$ m - q.2.length - (Bd.ite p t T a b .nil).cuts]],s.2++[#[(Bd.ite p t T a b .nil).use q.1.M,.ask t T,[s.1.w,o.1.w]]])
 | .loop p t T a r,pc,fs=>
  let q:=aM m r pc fs
  let pl:gO:=#[(Bd.loop p t T a .nil).use q.1.M,#[[],.go$ m - q.2.length - (Bd.loop p t T a .nil).cuts]]
  let s:=aM m a pl q.2
  (pl,s.2++[#[(Bd.loop p t T a .nil).use q.1.M,.ask t T,[s.1.w,q.1.w]]])
theorem jV(m:Nat):∀(b:Bd) (pc:gO) (fs:List dt),(aM m b pc fs).2.length=fs.length+b.cuts
 | .nil,_,_=>rfl
 | .lf p l r,pc,fs=>by let e:=jV m r pc fs;cases l<;>simp [aM,CU,e,Bd.cuts,Lf.cut]<;>omega
 | .ite p t T a b r,pc,fs=>by let e1:=jV m r pc fs;let e2:=jV m b (aM m r pc fs).1 (aM m r pc fs).2;let e3:=jV m a (aM m r pc fs).1 (aM m b (aM m r pc fs).1 (aM m r pc fs).2).2;simp [aM,Bd.cuts,e1,e2,e3];omega
 | .loop p t T a r,pc,fs=>by let e1:=jV m r pc fs;let e3:=λpl=>jV m a pl (aM m r pc fs).2;simp [aM,Bd.cuts,e1,e3];omega
theorem QA(m:Nat):∀(b:Bd) (pc:gO) (fs:List dt),(aM m b pc fs).1.M=b.use pc.M
 | .nil,_,_=>rfl
 | .lf p l r,pc,fs=>by
  let e:=QA m r pc fs;cases l with
  |gv t T=>rfl
  |rd x t T=>show(Lf.rd x t T).use (aM m r pc fs).1.M=_;rw[e];rfl
  |st x t T=>show(Lf.st x t T).use (aM m r pc fs).1.M=_;rw[e];rfl
  |wr t u T U=>show(Lf.wr t u T U).use (aM m r pc fs).1.M=_;rw[e];rfl
  |cl x f a ts=>show(Lf.cl x f a ts).use (aM m r pc fs).1.M=_;rw[e];rfl
 | .ite p t T a b r,pc,fs=>by let e:=QA m r pc fs;simp [aM,e,Bd.use]
 | .loop p t T a r,pc,fs=>by let e:=QA m r pc fs;simp [aM,e,Bd.use]
theorem JQ:∀(b:Bd) {M N:π->Prop} {y:π},(M y->N y)->b.use M y->b.use N y
 | .nil,_,_,_,h,z=>h z
 | .lf p l r,M,N,y,h,z=>by
  let ih:=JQ r h;cases l with
  |rd x t T |st x t T |cl x f a ts=>exact z.imp (λu=>#[ih u.1,u.2]) id
  |wr t u T U=>exact z.imp ih id
  |gv t T=>exact z
 | .ite p t T a b r,M,N,y,h,z=>by let ih:=JQ r h;exact z.imp (λu=>u.imp (JQ a ih) (JQ b ih)) id
 | .loop p t T a r,M,N,y,h,z=>z.imp (λu=>u.imp id (JQ r h)) id
theorem CF(b:Bd){M:π->Prop}{y:π}(z:b.use M y):b.use (λ_=>False) y∨M y:=by
 by_cases h:M y
 .exact .inr h
 .exact .inl$ JQ b (λu=>h u) z
def At(G:List dt)(m:Nat):Nat->Bd->gO->Prop
 |0,_,_=>True
 |k+1,b,pc=>match b with
  | .nil=>pc.w.sets=[]/\pc.w.goal= .nought
  | .lf p l r=>match l with
   | .gv t T=>pc.w=#[[],.give t T]/\∀y∈T.vars,pc.M y
   | .st x t T=>∃q,At G m k r q/\pc.w=md x t T q/\pc.M=(Lf.st x t T).use q.M
   |l=>∃q i,At G m k r q/\pc.w=#[[],.go (m - i - 1)]/\i < m/\G[i]?=δ #[pc.M,.st p l,[q.w]]/\pc.M=l.use q.M
  | .ite p t T a c r=>∃qa qb i,At G m k (a.app r) qa/\At G m k (c.app r) qb/\pc.w=#[[],.go (m - i - 1)]/\i < m/\G[i]?=δ #[pc.M,.ask t T,[qa.w,qb.w]]/\(∀y∈T.vars,pc.M y)/\(∀y,qa.M y->pc.M y)/\∀y,qb.M y->pc.M y
  | .loop p t T a r=>∃qa qb i,At G m k (a.app (.loop p t T a r)) qa/\At G m k r qb/\pc.w=#[[],.go (m - i - 1)]/\i < m/\G[i]?=δ #[pc.M,.ask t T,[qa.w,qb.w]]/\(∀y∈T.vars,pc.M y)/\(∀y,qa.M y->pc.M y)/\∀y,qb.M y->pc.M y
theorem zA(m:Nat):∀(b:Bd) (pc:gO) (fs:List dt),fs <+:(aM m b pc fs).2
 | .nil,_,_=>List.prefix_rfl
 | .lf p l r,pc,fs=>by
  let e:=zA m r pc fs;cases l with
  |gv t T |st x t T=>exact e
  |rd x t T |wr t u T U |cl x f a ts=>exact e.trans (ri _ _)
 | .ite p t T a b r,pc,fs=>((zA m r pc fs).trans (zA m b _ _)).trans ((zA m a _ _).trans (ri _ _))
 | .loop p t T a r,pc,fs=>((zA m r pc fs).trans (zA m a _ _)).trans (ri _ _)
theorem KO{fs G:List dt}{c:dt}(h:fs++[c] <+:G):G[fs.length]?=δ c:=by obtain⟨r,rfl⟩:=h;rw[ic,List.getElem?_append_right$ β _,Nat.sub_self];rfl
theorem Kv{G:List dt}{m:Nat}(hm:G.length=m):∀(b:Bd) (k:Nat) (pc:gO) (fs:List dt) (rest:Bd),(∀j,j<=k->At G m j rest pc)->(aM m b pc fs).2 <+:G->∀j,j<=k->At G m j (b.app rest) (aM m b pc fs).1
 | .nil,k,pc,fs,rest,h,_=>h
 | .lf p l r,k,pc,fs,rest,h,hp=>by
  let key:=λhq=>Kv hm r k pc fs rest h hq;intro j hj;cases j with
  |zero=>exact trivial
  |succ j=>
   cases l with
   |gv t T=>exact#[rfl,λy hy=>hy]
   |st x t T=>exact#[_,key hp j Hz,rfl,rfl]
   |rd x t T |wr t u T U |cl x f a ts=>have e:=KO hp;let hi:(aM m r pc fs).2.length < m:=HJ (τ.mp e).1 hm;exact#[_,_,key ((ri _ _).trans hp) j Hz,rfl,hi,e,rfl]
 | .ite p t T a c r,k,pc,fs,rest,h,hp=>by
  let hs:=(ri _ _).trans hp;let ho:=(zA m a (aM m r pc fs).1 (aM m c (aM m r pc fs).1 (aM m r pc fs).2).2).trans hs;let hq:=(zA m c (aM m r pc fs).1 (aM m r pc fs).2).trans ho;let kr:=Kv hm r k pc fs rest h hq;let kc:=Kv hm c k (aM m r pc fs).1 (aM m r pc fs).2 (r.app rest) kr ho;let ka:=Kv hm a k (aM m r pc fs).1 (aM m c (aM m r pc fs).1 (aM m r pc fs).2).2 (r.app rest) kr hs;intro j hj;cases j with
  |zero=>exact trivial
  |succ j=>
   let e:=KO hp;let hi:=(τ.mp e).1;let l1:=jV m a (aM m r pc fs).1 (aM m c (aM m r pc fs).1 (aM m r pc fs).2).2;let l2:=jV m c (aM m r pc fs).1 (aM m r pc fs).2;refine#[_,_,_,ka j Hz,kc j Hz,?_,HJ hi hm,e,λy hy=>.inr hy,λy hy=>?_,λy hy=>?_]
   .show(#[[],.go$ m - (aM m r pc fs).2.length - (1+a.cuts+c.cuts+0)]:WD)=_;rw[l1,l2];congr 2;omega
   .rw[QA]at hy;exact .inl (.inl hy)
   .rw[QA]at hy;exact .inl (.inr hy)
 | .loop p t T a r,k,pc,fs,rest,h,hp=>by
  let hs:=(ri _ _).trans hp;let hq:=(zA m a (#[(Bd.loop p t T a .nil).use (aM m r pc fs).1.M,#[[],.go$ m - (aM m r pc fs).2.length - (Bd.loop p t T a .nil).cuts]]:gO) (aM m r pc fs).2).trans hs;let kr:=Kv hm r k pc fs rest h hq;intro j;induction j using Nat.strongRecOn with
  |ind j ih=>
   intro hj;cases j with
   |zero=>exact trivial
   |succ j=>
    let e:=KO hp;let hi:=(τ.mp e).1;let l1:=jV m a (#[(Bd.loop p t T a .nil).use (aM m r pc fs).1.M,#[[],.go$ m - (aM m r pc fs).2.length - (Bd.loop p t T a .nil).cuts]]:gO) (aM m r pc fs).2;let ka:=Kv hm a j (#[(Bd.loop p t T a .nil).use (aM m r pc fs).1.M,#[[],.go$ m - (aM m r pc fs).2.length - (Bd.loop p t T a .nil).cuts]]:gO) (aM m r pc fs).2 (.loop p t T a$ r.app rest) (λi hi=>ih i Hz Hz) hs;refine#[_,_,_,ka j$ β _,kr j Hz,?_,HJ hi hm,e,λy hy=>.inr hy,λy hy=>?_,λy hy=>.inl (.inr hy)]
    .show(#[[],.go$ m - (aM m r pc fs).2.length - (1+a.cuts+0)]:WD)=_;rw[l1];congr 2;omega
    .rw[QA]at hy;rcases CF a hy with z |z
     .exact .inl$ .inl z
     .exact z
end _K
namespace _K
open PySem PySem.Spec PyProof.Rows _L
variable {P:ψ}{w:dg}{K:Ω}{mg:π->Option η}{base:fv}
theorem qE{h:aF}{k:bq}{i z:Int}:look (ax h k$ .int i) k z=i:=by unfold look;rw[qx,if_pos rfl]
theorem kU{h:aF}{k j:bq}{v:V}{z:Int}(n:j≠k):look (ax h k v) j z=look h j z:=by unfold look;rw[qx,if_neg n]
def CO(M:π->Prop)(h h':aF):Prop:=∀x,M x->look h (.inr x) 0=look h' (.inr x) 0
theorem zd{h h':aF}:∀{T:Tm},(∀y∈T.vars,look h (.inr y) 0=look h' (.inr y) 0)->T.ev h=T.ev h'
 | .num _,_=>rfl
 | .var x,a=>a x (by unfold Tm.vars;exact ρ.mpr rfl)
 | .op i t u,a=>by show jn i (t.ev h) (u.ev h)=jn i (t.ev h') (u.ev h');rw[zd (T:=t) λy hy=>a y (by unfold Tm.vars;exact sn _ hy),zd (T:=u) λy hy=>a y (by unfold Tm.vars;exact ly _ hy)]
theorem CO.put{M N:π->Prop}{h h':aF}{x:π}{i:Int}(a:CO M h h')(k:∀y,N y->y≠x->M y):CO N (ax h (.inr x)$ .int i) (ax h' (.inr x)$ .int i):=λy hy=>by
 by_cases e:y=x
 .rw[e,qE,qE]
 .rw[kU (λz=>e (Sum.inr.inj z)),kU (λz=>e (Sum.inr.inj z))];exact a y (k y hy e)
theorem K8{f:π->Int}{x:π}:∀(nm:List π) (k:aF),(x∈nm∨look k (.inr x) 0=f x/\cg k (.inr x)≠ζ)->look (bV k ((nm.map Sum.inr).zip ((nm.map f).map HW))) (.inr x) 0=f x
 | [],k,h=>by
  rcases h with h |h
  .cases h
  .exact h.1
 |y::nm,k,h=>by
  show look (bV (ax k (.inr y)$ .int$ f y) ((nm.map Sum.inr).zip ((nm.map f).map HW))) (.inr x) 0=f x;refine K8 nm _ ?_;by_cases e:x=y
  .refine .inr #[by rw[e,qE],?_];rw[qx,if_pos (by rw[e])];intro z;cases z
  .rcases h with h |h
   .rcases Δ.mp h with h |h
    .exact absurd h e
    .exact .inl h
   .refine .inr #[by rw[kU (λz=>e (Sum.inr.inj z))];exact h.1,?_];rw[qx,if_neg (λz=>e (Sum.inr.inj z))];exact h.2
theorem rK{f:π->Int}{nm:List π}{x:π}(h:x∈nm):look (aR nm$ nm.map f) (.inr x) 0=f x:=K8 nm [] (.inl h)
theorem A8{pd:eM}{n:Nat}{c:Aa}(h:pd.cs[n]?=δ c):mV pd n=c.nm:=by unfold mV;rw[h]
structure EM(G:List dt)(m:Nat)(pd:eM):Prop where
 cs:pd.cs=(G.map dt.cd).reverse
 len:G.length=m
 mem:∀(i:Nat) (c:dt),G[i]?=δ c->∀x,c.M x->x∈canon c.M
theorem EM.at{G:List dt}{m:Nat}{pd:eM}(g:EM G m pd){i:Nat}{c:dt}(hi:i < m)(h:G[i]?=δ c):pd.cs[m - i - 1]?=δ c.cd:=by rw[g.cs,List.getElem?_reverse (by rw[Φ,g.len];omega),Φ,g.len,show m - 1 - (m - i - 1)=i by omega,ir,h];rfl
noncomputable def oU:gO:=#[λx=>x∈(Tm.num 0).vars,#[[],.nought]]
noncomputable def lV(b:Bd):gO×List dt:=aM b.cuts b oU []
noncomputable def A1(f:π)(ps:List π)(b:Bd):eM:={ f:=f,ps:=ps,way:=(lV b).1.w,cs:=((lV b).2.map dt.cd).reverse }
def Ab(P:List df)(pds:List eM):Prop:=∀f d,bg P f=δ d->∃b:Bd,d.body=b.er/\dF pds f=δ (A1 f d.ps b)/\∀(i:Nat) (c:dt),(lV b).2[i]?=δ c->∀x,c.M x->x∈canon c.M
theorem KJ(b:Bd):(lV b).2.length=b.cuts:=by let:=jV b.cuts b oU [];rw[List.length_nil,Nat.zero_add]at this;exact this
theorem YV(b:Bd)(k:Nat):At (lV b).2 b.cuts k b (lV b).1:=by let h:=Kv (KJ b) b k oU [] .nil (λj _=>by cases j with |zero=>exact trivial |succ j=>exact#[rfl,rfl]) List.prefix_rfl k (β _);rw[qJ]at h;exact h
def _root_._K.Sk.log:Sk->List En
 | .nil=>[]
 | .st _ _ w r=>w.log++r.log
 | .ask b=>[.ask b]
 | .rd c i=>[.rd c i]
 | .wr c i=>[.wr c i]
 | .cl f I s _=>.cl f I::s.log
def dM(g:List En):OC->iE->Prop
 | .ok s a L t,.done a' L' t'=>a=a'/\L=L'.1/\t=t'/\L'.2=g++s.log
 | .long,.long=>True
 | .deep,.deep=>True
 |_,_=>False
theorem dM.cons{g:List En}{o:OC}{u:iE}{n:Int}{hs:List Int}{w:Sk}(h:dM (g++w.log) o u):dM g (o.cons n hs w) u:=by cases o<;>cases u<;>first |exact h | (obtain⟨h1,h2,h3,h4⟩:=h;exact#[h1,h2,h3,by rw[h4,ic];rfl])
theorem AG{P:List df}{C:aF}{m:Int}{n k:Nat}{b:bQ}{h:aF}{L:LG}{t:Nat}{o:iE}(e:Ex P C m n k b h L t o):∀{a:Int} {L':LG} {t':Nat},o= .done a L' t'->t<=t'/\((t:Int)<=m->(t':Int)<=m):=by
 induction e with
 |nil |gv=>intro a L' t' e;cases e;exact#[β _,id]
 |set q ih=>exact ih
 |longL _ _ |longI _ |longW _ |clL _ _ _ _ _ _ |clD _ _ _ _ _ _ |deep _=>intro a L' t' e;cases e
 |rd g q ih |wr g q ih |ite g q ih |loop1 g _ q ih |loop0 g _ q ih=>intro a L' t' e;let:=ih e;exact#[Hz,λ_=>this.2 Hz]
 |cl g hf hl hk c q ihc ih=>intro a L' t' e;let h1:=ihc rfl;let:=ih e;exact#[Hz,λ_=>this.2 (h1.2 Hz)]
theorem zp{M:Nat}{call:uN}{Cs:aF}{pd:eM}{G:List dt}{m i:Nat}{c:dt}(g:EM G m pd)(hi:i < m)(hc:G[i]?=δ c){h' L:aF}{t fu:Nat}:
  eI M call Cs pd (fu+1) (de (mV pd) (bj [] h')$ .go$ m - i - 1) L t=match lT M call Cs (aR (canon c.M) ((canon c.M).map λx=>look h' (.inr x) 0)) L t c.e with
   | .ok w L1 t1=>(eI M call Cs pd fu (nS pd c.cd ((canon c.M).map λx=>look h' (.inr x) 0) w.wh) L1 t1).cons ((m - i - 1:Nat):Int) ((canon c.M).map λx=>look h' (.inr x) 0) w
   | .long=>.long
   | .deep=>.deep:=by
 let e:=g.at hi hc;let n:=A8 e;show eI M call Cs pd (fu+1) (.go (m - i - 1) ((mV pd$ m - i - 1).map λx=>look h' (.inr x) 0)) L t=_;rw[n];show(match pd.cs[m - i - 1]? with |none=>OC.long |some c=>_)=_;rw[e];rfl
theorem zO{M:π->Prop}{h h':aF}(a:CO M h h')(mem:∀x,M x->x∈canon M):CO M h (aR (canon M) ((canon M).map λx=>look h' (.inr x) 0)):=λx hx=>by rw[rK$ mem x hx];exact a x hx
theorem Kw{pd:eM}{c:dt}{hs:List Int}{w:Wh}{q:WD}(h:c.ws[w.side]?=δ q):nS pd c.cd hs w=de (mV pd) (bj q.sets$ oH c.e w$ aR (canon c.M) hs) q.goal:=by unfold nS;rw[show c.cd.ws[w.side]?=δ q from h];rfl
theorem Hi{P:List df}{pds:List eM}{C:aF}{M:Nat}(hS:Ab P pds){n k:Nat}{b':bQ}{h:aF}{L:LG}{t:Nat}{o:iE}(e:Ex P C (M:Int) n k b' h L t o):
  ∀{G:List dt} {m:Nat} {b:Bd} {pc:gO} {h':aF} {fu:Nat} {pd:eM},b'=b.er->At G m (k+1) b pc->EM G m pd->CO pc.M h h'->t<=M->M+2<=fu+t->
   dM L.2 (eI M (ba M pds C n) C pd fu (de (mV pd) (bj pc.w.sets h') pc.w.goal) L.1 t) o:=by
 let fs:∀{fu t:Nat},t<=M->M+2<=fu+t->∃f,fu=f+1/\M+2<=f+(t+1):=λ{fu t} a b=>#[fu - 1,Hz,Hz];induction e with
 |nil=>
  intro G m b pc h' fu pd eb hA g a ht hf;obtain⟨f,rfl,_⟩:=fs ht hf;cases b with
  |nil=>obtain⟨e1,e2⟩:=hA;rw[e1,e2];exact#[rfl,rfl,rfl,(HQ _).symm]
  |lf p l r |ite p t T x y r |loop p t T x r=>cases eb
 | @gv n T r h L t=>
  intro G m b pc h' fu pd eb hA g a ht hf;obtain⟨f,rfl,_⟩:=fs ht hf;cases b with
  |nil |ite p t T x y r |loop p t T x r=>cases eb
  |lf p l r=>
   cases l with
   |gv t T=>cases eb;obtain⟨e1,e2⟩:=hA;rw[e1];refine#[?_,rfl,rfl,(HQ _).symm];exact(zd λy hy=>a y (e2 y hy)).symm
   |rd x t T |st x t T |wr t u T U |cl x f q ts=>cases eb
 | @set n k x T r h L o t q ih=>
  intro G m b pc h' fu pd eb hA g a ht hf;cases b with
  |nil |ite p t T x y r |loop p t T x r=>cases eb
  |lf p l r=>
   cases l with
   |st x t T=>
    cases eb;obtain⟨q,e1,e2,e3⟩:=hA;rw[e2];unfold md;rw[e3]at a;let ev:T.ev h=T.ev h':=zd λy hy=>a y (.inr hy);by_cases hx:q.M x
    .rw[if_pos hx];rw[ev]at ih;exact ih rfl e1 g (a.put λy hy n=>.inl #[hy,n]) ht hf
    .rw[if_neg hx];refine ih rfl e1 g (λy hy=>?_) ht hf;let n:y≠x:=λz=>hx (z▸hy);rw[kU (λz=>n (Sum.inr.inj z))];exact a y$ .inl #[hy,n]
   |gv t T |rd x t T |wr t u T U |cl x f q ts=>cases eb
 | @longL n l r h L t e gm=>
  intro G m b pc h' fu pd eb hA g a ht hf;obtain⟨f,rfl,_⟩:=fs ht hf;cases b with
  |nil |ite p t T x y r |loop p t T x r=>cases eb
  |lf p l r=>
   cases eb;cases l with
   |gv t T |st x t T=>cases e
   |rd x t T |wr t u T U |cl x f q ts=>obtain⟨q,i,e1,e2,hi,e3,e4⟩:=hA;rw[e2];show dM _ (eI _ _ _ _ _ (de _ (bj [] h') _) _ _) _;rw[zp g hi e3,Km Hz];exact trivial
 | @longI n T x y r h L t gm=>
  intro G m b pc h' fu pd eb hA g a ht hf;obtain⟨f,rfl,_⟩:=fs ht hf;cases b with
  |nil |lf p l r |loop p t T x r=>cases eb
  |ite p t T x y r=>obtain⟨qa,qb,i,e1,e1',e2,hi,e3,_⟩:=hA;rw[e2];show dM _ (eI _ _ _ _ _ (de _ (bj [] h') _) _ _) _;rw[zp g hi e3,Km Hz];exact trivial
 | @longW n T x r h L t gm=>
  intro G m b pc h' fu pd eb hA g a ht hf;obtain⟨f,rfl,_⟩:=fs ht hf;cases b with
  |nil |lf p l r |ite p t T x y r=>cases eb
  |loop p t T x r=>obtain⟨qa,qb,i,e1,e1',e2,hi,e3,_⟩:=hA;rw[e2];show dM _ (eI _ _ _ _ _ (de _ (bj [] h') _) _ _) _;rw[zp g hi e3,Km Hz];exact trivial
 | @rd n k x T r h L o t gm q ih=>
  intro G m b pc h' fu pd eb hA g a ht hf;obtain⟨f,rfl,hf⟩:=fs ht hf;cases b with
  |nil |ite p t T x y r |loop p t T x r=>cases eb
  |lf p l r=>
   cases l with
   |rd x ta T=>cases eb;obtain⟨q,i,e1,e2,hi,e3,e4⟩:=hA;rw[e2];show dM _ (eI _ _ _ _ _ (de _ (bj [] h') _) _ _) _;let z:=zO a (g.mem i _ e3);rw[zp g hi e3,yj Hz];show dM _ (OC.cons _ _ _$ eI _ _ _ _ _ (nS _ _ _$ Wh.rd _ _) _ _) _;refine dM.cons ?_;rw[Kw (q:=q.w) rfl];generalize aR (canon pc.M) ((canon pc.M).map λx=>look h' (.inr x) 0)=kt at z;rw[e4]at z;let ev:T.ev h=T.ev kt:=zd λy hy=>z y (.inr hy);rw[ev]at ih;exact ih rfl e1 g (z.put λy hy n=>.inl #[hy,n]) Hz Hz
   |st x t T |gv t T |wr t u T U |cl x f q ts=>cases eb
 | @wr n k T U r h L o t gm q ih=>
  intro G m b pc h' fu pd eb hA g a ht hf;obtain⟨f,rfl,hf⟩:=fs ht hf;cases b with
  |nil |ite p t T x y r |loop p t T x r=>cases eb
  |lf p l r=>
   cases l with
   |wr ta tu T U=>cases eb;obtain⟨q,i,e1,e2,hi,e3,e4⟩:=hA;rw[e2];show dM _ (eI _ _ _ _ _ (de _ (bj [] h') _) _ _) _;let z:=zO a (g.mem i _ e3);rw[zp g hi e3,yk Hz];show dM _ (OC.cons _ _ _$ eI _ _ _ _ _ (nS _ _ _$ Wh.wr _ _) _ _) _;refine dM.cons ?_;rw[Kw (q:=q.w) rfl];generalize aR (canon pc.M) ((canon pc.M).map λx=>look h' (.inr x) 0)=kt at z;rw[e4]at z;let ev:T.ev h=T.ev kt:=zd λy hy=>z y (.inr$ .inl hy);let eu:U.ev h=U.ev kt:=zd λy hy=>z y (.inr$ .inr hy);rw[ev,eu]at ih;exact ih rfl e1 g (λy hy=>z y (.inl hy)) Hz Hz
   |st x t T |gv t T |rd x t T |cl x f q ts=>cases eb
 | @ite n k T x y r h L o t gm q ih=>
  intro G m b pc h' fu pd eb hA g a ht hf;obtain⟨f,rfl,hf⟩:=fs ht hf;cases b with
  |nil |lf p l r |loop p t T x r=>cases eb
  |ite p ta T x y r=>
   cases eb;obtain⟨qa,qb,i,e1,e1',e2,hi,e3,v1,v2,v3⟩:=hA;rw[e2];show dM _ (eI _ _ _ _ _ (de _ (bj [] h') _) _ _) _;let z:=zO a (g.mem i _ e3);rw[zp g hi e3,Q6 Hz];show dM _ (OC.cons _ _ _$ eI _ _ _ _ _ (nS _ _ _$ Wh.ask _) _ _) _;refine dM.cons ?_;let ev:T.ev h=T.ev (aR (canon pc.M) ((canon pc.M).map λx=>look h' (.inr x) 0)):=zd λy hy=>z y (v1 y hy);rw[<- ev];by_cases h0:T.ev h=0
   .let ea:L.ad (.ask (if T.ev h=0 then 0 else 1))=L.ad (.ask 0):=by rw[if_pos h0]
    rw[ea]at ih;rw[if_pos h0]at ih ⊢;rw[Kw (q:=qb.w) rfl];exact ih (JP y r).symm e1' g (λy hy=>z y (v3 y hy)) Hz Hz
   .let ea:L.ad (.ask (if T.ev h=0 then 0 else 1))=L.ad (.ask 1):=by rw[if_neg h0]
    rw[ea]at ih;rw[if_neg h0]at ih ⊢;rw[Kw (q:=qa.w) rfl];exact ih (JP x r).symm e1 g (λy hy=>z y (v2 y hy)) Hz Hz
 | @loop1 n k T x r h L o t gm h0 q ih=>
  intro G m b pc h' fu pd eb hA g a ht hf;obtain⟨f,rfl,hf⟩:=fs ht hf;cases b with
  |nil |lf p l r |ite p t T x y r=>cases eb
  |loop p ta T x r=>
   cases eb;obtain⟨qa,qb,i,e1,e1',e2,hi,e3,v1,v2,v3⟩:=hA;rw[e2];show dM _ (eI _ _ _ _ _ (de _ (bj [] h') _) _ _) _;let z:=zO a (g.mem i _ e3);rw[zp g hi e3,Q6 Hz];show dM _ (OC.cons _ _ _$ eI _ _ _ _ _ (nS _ _ _$ Wh.ask _) _ _) _;refine dM.cons ?_;let ev:T.ev h=T.ev (aR (canon pc.M) ((canon pc.M).map λx=>look h' (.inr x) 0)):=zd λy hy=>z y (v1 y hy);rw[<- ev,if_neg h0];let ea:L.ad (.ask (if T.ev h=0 then 0 else 1))=L.ad (.ask 1):=by rw[if_neg h0]
   rw[ea]at ih;rw[Kw (q:=qa.w) rfl];exact ih (JP x$ .loop p ta T x r).symm e1 g (λy hy=>z y (v2 y hy)) Hz Hz
 | @loop0 n k T x r h L o t gm h0 q ih=>
  intro G m b pc h' fu pd eb hA g a ht hf;obtain⟨f,rfl,hf⟩:=fs ht hf;cases b with
  |nil |lf p l r |ite p t T x y r=>cases eb
  |loop p ta T x r=>
   cases eb;obtain⟨qa,qb,i,e1,e1',e2,hi,e3,v1,v2,v3⟩:=hA;rw[e2];show dM _ (eI _ _ _ _ _ (de _ (bj [] h') _) _ _) _;let z:=zO a (g.mem i _ e3);rw[zp g hi e3,Q6 Hz];show dM _ (OC.cons _ _ _$ eI _ _ _ _ _ (nS _ _ _$ Wh.ask _) _ _) _;refine dM.cons ?_;let ev:T.ev h=T.ev (aR (canon pc.M) ((canon pc.M).map λx=>look h' (.inr x) 0)):=zd λy hy=>z y (v1 y hy);rw[<- ev,if_pos h0];let ea:L.ad (.ask (if T.ev h=0 then 0 else 1))=L.ad (.ask 0):=by rw[if_pos h0]
   rw[ea]at ih;rw[Kw (q:=qb.w) rfl];exact ih rfl e1' g (λy hy=>z y (v3 y hy)) Hz Hz
 | @cl n k1 k x f ts r h L d v L1 t1 o t gm hfd hl hk c q ihc ih=>
  intro G m b pc h' fu pd eb hA g a ht hf;obtain⟨f',rfl,hf⟩:=fs ht hf;cases b with
  |nil |ite p t T x y r |loop p t T x r=>cases eb
  |lf p l r=>
   cases l with
   |cl x f qa ts=>
    cases eb;obtain⟨q',i,e1,e2,hi,e3,e4⟩:=hA;rw[e2];show dM _ (eI _ _ _ _ _ (de _ (bj [] h') _) _ _) _;let z:=zO a (g.mem i _ e3);rw[zp g hi e3,JZ Hz];generalize ek:aR (canon pc.M) ((canon pc.M).map λx=>look h' (.inr x) 0)=kt at z;let z':=z;rw[e4]at z';let ea:(ts.map λc=>c.2.ev kt)=(ts.map (·.2)).map (Tm.ev h):=by rw[Ch];exact GM λc hc=>(zd λy hy=>z' y (.inr #[c,hc,hy])).symm
    rw[ea];obtain⟨b0,eb0,hp,hm⟩:=hS f d hfd;let r1:=ihc (h':=aR d.ps ((ts.map (·.2)).map$ Tm.ev h)) (fu:=M+2) (pd:=A1 f d.ps b0) eb0 (YV b0 _) #[rfl,KJ b0,hm] (λ_ _=>rfl) Hz Hz;let r2:dM (L.ad$ .cl f ((ts.map (·.2)).map$ Tm.ev h)).2 (ba M pds C (n+1) f ((ts.map (·.2)).map$ Tm.ev h) L.1$ t+1) (.done v L1 t1):=by show dM _ (match dF pds f with |none=>OC.long |some pd=>_) _;rw[hp];exact r1
    let tt:=AG c rfl;cases er:ba M pds C (n+1) f ((ts.map (·.2)).map$ Tm.ev h) L.1 (t+1) with
    |long |deep=>rw[er]at r2;exact r2.elim
    |ok s v' L' t'=>rw[er]at r2;obtain⟨rfl,rfl,rfl,eg⟩:=r2;show dM _ (OC.cons _ _ _$ eI _ _ _ _ _ (nS _ _ _$ Wh.cl _ _ _) _ _) _;refine dM.cons ?_;rw[Kw (q:=q'.w) rfl];show dM _ (eI _ _ _ _ _ (de _ (bj q'.w.sets$ ax (aR (canon pc.M) ((canon pc.M).map λx=>look h' (.inr x) 0)) (.inr x)$ .int v') _) _ _) _;rw[ek];let r3:=ih rfl e1 g (z'.put λy hy n=>.inl #[hy,n]) (by let:=tt.2 Hz;omega) (fu:=f') Hz;rw[eg]at r3;rw[show L.2++(Sk.cl f ((ts.map (·.2)).map$ Tm.ev h) s v').log=(L.ad$ .cl f ((ts.map (·.2)).map$ Tm.ev h)).2++s.log from by show _=(L.2++[_])++_;rw[ic];rfl];exact r3
   |st x t T |gv t T |rd x t T |wr t u T U=>cases eb
 | @clL n k1 x f ts r h L d t gm hfd hl hk c ihc=>
  intro G m b pc h' fu pd eb hA g a ht hf;obtain⟨f',rfl,hf⟩:=fs ht hf;cases b with
  |nil |ite p t T x y r |loop p t T x r=>cases eb
  |lf p l r=>
   cases l with
   |cl x f qa ts=>
    cases eb;obtain⟨q',i,e1,e2,hi,e3,e4⟩:=hA;rw[e2];show dM _ (eI _ _ _ _ _ (de _ (bj [] h') _) _ _) _;let z:=zO a (g.mem i _ e3);rw[zp g hi e3,JZ Hz];generalize ek:aR (canon pc.M) ((canon pc.M).map λx=>look h' (.inr x) 0)=kt at z;rw[e4]at z;let ea:(ts.map λc=>c.2.ev kt)=(ts.map (·.2)).map (Tm.ev h):=by rw[Ch];exact GM λc hc=>(zd λy hy=>z y (.inr #[c,hc,hy])).symm
    rw[ea];obtain⟨b0,eb0,hp,hm⟩:=hS f d hfd;let r1:=ihc (h':=aR d.ps ((ts.map (·.2)).map$ Tm.ev h)) (fu:=M+2) (pd:=A1 f d.ps b0) eb0 (YV b0 _) #[rfl,KJ b0,hm] (λ_ _=>rfl) Hz Hz;let r2:dM (L.ad$ .cl f ((ts.map (·.2)).map$ Tm.ev h)).2 (ba M pds C (n+1) f ((ts.map (·.2)).map$ Tm.ev h) L.1$ t+1) .long:=by show dM _ (match dF pds f with |none=>OC.long |some pd=>_) _;rw[hp];exact r1
    cases er:ba M pds C (n+1) f ((ts.map (·.2)).map$ Tm.ev h) L.1 (t+1) with
    |long=>exact trivial
    |deep |ok s v' L' t'=>rw[er]at r2;exact r2.elim
   |st x t T |gv t T |rd x t T |wr t u T U=>cases eb
 | @clD n k1 x f ts r h L d t gm hfd hl hk c ihc=>
  intro G m b pc h' fu pd eb hA g a ht hf;obtain⟨f',rfl,hf⟩:=fs ht hf;cases b with
  |nil |ite p t T x y r |loop p t T x r=>cases eb
  |lf p l r=>
   cases l with
   |cl x f qa ts=>
    cases eb;obtain⟨q',i,e1,e2,hi,e3,e4⟩:=hA;rw[e2];show dM _ (eI _ _ _ _ _ (de _ (bj [] h') _) _ _) _;let z:=zO a (g.mem i _ e3);rw[zp g hi e3,JZ Hz];generalize ek:aR (canon pc.M) ((canon pc.M).map λx=>look h' (.inr x) 0)=kt at z;rw[e4]at z;let ea:(ts.map λc=>c.2.ev kt)=(ts.map (·.2)).map (Tm.ev h):=by rw[Ch];exact GM λc hc=>(zd λy hy=>z y (.inr #[c,hc,hy])).symm
    rw[ea];obtain⟨b0,eb0,hp,hm⟩:=hS f d hfd;let r1:=ihc (h':=aR d.ps ((ts.map (·.2)).map$ Tm.ev h)) (fu:=M+2) (pd:=A1 f d.ps b0) eb0 (YV b0 _) #[rfl,KJ b0,hm] (λ_ _=>rfl) Hz Hz;let r2:dM (L.ad$ .cl f ((ts.map (·.2)).map$ Tm.ev h)).2 (ba M pds C (n+1) f ((ts.map (·.2)).map$ Tm.ev h) L.1$ t+1) .deep:=by show dM _ (match dF pds f with |none=>OC.long |some pd=>_) _;rw[hp];exact r1
    cases er:ba M pds C (n+1) f ((ts.map (·.2)).map$ Tm.ev h) L.1 (t+1) with
    |deep=>exact trivial
    |long |ok s v' L' t'=>rw[er]at r2;exact r2.elim
   |st x t T |gv t T |rd x t T |wr t u T U=>cases eb
 | @deep x f ts r h L t gm=>
  intro G m b pc h' fu pd eb hA g a ht hf;obtain⟨f',rfl,hf⟩:=fs ht hf;cases b with
  |nil |ite p t T x y r |loop p t T x r=>cases eb
  |lf p l r=>
   cases l with
   |cl x f qa ts=>cases eb;obtain⟨q',i,e1,e2,hi,e3,e4⟩:=hA;rw[e2];show dM _ (eI _ _ _ _ _ (de _ (bj [] h') _) _ _) _;rw[zp g hi e3,JZ Hz];exact trivial
   |st x t T |gv t T |rd x t T |wr t u T U=>cases eb
theorem xE{P:List df}{pds:List eM}{C:aF}{M:Nat}(hS:Ab P pds){n k:Nat}{d:df}{f:π}{is:List Int}{L:LG}{t:Nat}{o:iE}(hf:bg P f=δ d)(e:Ex P C (M:Int) n k d.body (cf d.ps is) L t o)(ht:t<=M):dM L.2 (ba M pds C (n+1) f is L.1 t) o:=by obtain⟨b0,eb0,hp,hm⟩:=hS f d hf;show dM _ (match dF pds f with |none=>OC.long |some pd=>_) _;rw[hp];exact Hi hS e (h':=aR d.ps is) (fu:=M+2) (pd:=A1 f d.ps b0) eb0 (YV b0 _) #[rfl,KJ b0,hm] (λ_ _=>rfl) ht Hz
def lR:List En->aF->aF
 | [],L=>L
 | .wr c i::r,L=>lR r (ax L (.inl c) (.int i))
 |_::r,L=>lR r L
theorem qf:∀(a b:List En) (L:aF),lR (a++b) L=lR b (lR a L)
 | [],_,_=>rfl
 | .wr c i::r,b,L=>qf r b _
 | .ask _::r,b,L=>qf r b L
 | .rd _ _::r,b,L=>qf r b L
 | .cl _ _::r,b,L=>qf r b L
theorem FI{P:List df}{C:aF}{m:Int}{n k:Nat}{b:bQ}{h:aF}{L:LG}{t:Nat}{o:iE}(e:Ex P C m n k b h L t o):∀{a:Int} {L':LG} {t':Nat},o= .done a L' t'->L.1=lR L.2 []/\L.2.length=t->L'.1=lR L'.2 []/\L'.2.length=t':=by
 let ad:∀{L:LG} {t:Nat} (e:En),(∀M,lR [e] M=M)->L.1=lR L.2 []/\L.2.length=t->(L.ad e).1=lR (L.ad e).2 []/\(L.ad e).2.length=t+1:=λ{L t} e he h=>#[by show L.1=lR (L.2++[e]) [];rw[qf,he];exact h.1,by show(L.2++[e]).length=_;rw[fz,h.2];rfl];induction e with
 |nil |gv=>intro a L' t' e z;cases e;exact z
 |set q ih=>exact ih
 |longL _ _ |longI _ |longW _ |clL _ _ _ _ _ _ |clD _ _ _ _ _ _ |deep _=>intro a L' t' e;cases e
 |rd g q ih |ite g q ih |loop1 g _ q ih |loop0 g _ q ih=>intro a L' t' e z;exact ih e (ad _ (λ_=>rfl) z)
 |wr g q ih=>intro a L' t' e z;exact ih e #[by show _=lR (_++[_]) [];rw[qf,<- z.1];rfl,by show(_++[_]).length=_;rw[fz,z.2];rfl]
 |cl g hf hl hk c q ihc ih=>intro a L' t' e z;exact ih e (ihc rfl (ad _ (λ_=>rfl) z))
def gO.pc(nA:ε)(p:gO):Pc:=#[p.M,p.w.wy nA]
def dt.ct(nA:ε)(c:dt):Ct:=#[c.M,c.e.dd,c.ws.map$ WD.wy nA]
theorem xA{nA:ε}{x:π}{t:ε}{T:Tm}{pc:gO}:(md x t T pc).wy nA=fV x t (pc.pc nA):=by
 unfold md fV;by_cases h:pc.M x
 .rw[if_pos h,if_pos (show(pc.pc nA).M x from h)];rfl
 .rw[if_neg h,if_neg (show ¬(pc.pc nA).M x from h)];rfl
theorem rj{nA:ε}{k:Int}{n:Nat}(h:k=(n:Int)):(#[[],.go k]:Wy)=(#[[],.go n]:WD).wy nA:=by rw[h];rfl
theorem Ja(nA:ε)(m:Nat):∀(b:Bd) (pc:gO) (fs:List dt),fs.length+b.cuts<=m->pB (m:Int) b (pc.pc nA) (fs.map$ dt.ct nA)=((aM m b pc fs).1.pc nA,(aM m b pc fs).2.map$ dt.ct nA)
 | .nil,_,_,_=>rfl
 | .lf p l r,pc,fs,h=>by
  let h':fs.length+(l.cut+r.cuts)<=m:=h;let e:=Ja nA m r pc fs Hz;let ln:=jV m r pc fs;show pL (m:Int) p l (pB (m:Int) r (pc.pc nA)$ fs.map$ dt.ct nA)=((CU m p l$ aM m r pc fs).1.pc nA,(CU m p l$ aM m r pc fs).2.map$ dt.ct nA);rw[e];let gk:l.cut=1->(#[[],.go ((m:Int) - (((aM m r pc fs).2.map$ dt.ct nA).length:Int) - 1)]:Wy)=(#[[],.go$ m - (aM m r pc fs).2.length - 1]:WD).wy nA:=λhc=>rj (by rw[Φ];omega);cases l with
  |gv t T=>rfl
  |st x t T=>show((#[_,fV x t _]:Pc),_)=((#[_,(md x t T (aM m r pc fs).1).wy nA]:Pc),_);rw[xA];rfl
  |rd x t T |wr t u T U |cl x f a ts=>show((#[_,_]:Pc),_++[_])=((#[_,_]:Pc),List.map _ (_++[_]));rw[gk rfl,va];rfl
 | .ite p t T a c r,pc,fs,h=>by
  let h':fs.length+(1+a.cuts+c.cuts+r.cuts)<=m:=h;let e1:=Ja nA m r pc fs Hz;let l1:=jV m r pc fs;let e2:=Ja nA m c (aM m r pc fs).1 (aM m r pc fs).2 Hz;let l2:=jV m c (aM m r pc fs).1 (aM m r pc fs).2;let e3:=Ja nA m a (aM m r pc fs).1 (aM m c (aM m r pc fs).1 (aM m r pc fs).2).2 Hz;unfold pB aM;dsimp only;rw[e1];dsimp only;rw[e2];dsimp only;rw[e3];let gk:(#[[],.go ((m:Int) - (((aM m r pc fs).2.map$ dt.ct nA).length:Int) - ((Bd.ite p t T a c .nil).cuts:Int))]:Wy)=(#[[],.go$ m - (aM m r pc fs).2.length - (Bd.ite p t T a c .nil).cuts]:WD).wy nA:=rj (by
   rw[Φ];let:(Bd.ite p t T a c .nil).cuts=1+a.cuts+c.cuts+0:=rfl;omega)
  rw[gk,va];rfl
 | .loop p t T a r,pc,fs,h=>by
  let h':fs.length+(1+a.cuts+r.cuts)<=m:=h;let e1:=Ja nA m r pc fs Hz;let l1:=jV m r pc fs;let gk:(#[[],.go ((m:Int) - (((aM m r pc fs).2.map$ dt.ct nA).length:Int) - ((Bd.loop p t T a .nil).cuts:Int))]:Wy)=(#[[],.go$ m - (aM m r pc fs).2.length - (Bd.loop p t T a .nil).cuts]:WD).wy nA:=rj (by
   rw[Φ];let:(Bd.loop p t T a .nil).cuts=1+a.cuts+0:=rfl;omega)
  let e3:=Ja nA m a #[(Bd.loop p t T a .nil).use (aM m r pc fs).1.M,#[[],.go$ m - (aM m r pc fs).2.length - (Bd.loop p t T a .nil).cuts]] (aM m r pc fs).2 Hz;unfold pB aM;dsimp only;rw[e1];dsimp only;rw[gk];let e3':pB (m:Int) a #[(Bd.loop p t T a .nil).use (gO.pc nA (aM m r pc fs).1).M,(#[[],.go$ m - (aM m r pc fs).2.length - (Bd.loop p t T a .nil).cuts]:WD).wy nA] ((aM m r pc fs).2.map$ dt.ct nA)=_:=e3;rw[e3',va];rfl
structure pj(H:Hp)(ys:List π)(m N:Nat)(pc:gO):Prop where
 mem:∀x,pc.M x->x∈ys
 way:mG H ys m N pc.w
structure uU(F:eQ)(H:Hp)(ys:List π)(m N:Nat)(c:dt):Prop where
 mem:∀x,c.M x->x∈ys
 deed:xY H ys c.e
 cs:c.e.Cs F
 ways:∀w∈c.ws,mG H ys m N w
section
variable {F:eQ}{H H':Hp}{ys:List π}{m N N':Nat}
theorem mG.up(hn:N<=N'){w:WD}(h:mG H ys m N w):mG H ys m N' w:=#[h.sets,Nat.le_trans h.len hn,h.goal]
theorem uU.up(hn:N<=N'){c:dt}(h:uU F H ys m N c):uU F H ys m N' c:=#[h.mem,h.deed,h.cs,λw hw=>(h.ways w hw).up hn]
theorem pj.up(hn:N<=N'){pc:gO}(h:pj H ys m N pc):pj H ys m N' pc:=#[h.mem,h.way.up hn]
theorem uJ{n:Nat}(hn:n < m):mG H ys m N #[[],.go n]:=#[(λ_ h=>absurd h ge),fx _,hn]
theorem qu:∀(b:Bd) {xs:List V} {pc:gO} {fs:List dt} {N:Nat},c8 H b xs->b.Ok ys->b.Cs F->pj H ys m N pc->(∀c∈fs,uU F H ys m N c)->fs.length+b.cuts<=m->
  pj H ys m (N+b.size) (aM m b pc fs).1/\∀c∈(aM m b pc fs).2,uU F H ys m (N+b.size) c
 | .nil,_,_,_,_,_,_,_,hp,hf,_=>#[hp,hf]
 | .lf p l r,xs,pc,fs,N,hb,ho,hz,hp,hf,hm=>by
  obtain⟨vs,zs,_,h1,h2,h3⟩:=hb;let hm':fs.length+(l.cut+r.cuts)<=m:=hm;obtain⟨r1,r2⟩:=qu r h3 ho.2 hz.2 hp hf Hz;let hl:=jV m r pc fs;let s1:N+r.size<=N+(r.size+1):=by omega
  let hM:=Lf.use_in ho.1 r1.mem;let cut:l.isCut=μ->l.cut=1->pj H ys m (N+(r.size+1)) #[l.use (aM m r pc fs).1.M,#[[],.go$ m - (aM m r pc fs).2.length - 1]]/\∀c∈(aM m r pc fs).2++[#[l.use (aM m r pc fs).1.M,.st p l,[(aM m r pc fs).1.w]]],uU F H ys m (N+(r.size+1)) c:=λhc hc1=>
   #[#[hM,uJ (by rw[hl];omega)],λc hc'=>by
    rcases γ.mp hc' with z |z
    .exact(r2 c z).up s1
    .rw[ρ.mp z];exact#[hM,#[vs,h1,h2,ho.1,hc],hz.1,λw hw=>by rw[ρ.mp hw];exact r1.way.up s1]]
  show pj H ys m (N+(r.size+1)) (CU m p l$ aM m r pc fs).1/\∀c∈(CU m p l$ aM m r pc fs).2,uU F H ys m (N+(r.size+1)) c;cases l with
  |gv t T=>exact#[#[hM,(λ_ h=>absurd h ge),fx _,h2.2,ho.1],λc hc=>(r2 c hc).up s1]
  |st x t T=>
   refine#[#[hM,?_],λc hc=>(r2 c hc).up s1];show mG H ys m _ (md x t T (aM m r pc fs).1);unfold md;split
   .refine#[λs hs=>?_,HP r1.way.len,r1.way.goal];rcases Δ.mp hs with rfl |hs
    .exact#[h2.2,ho.1.2]
    .exact r1.way.sets s hs
   .exact r1.way.up s1
  |rd x t T |wr t u T U |cl x f q ts=>exact cut rfl rfl
 | .ite p t T a c r,xs,pc,fs,N,hb,ho,hz,hp,hf,hm=>by
  obtain⟨qa,qb,as,bs,zs,_,g1,g0,g2,g3,g4,g5,g6⟩:=hb;let hm':fs.length+(1+a.cuts+c.cuts+r.cuts)<=m:=hm;obtain⟨r1,r2⟩:=qu r g6 ho.2.2.2 hz.2.2 hp hf Hz;let hlr:=jV m r pc fs;obtain⟨c1,c2⟩:=qu c g5 ho.2.2.1 hz.2.1 r1 r2 Hz;let hlc:=jV m c (aM m r pc fs).1 (aM m r pc fs).2;obtain⟨a1,a2⟩:=qu a g4 ho.2.1 hz.1 (r1.up$ Nat.le_add_right _ _) c2 Hz;let s1:N+r.size+c.size+a.size<=N+(a.size+c.size+r.size+1):=by omega
  let hM:∀x,(Bd.ite p t T a c .nil).use (aM m r pc fs).1.M x->x∈ys:=Bd.use_in #[ho.1,ho.2.1,ho.2.2.1,trivial] r1.mem;let hk:m - (aM m r pc fs).2.length - (Bd.ite p t T a c .nil).cuts < m:=by let:(Bd.ite p t T a c .nil).cuts=1+a.cuts+c.cuts+0:=rfl;omega
  unfold aM;dsimp only;refine#[#[hM,uJ hk],λe he=>?_];rcases γ.mp he with z |z
  .exact(a2 e z).up s1
  .rw[ρ.mp z];refine#[hM,#[g0,ho.1],trivial,λw hw=>?_];rcases Δ.mp hw with rfl |hw
   .exact a1.way.up s1
   .rw[ρ.mp hw];exact c1.way.up (by show _<=N+(a.size+c.size+r.size+1);omega)
 | .loop p t T a r,xs,pc,fs,N,hb,ho,hz,hp,hf,hm=>by
  obtain⟨qa,as,zs,_,g1,g0,g2,g4,g6⟩:=hb;let hm':fs.length+(1+a.cuts+r.cuts)<=m:=hm;obtain⟨r1,r2⟩:=qu r g6 ho.2.2 hz.2 hp hf Hz;let hlr:=jV m r pc fs;let hM:∀x,(Bd.loop p t T a .nil).use (aM m r pc fs).1.M x->x∈ys:=Bd.use_in #[ho.1,ho.2.1,trivial] r1.mem;let hk:m - (aM m r pc fs).2.length - (Bd.loop p t T a .nil).cuts < m:=by let:(Bd.loop p t T a .nil).cuts=1+a.cuts+0:=rfl;omega
  let pl:pj H ys m (N+r.size) #[(Bd.loop p t T a .nil).use (aM m r pc fs).1.M,#[[],.go$ m - (aM m r pc fs).2.length - (Bd.loop p t T a .nil).cuts]]:=#[hM,uJ hk];obtain⟨a1,a2⟩:=qu a g4 ho.2.1 hz.1 pl r2 Hz;let s1:N+r.size+a.size<=N+(a.size+r.size+1):=by omega
  unfold aM;dsimp only;refine#[pl.up (by show _<=N+(a.size+r.size+1);omega),λe he=>?_];rcases γ.mp he with z |z
  .exact(a2 e z).up s1
  .rw[ρ.mp z];refine#[hM,#[g0,ho.1],trivial,λw hw=>?_];rcases Δ.mp hw with rfl |hw
   .exact a1.way.up s1
   .rw[ρ.mp hw];exact r1.way.up (by show _<=N+(a.size+r.size+1);omega)
end
theorem DI{M:π->Prop}{ys:List π}(h:∀x,M x->x∈ys):∃ss,Nm ss M:=by
 classical
 let h1:∀(ys:List π),∃l:List π,l.Nodup/\∀x,x∈l↔(M x/\x∈ys):=by
  intro ys;induction ys with
  |nil=>exact#[[],.nil,λx=>by simp]
  |cons y ys ih=>
   obtain⟨l,h1,h2⟩:=ih;by_cases hy:M y/\y∉ys
   .refine#[y::l,tT.mpr #[λz=>hy.2 ((h2 y).mp z).2,h1],λx=>?_];rw[Δ,h2,Δ];constructor
    .rintro (rfl |z)
     .exact#[hy.1,.inl rfl]
     .exact#[z.1,.inr z.2]
    .rintro ⟨z,rfl |w⟩
     .exact .inl rfl
     .exact .inr #[z,w]
   .refine#[l,h1,λx=>?_];rw[h2,Δ];constructor
    .exactλz=>#[z.1,.inr z.2]
    .rintro ⟨z,rfl |w⟩
     .exact#[z,by by_cases q:x∈ys;exact q;exact absurd #[z,q] hy]
     .exact#[z,w]
 obtain⟨l,nd,mem⟩:=h1 ys;let pm:=List.mergeSort_perm l (λa b=>decide (a.cps.toList<=b.cps.toList));let pw:=List.pairwise_mergeSort (le:=λa b:π=>decide (a.cps.toList<=b.cps.toList)) (λa b c x y=>by simpa using List.le_trans (of_decide_eq_true x) (of_decide_eq_true y)) (λa b=>by simpa using List.le_total a.cps.toList b.cps.toList) l;refine#[_,pm.nodup_iff.mpr nd,sortedS_of_pairwise _$ pw.imp λ{a b} z=>?_,λx=>?_]
 .rw[ltCps_eq];simpa using z
 .rw[pm.mem_iff,mem];exact#[λz=>z.1,λz=>#[z,h x z]]
theorem oJ{M:π->Prop}{ys:List π}(h:∀x,M x->x∈ys)(x:π)(z:M x):x∈canon M:=by obtain⟨ss,hs⟩:=DI h;rw[<- hs.canon];exact(hs.mem x).mpr z
theorem DF{H:Hp}{d:Df}{bs:List V}{ys:List π}(hb:c8 H d.b bs)(ho:d.b.Ok ys):pj H ys d.b.cuts d.b.size (lV d.b).1/\∀c∈(lV d.b).2,uU d.b.calls H ys d.b.cuts d.b.size c:=by let p0:pj H ys d.b.cuts 0 oU:=#[λx hx=>absurd hx ge,(λ_ h=>absurd h ge),β _,trivial];obtain⟨h1,h2⟩:=qu (m:=d.b.cuts) d.b hb ho (zj d.b) p0 (fs:=[]) (λ_ h=>absurd h ge) (by show 0+_<=_;omega);rw[Nat.zero_add]at h1 h2;exact#[h1,h2]
theorem yB(nA:ε)(d:Df):fg nA d=((lV d.b).1.pc nA,(lV d.b).2.map$ dt.ct nA):=Ja nA d.b.cuts d.b oU [] (by show 0+_<=_;omega)
theorem A2(nA:ε)(d:Df):(fg nA d).1.w=(lV d.b).1.w.wy nA:=by rw[yB];rfl
theorem rM(nA:ε)(d:Df):bE nA d=(lV d.b).2.reverse.map (dt.ct nA):=by unfold bE;rw[yB,List.map_reverse]
theorem KP{P:List df}{f:π}{d:df}(h:bg P f=δ d):d∈P:=List.mem_of_find?_eq_some h
def pE.cs(R:π->Nat->Prop):pE->Prop
 | .cl _ f ts=>R f ts.length
 |_=>True
theorem z9(s:bQ):∀b:bQ,(b.app s).size=b.size+s.size
 | .nil=>by show s.size=0+s.size;omega
 | .lf _ r=>by show(r.app s).size+1=r.size+1+s.size;rw[z9 s r];omega
 | .ite _ a b r=>by show a.size+b.size+(r.app s).size+1=a.size+b.size+r.size+1+s.size;rw[z9 s r];omega
 | .loop _ a r=>by show a.size+(r.app s).size+1=a.size+r.size+1+s.size;rw[z9 s r];omega
def bQ.cs(R:π->Nat->Prop):bQ->Prop
 | .nil=>True
 | .lf l r=>l.cs R/\r.cs R
 | .ite _ a b r=>a.cs R/\b.cs R/\r.cs R
 | .loop _ a r=>a.cs R/\r.cs R
theorem Jt{R:π->Nat->Prop}{s:bQ}(hs:s.cs R):∀{b:bQ},b.cs R->(b.app s).cs R
 | .nil,_=>hs
 | .lf _ _,h=>#[h.1,Jt hs h.2]
 | .ite _ _ _ _,h=>#[h.1,h.2.1,Jt hs h.2.2]
 | .loop _ _ _,h=>#[h.1,Jt hs h.2]
def bQ.sm(S:Nat):bQ->Prop
 | .nil=>True
 | .lf _ r=>r.sm S
 | .ite _ a b r=>a.sm S/\b.sm S/\r.sm S
 | .loop _ a r=>a.size<=S/\a.sm S/\r.sm S
theorem J1{S:Nat}:∀{b:bQ},b.size<=S->b.sm S
 | .nil,_=>trivial
 | .lf _ r,h=>by let h':r.size+1<=S:=h;exact J1 (b:=r) Hz
 | .ite _ a b r,h=>by let h':a.size+b.size+r.size+1<=S:=h;exact#[J1 Hz,J1 Hz,J1 Hz]
 | .loop _ a r,h=>by let h':a.size+r.size+1<=S:=h;exact#[Hz,J1 Hz,J1 Hz]
theorem KK{S:Nat}{s:bQ}(hs:s.sm S):∀{b:bQ},b.sm S->(b.app s).sm S
 | .nil,_=>hs
 | .lf _ r,h=>KK hs (b:=r) h
 | .ite _ _ _ _,h=>#[h.1,h.2.1,KK hs h.2.2]
 | .loop _ _ _,h=>#[h.1,h.2.1,KK hs h.2.2]
def Fi(ds:List df)(f:π)(n:Nat):Prop:=∃e,bg ds f=δ e/\e.ps.length=n
theorem Zp(P:List df)(C:aF)(m:Int)(n:Nat)(hc:∀n',n=n'+1->∀(d:df) (is:List Int) (L:LG) (t D:Nat),d∈P->m=(t:Int)+(D:Int)->∃k o,k<=130000/\Ex P C m n' k d.body (cf d.ps is) L t o):
  ∀(N:Nat) (b:bQ) (h:aF) (L:LG) (t D:Nat),b.cs (Fi P)->b.sm 400->m=(t:Int)+(D:Int)->b.size+D*401<=N->∃k o,k<=N/\Ex P C m n k b h L t o:=by
 intro N;induction N with
 |zero=>
  intro b h L t D hn hs hm hN;cases b with
  |nil=>exact#[0,_,β _,.nil]
  |lf l r=>have:r.size+1+D*401<=0:=hN;omega
  |ite T a b r=>have:a.size+b.size+r.size+1+D*401<=0:=hN;omega
  |loop T a r=>have:a.size+r.size+1+D*401<=0:=hN;omega
 |succ N ih=>
  intro b h L t D hn hs hm hN;cases b with
  |nil=>exact#[0,_,fx _,.nil]
  |lf l r=>
   let hN':r.size+1+D*401<=N+1:=hN;obtain⟨hl,hn'⟩:=hn;cases l with
   |gv T=>exact#[0,_,fx _,.gv]
   |set x T=>obtain⟨k,o,hk,q⟩:=ih r (ax h (.inr x)$ .int$ T.ev h) L t D hn' hs hm Hz;exact#[k+1,o,Hz,.set q]
   |rd x T=>
    by_cases z:D=0
    .exact#[0,_,fx _,.longL rfl Hz]
    .obtain⟨k,o,hk,q⟩:=ih r (ax h (.inr x)$ .int$ look L.1 (.inl$ T.ev h)$ look C (.inl$ T.ev h) 0) (L.ad$ .rd (T.ev h)$ look L.1 (.inl$ T.ev h)$ look C (.inl$ T.ev h) 0) (t+1) (D - 1) hn' hs Hz Hz;exact#[k+1,o,Hz,.rd Hz q]
   |wr T U=>
    by_cases z:D=0
    .exact#[0,_,fx _,.longL rfl Hz]
    .obtain⟨k,o,hk,q⟩:=ih r h (ax L.1 (.inl$ T.ev h)$ .int$ U.ev h,L.2++[.wr (T.ev h)$ U.ev h]) (t+1) (D - 1) hn' hs Hz Hz;exact#[k+1,o,Hz,.wr Hz q]
   |cl x f ts=>
    by_cases z:D=0
    .exact#[0,_,fx _,.longL rfl Hz]
    .cases n with
     |zero=>exact#[0,_,fx _,.deep Hz]
     |succ n=>
      obtain⟨d,hf,hd⟩:=hl;obtain⟨k1,o1,hk1,q1⟩:=hc n rfl d (ts.map$ Tm.ev h) (L.ad$ .cl f$ ts.map$ Tm.ev h) (t+1) (D - 1) (KP hf) Hz;cases o1 with
      |long=>exact#[0,_,fx _,.clL Hz hf hd hk1 q1]
      |deep=>exact#[0,_,fx _,.clD Hz hf hd hk1 q1]
      |done a L1 t1=>obtain⟨e1,e2⟩:=AG q1 rfl;let e3:=e2 Hz;obtain⟨k,o,hk,q⟩:=ih r (ax h (.inr x)$ .int a) L1 t1 (m - t1).toNat hn' hs Hz Hz;exact#[k+1,o,Hz,.cl Hz hf hd hk1 q1 q]
  |ite T a b r=>
   let hN':a.size+b.size+r.size+1+D*401<=N+1:=hN;by_cases z:D=0
   .exact#[0,_,fx _,.longI Hz]
   .let hz:((if T.ev h=0 then b else a).app r).size<=a.size+b.size+r.size:=by rw[z9];split<;>omega
    obtain⟨k,o,hk,q⟩:=ih ((if T.ev h=0 then b else a).app r) h (L.ad$ .ask (if T.ev h=0 then 0 else 1)) (t+1) (D - 1) (Jt hn.2.2 (by split;exact hn.2.1;exact hn.1)) (KK hs.2.2 (by split;exact hs.2.1;exact hs.1)) Hz Hz;exact#[k+1,o,Hz,.ite Hz q]
  |loop T a r=>
   let hN':a.size+r.size+1+D*401<=N+1:=hN;by_cases z:D=0
   .exact#[0,_,fx _,.longW Hz]
   .by_cases e:T.ev h=0
    .obtain⟨k,o,hk,q⟩:=ih r h (L.ad$ .ask (if T.ev h=0 then 0 else 1)) (t+1) (D - 1) hn.2 hs.2.2 Hz Hz;exact#[k+1,o,Hz,.loop0 Hz e q]
    .let hz:(a.app$ .loop T a r).size=a.size+(a.size+r.size+1):=by rw[z9];rfl
     let:=hs.1;obtain⟨k,o,hk,q⟩:=ih (a.app$ .loop T a r) h (L.ad$ .ask (if T.ev h=0 then 0 else 1)) (t+1) (D - 1) (Jt hn hn.1) (KK hs hs.2.1) Hz Hz;exact#[k+1,o,Hz,.loop1 Hz e q]
def Sd(ds:List df):Prop:=∀d∈ds,d.body.size<=400/\d.body.cs (Fi ds)
theorem AC{P:List df}(hP:Sd P)(C:aF){m:Int}(hm:m<=300):∀(n:Nat) (d:df) (is:List Int) (L:LG) (t D:Nat),d∈P->m=(t:Int)+(D:Int)->∃k o,k<=130000/\Ex P C m n k d.body (cf d.ps is) L t o:=by
 intro n;induction n with
 |zero=>intro d is L t D hd e;obtain⟨h4,h5⟩:=hP d hd;exact Zp P C m 0 (λn' z=>by omega) 130000 d.body _ L t D h5 (J1 h4) e Hz
 |succ n ih=>intro d is L t D hd e;obtain⟨h4,h5⟩:=hP d hd;exact Zp P C m (n+1) (λn' z=>by injection z with z;subst z;exact ih) 130000 d.body _ L t D h5 (J1 h4) e Hz
theorem y6{H:Hp}:∀{ts:List (ε×Tm)},(∀c∈ts,aQ H c.2 c.1)->iG H (ts.map (·.2)) (ts.map λc=>HX c.1)
 | [],_=>rfl
 |c::ts,h=>#[c.1,_,rfl,h c rc,y6 λe he=>h e (rz _ he)]
theorem Dl{H:Hp}{p:ε}{l:Lf}{vs:List V}(hp:H p=δ (.tup vs))(h:uP H l vs):oF H (.ref p) l.er:=by
 cases l with
 |rd x t T |st x t T |gv t T=>obtain⟨rfl,h⟩:=h;exact#[p,t,rfl,hp,h]
 |wr t u T U=>obtain⟨rfl,h,k⟩:=h;exact#[p,t,u,rfl,hp,h,k]
 |cl x f q ts=>obtain⟨rfl,h,k⟩:=h;exact#[p,q,_,rfl,hp,h,y6 k]
theorem X9{H:Hp}:∀{b:Bd} {xs:List V},c8 H b xs->dW H b.er xs
 | .nil,_,h=>h
 | .lf p l r,_,z_z=>by obtain⟨vs,ys,e,h1,h2,h3⟩:=z_z;exact #[.ref p,ys,e,Dl h1 h2,X9 h3]
 | .ite p t T a b r,_,z_z=>by obtain⟨qa,qb,as,bs,ys,e,h1,h2,h3,h4,h5,h6,h7⟩:=z_z;exact #[p,t,qa,qb,as,bs,ys,e,h1,h2,h3,X9 h5,h4,X9 h6,X9 h7]
 | .loop p t T a r,_,z_z=>by obtain⟨qa,as,ys,e,h1,h2,h3,h4,h5⟩:=z_z;exact #[p,t,qa,as,ys,e,h1,h2,h3,X9 h4,X9 h5]
theorem zi:∀(b:Bd),b.er.size=b.size
 | .nil=>rfl
 | .lf _ _ r=>congrArg (·+1) (zi r)
 | .ite _ _ _ a b r=>by show a.er.size+b.er.size+r.er.size+1=a.size+b.size+r.size+1;rw[zi a,zi b,zi r]
 | .loop _ _ _ a r=>by show a.er.size+r.er.size+1=a.size+r.size+1;rw[zi a,zi r]
theorem Jb:∀(b:bQ),b.top<=b.size
 | .nil=>β _
 | .lf _ r=>HP (Jb r)
 | .ite _ a b r=>by let:=Jb r;show r.top+1<=a.size+b.size+r.size+1;omega
 | .loop _ a r=>by let:=Jb r;show r.top+1<=a.size+r.size+1;omega
theorem qv{ys:List π}{T:Tm}(h:di ys T):iF T:=#[by let:=h.2;omega,ys,h.1]
theorem Ax{ys:List π}:∀{l:Lf},l.Ok ys->l.er.Ok
 | .rd _ _ _,h=>qv h.2
 | .st _ _ _,h=>qv h.2
 | .wr _ _ _ _,h=>#[qv h.1,qv h.2]
 | .cl _ _ _ ts,h=>#[λT hT=>by obtain⟨c,hc,rfl⟩:=cJ.mp hT;exact qv (h.2.2 c hc),by rw[Φ];let:=h.2.1;omega]
 | .gv _ _,h=>qv h
theorem Kx{ys:List π}:∀{b:Bd},b.Ok ys->b.size<=400->b.er.Ok
 | .nil,_,_=>trivial
 | .lf _ l r,h,z=>#[Ax h.1,Kx h.2 (by let z':r.size+1<=400:=z;omega)]
 | .ite _ _ _ a b r,h,z=>by let z':a.size+b.size+r.size+1<=400:=z;let h1:=Jb a.er;let h2:=Jb b.er;rw[zi]at h1 h2;exact#[#[qv h.1,Hz,Hz],Kx h.2.1 Hz,Kx h.2.2.1 Hz,Kx h.2.2.2 Hz]
 | .loop _ _ _ a r,h,z=>by let z':a.size+r.size+1<=400:=z;let h1:=Jb a.er;rw[zi]at h1;exact#[#[qv h.1,Hz],Kx h.2.1 Hz,Kx h.2.2 Hz]
theorem Ky{F:eQ}{R:π->Nat->Prop}(k:∀f n,(f,n)∈F->R f n):∀{b:Bd},b.Cs F->b.er.cs R
 | .nil,_=>trivial
 | .lf _ l r,h=>#[by cases l with
   |cl x f q ts=>show R f (ts.map (·.2)).length;rw[Φ];exact k _ _ h.1
   |rd x t T=>trivial
   |st x t T=>trivial
   |wr t u T U=>trivial
   |gv t T=>trivial,Ky k h.2]
 | .ite _ _ _ a b r,h=>#[Ky k h.1,Ky k h.2.1,Ky k h.2.2]
 | .loop _ _ _ a r,h=>#[Ky k h.1,Ky k h.2]
abbrev Qd:=Df×List π
def Qd.pl(q:Qd):df:=#[q.1.f,q.2,q.1.b.er]
noncomputable def Qd.mk(q:Qd):eM:=A1 q.1.f q.2 q.1.b
theorem Zq{f:π}{d:df}:∀{qs:List Qd},bg (qs.map Qd.pl) f=δ d->∃q∈qs,q.1.f=f/\d=q.pl/\dF (qs.map Qd.mk) f=δ q.mk
 | [],h=>by cases h
 |q::qs,h=>by
  by_cases e:q.1.f=f
  .let h':bg (q.pl::qs.map Qd.pl) f=δ d:=h;unfold bg at h';rw[vr,decide_eq_true (show q.pl.f=f from e)]at h';cases h';refine#[q,rc,e,rfl,?_];show(if q.mk.f=f then δ q.mk else _)=_;rw[if_pos (show q.mk.f=f from e)]
  .let h':bg (q.pl::qs.map Qd.pl) f=δ d:=h;unfold bg at h';rw[vr,decide_eq_false (show ¬q.pl.f=f from e)]at h';obtain⟨r,hr,h1,h2,h3⟩:=Zq (qs:=qs) h';refine#[r,rz _ hr,h1,h2,?_];show(if q.mk.f=f then δ q.mk else dF (qs.map Qd.mk) f)=_;rw[if_neg (show ¬q.mk.f=f from e)];exact h3
theorem sI:∀{qs:List Qd} {q:Qd},q∈qs->(qs.map λq=>q.1.f).Nodup->bg (qs.map Qd.pl) q.1.f=δ q.pl/\dF (qs.map Qd.mk) q.1.f=δ q.mk
 |r::qs,q,h,nd=>by
  rw[HG,tT]at nd;rcases Δ.mp h with rfl |h
  .refine#[?_,?_]
   .show bg (q.pl::qs.map Qd.pl) q.1.f=_;unfold bg;rw[vr,decide_eq_true (show q.pl.f=q.1.f from rfl)]
   .show(if q.mk.f=q.1.f then δ q.mk else _)=_;rw[if_pos (show q.mk.f=q.1.f from rfl)]
  .let ne:¬r.1.f=q.1.f:=λe=>nd.1 (by rw[e];exact cJ.mpr #[q,h,rfl]);obtain⟨h1,h2⟩:=sI h nd.2;refine#[?_,?_]
   .show bg (r.pl::qs.map Qd.pl) q.1.f=_;unfold bg;rw[vr,decide_eq_false (show ¬r.pl.f=q.1.f from ne)];exact h1
   .show(if r.mk.f=q.1.f then δ r.mk else dF (qs.map Qd.mk) q.1.f)=_;rw[if_neg (show ¬r.mk.f=q.1.f from ne)];exact h2
def Cj(qs:List Qd):eQ:=qs.map λq=>(q.1.f,q.2.length)
structure yh(H:Hp)(F:eQ)(q:Qd):Prop where
 bd:∃bs,c8 H q.1.b bs
 ok:iB q.1
 cs:q.1.b.Cs F
 pa:H q.1.pa=δ (.tup$ q.2.map HV)
 l1:q.2.length<=100
theorem yh.mono{H H':Hp}{F:eQ}{q:Qd}(h:yh H F q)(k:ai H H'):yh H' F q:=#[let #[bs,b]:=h.bd;#[bs,b.mono k],h.ok,h.cs,k _ _ h.pa,h.l1]
theorem yM{H:Hp}:∀{ds:List Df} {ns:List Nat},iz H ds ns->∃qs:List Qd,qs.map ks=ds/\(qs.map λq=>q.2.length)=ns/\∀q∈qs,H q.1.pa=δ (.tup$ q.2.map HV)/\q.2.length<=100
 | [],[],_=>#[[],rfl,rfl,λq h=>absurd h ge]
 | [],_::_,h=>by cases h.1
 |_::_,[],h=>by cases h.1
 |d::ds,n::ns,h=>by
  obtain⟨ps,h1,h2,h3⟩:=h.2 0 d n rfl rfl;obtain⟨qs,e1,e2,e3⟩:=yM (ds:=ds) (ns:=ns) #[by let:=h.1;simpa using this,λi c m a b=>h.2 (i+1) c m (by simpa using a) (by simpa using b)];refine#[(d,ps)::qs,by rw[HG,e1],by rw[HG,e2,<- h2],λq hq=>?_];rcases Δ.mp hq with rfl |hq
  .exact#[h1,by show ps.length<=100;omega]
  .exact e3 q hq
theorem pR{H:Hp}:∀{ds:List Df} {zs:List V},bX H ds zs->∀{d:Df},d∈ds->∃bs,c8 H d.b bs
 |c::_,_,q_q,d,hd=>by
  obtain⟨u,r,e,⟨bs,_,_,_,h⟩,h4⟩:=q_q;rcases Δ.mp hd with rfl |hd
  .exact#[bs,h]
  .exact pR h4 hd
theorem Ck{qs:List Qd}:((qs.map ks).map Df.f).zip (qs.map λq=>q.2.length)=Cj qs:=by unfold Cj;rw[Ch,List.zip_map'];rfl
theorem D2{H:Hp}{ds:List Df}{ns:List Nat}{zs:List V}(hd:bX H ds zs)(hn:iU ds ns)(hp:iz H ds ns):∃qs:List Qd,qs.map ks=ds/\(∀q∈qs,yh H (Cj qs) q)/\(qs.map λq=>q.1.f).Nodup:=by obtain⟨qs,e1,e2,e3⟩:=yM hp;subst e1;subst e2;rw[iU,Ck,Ch]at hn;refine#[qs,rfl,λq hq=>?_,hn.2.1];let hm:q.1∈qs.map ks:=cJ.mpr #[q,hq,rfl];obtain⟨h1,h2⟩:=hn.1 _ hm;exact#[pR hd hm,h1,h2,(e3 q hq).1,(e3 q hq).2]
theorem AM{qs:List Qd}(nd:(qs.map λq=>q.1.f).Nodup)(f:π)(n:Nat)(h:(f,n)∈Cj qs):Fi (qs.map Qd.pl) f n:=by obtain⟨q,hq,e⟩:=cJ.mp h;cases e;exact#[_,(sI hq nd).1,rfl]
theorem Ej{H:Hp}{qs:List Qd}(h:∀q∈qs,yh H (Cj qs) q)(nd:(qs.map λq=>q.1.f).Nodup):Sd (qs.map Qd.pl):=λd hd=>by obtain⟨q,hq,rfl⟩:=cJ.mp hd;let z:=h q hq;exact#[by show q.1.b.er.size<=400;rw[zi];exact z.ok.2.2,Ky (AM nd) z.cs]
theorem Hf{H:Hp}{ys:List π}{m:Nat}:pj H ys m 0 oU:=#[λx h=>absurd h ge,#[λ_ h=>absurd h ge,β _,trivial]]
theorem DE{H:Hp}{F:eQ}{ys:List π}{b:Bd}{bs:List V}(hb:c8 H b bs)(ho:b.Ok ys)(hc:b.Cs F):pj H ys b.cuts b.size (lV b).1/\∀c∈(lV b).2,uU F H ys b.cuts b.size c:=by let z:=qu (m:=b.cuts) (N:=0) b hb ho hc Hf (fs:=[]) (λ_ h=>absurd h ge) (by show 0+_<=_;omega);rw[Nat.zero_add]at z;exact z
theorem vI{H:Hp}{qs:List Qd}(h:∀q∈qs,yh H (Cj qs) q):Ab (qs.map Qd.pl) (qs.map Qd.mk):=λf d e=>by obtain⟨q,hq,rfl,rfl,h3⟩:=Zq e;refine#[q.1.b,rfl,h3,λi c hc x hx=>?_];obtain⟨bs,hb⟩:=(h q hq).bd;obtain⟨⟨ys,_,ho⟩,_⟩:=(h q hq).ok;exact oJ ((DE hb ho (h q hq).cs).2 c$ hJ hc).mem x hx
theorem yK{H:Hp}{pA:ε}{xs:List V}:∀{qs:List Qd} {xs:List V} {F:eQ},bX H (qs.map ks) xs->(∀q∈qs,yh H F q)->eL H (qs.map Qd.pl) xs
 | [],_,_,h,_=>h
 |q::qs,xs,F,h,k=>by obtain⟨u,r,e,⟨bs,e1,e2,e3,e4⟩,h4⟩:=h;exact#[u,r,e,#[_,_,_,bs,e1,e2,(k q rc).pa,e3,X9 e4],yK (pA:=pA) (xs:=xs) h4 λc hc=>k c (rz _ hc)]
def bQ.dep:bQ->Nat
 | .nil=>0
 | .lf _ r=>r.dep
 | .ite _ a b r=>max (max a.dep b.dep+1) r.dep
 | .loop _ a r=>max (a.dep+1) r.dep
def bQ.turn:bQ->Bool
 | .nil=>ν
 | .lf l _=>l.turn
 | .ite _ _ _ _=>μ
 | .loop _ _ _=>μ
section
variable {P:List df}{C:aF}{m:Int}{n k:Nat}{h:aF}{L:LG}{t:Nat}{o:iE}
theorem Ju{b:bQ}(x:Ex P C m n k b h L t o)(e:b.turn=μ)(g:m<=(t:Int)):o= .long:=by cases x<;>first |rfl | (exfalso;omega) |cases e
theorem AF{x:π}{T:Tm}{r:bQ}(q:Ex P C m n k (.lf (.set x T) r) h L t o):∃k',k=k'+1/\Ex P C m n k' r (ax h (.inr x)$ .int$ T.ev h) L t o:=by
 cases q with
 |set q=>exact#[_,rfl,q]
 |longL e g=>cases e
theorem Dv{x:π}{T:Tm}{r:bQ}(q:Ex P C m n k (.lf (.rd x T) r) h L t o)(g:(t:Int) < m):∃k',k=k'+1/\Ex P C m n k' r (ax h (.inr x)$ .int$ look L.1 (.inl$ T.ev h)$ look C (.inl$ T.ev h) 0) (L.ad$ .rd (T.ev h)$ look L.1 (.inl$ T.ev h)$ look C (.inl$ T.ev h) 0) (t+1) o:=by
 cases q with
 |rd _ q=>exact#[_,rfl,q]
 |longL e g=>exfalso;omega
theorem Dw{T U:Tm}{r:bQ}(q:Ex P C m n k (.lf (.wr T U) r) h L t o)(g:(t:Int) < m):∃k',k=k'+1/\Ex P C m n k' r h (ax L.1 (.inl$ T.ev h)$ .int$ U.ev h,L.2++[.wr (T.ev h)$ U.ev h]) (t+1) o:=by
 cases q with
 |wr _ q=>exact#[_,rfl,q]
 |longL e g=>exfalso;omega
theorem AD{T:Tm}{a b r:bQ}(q:Ex P C m n k (.ite T a b r) h L t o)(g:(t:Int) < m):∃k',k=k'+1/\Ex P C m n k' ((if T.ev h=0 then b else a).app r) h (L.ad$ .ask (if T.ev h=0 then 0 else 1)) (t+1) o:=by
 cases q with
 |ite _ q=>exact#[_,rfl,q]
 |longI g=>exfalso;omega
theorem vq{T:Tm}{a r:bQ}(q:Ex P C m n k (.loop T a r) h L t o)(g:(t:Int) < m):∃k',k=k'+1/\Ex P C m n k' (if T.ev h=0 then r else a.app (.loop T a r)) h (L.ad$ .ask (if T.ev h=0 then 0 else 1)) (t+1) o:=by
 cases q with
 |loop1 _ e q=>exact#[_,rfl,by rw[if_neg e];exact q]
 |loop0 _ e q=>exact#[_,rfl,by rw[if_pos e];exact q]
 |longW g=>exfalso;omega
theorem Ds{x f:π}{ts:List Tm}{r:bQ}(q:Ex P C m n k (.lf (.cl x f ts) r) h L t o)(g:(t:Int) < m):(n=0/\o= .deep)∨∃n' k1 d o1,n=n'+1/\bg P f=δ d/\d.ps.length=ts.length/\k1<=130000/\Ex P C m n' k1 d.body (cf d.ps$ ts.map$ Tm.ev h) (L.ad$ .cl f$ ts.map$ Tm.ev h) (t+1) o1/\
  ((o1= .long/\o= .long)∨(o1= .deep/\o= .deep)∨∃a L1 t1 k',o1= .done a L1 t1/\k=k'+1/\Ex P C m n k' r (ax h (.inr x)$ .int a) L1 t1 o):=by
 cases q with
 |cl _ hf hl hk c q=>exact .inr #[_,_,_,_,rfl,hf,hl,hk,c,.inr (.inr #[_,_,_,_,rfl,rfl,q])]
 |clL _ hf hl hk c=>exact .inr #[_,_,_,_,rfl,hf,hl,hk,c,.inl #[rfl,rfl]]
 |clD _ hf hl hk c=>exact .inr #[_,_,_,_,rfl,hf,hl,hk,c,.inr (.inl #[rfl,rfl])]
 |deep g=>exact .inl #[rfl,rfl]
 |longL e g=>exfalso;omega
end
theorem Zr:∀(ps:List π) (is:List Int) (acc:aF),(∀i∈is,dG i)->GT acc->GT (((ps.map Sum.inr).zip$ is.map HW).foldl (λ(acc:aF) kv=>ax acc kv.1 kv.2) acc)/\(((ps.map Sum.inr).zip$ is.map HW).foldl (λ(acc:aF) kv=>ax acc kv.1 kv.2) acc).length<=acc.length+ps.length
 | [],_,acc,_,h=>#[by simpa using h,Hy]
 |p::ps,[],acc,_,h=>#[by simpa using h,Hy]
 |p::ps,i::is,acc,hi,h=>by let q:=Zr ps is (ax acc (.inr p)$ .int i) (λz hz=>hi z (rz _ hz)) (h.put _$ hi i rc);let l:=zN acc (.inr p) (.int i);refine#[by simpa using q.1,?_];let:=q.2;simp only[HG,List.zip_cons_cons,List.foldl_cons,kz];omega
theorem Dt{P:List df}{C:aF}{m:Int}{n k:Nat}{h:aF}{L:LG}{t:Nat}{o:iE}{T:Tm}{r:bQ}(q:Ex P C m n k (.lf (.gv T) r) h L t o):o= .done (T.ev h) L t:=by
 cases q with
 |gv=>rfl
 |longL e g=>cases e
theorem AE{P:List df}{C:aF}{m:Int}{n k:Nat}{h:aF}{L:LG}{t:Nat}{o:iE}(q:Ex P C m n k .nil h L t o):o= .done 0 L t:=by cases q;rfl
structure Ad(H:Hp)(pA:ε)(P:List df):Prop where
 at':∃xs,H pA=δ (.tup xs)/\eL H P xs
 few:∀d∈P,d.ps.length<=100/\d.body.top<=1000/\d.body.Ok
theorem Ad.mono{H H':Hp}{pA:ε}{P:List df}(h:Ad H pA P)(k:ai H H'):Ad H' pA P:=#[let #[xs,h1,h2]:=h.at';#[xs,k _ _ h1,h2.mono k],h.few]
theorem Du{P:List df}{C:aF}{m:Int}{n k:Nat}{b:bQ}{h:aF}{L:LG}{t:Nat}{o:iE}(q:Ex P C m n k b h L t o):∀a L' t',o= .done a L' t'->t<=t'/\((t:Int)<=m->(t':Int)<=m):=λ_ _ _ e=>AG q e
theorem Jc:∀(b:Bd),b.er.dep=b.dep
 | .nil=>rfl
 | .lf _ _ r=>Jc r
 | .ite _ _ _ a b r=>by show max (max a.er.dep b.er.dep+1) r.er.dep=max (max a.dep b.dep+1) r.dep;rw[Jc a,Jc b,Jc r]
 | .loop _ _ _ a r=>by show max (a.er.dep+1) r.er.dep=max (a.dep+1) r.dep;rw[Jc a,Jc r]
abbrev Fc:ey:=top 64
inductive gQ(n:Nat)(e:List V)(H:Hp)(Q:VK)(b:XK):Prop
 |mk(a d:ε)(T:Tm)(f:List π)(c:aF)(_:e=[.ref a,.ref d])(_:aQ H T a)(_:T.depth < n)(_:T.Good f)(_:H d=δ (.dK c))(_:GT c)(_:∀H',af H H'->Q (.int (T.ev c)) H')
theorem B0:am ["_law_term_here","_law_held","_law_one","_law_other"] z4z (ae Fc):=bY
theorem DS{f:ε}{fd:bm}(F:aK K "_law_worth" "_law_worth" Fc f fd){n:Nat}(cF:Cl P w K mg base (n+1) f fd z4z (gQ n) "_law_worth")(mi:mg "int"=ζ)(mm:mg "max"=ζ):ak P w K mg base aD (n+2) f fd z4z (gQ$ n+1):=by
 refine F.ok B0 ?_ λcdv A outer s H vs Q E hr h=>?_
 .rintro _ _ _ _ ⟨a,d,T,ys,kvs,rfl,_⟩;rfl
 obtain⟨a,d,T,ys,kvs,rfl,ta,dp,gd,hd,gk,q⟩:=h;refine#[_,(jd (jw (jW$ jx$ pv 0) (jg$ jo$ jx$ pv 0) jp)$ jd (jw (jW$ jx$ pv 0) (jg$ jo$ @qy _ _ _ _ _ _ _ _ _ (jQ hr) (pv 1) (jx$ pv 0) jf #[Hv,Hv,Hv,Hv]) jp)$ jd (jy 2 B0.nd$ cF.e hr$ ja (jx$ pv 0)$ ja (pv 1) jb)$ jd (jy 3 B0.nd$ cF.e hr$ ja (jx$ pv 0)$ ja (pv 1) jb)$ jd (jw (jW$ jx$ pv 0) (jg$ jo$ js jr (jG$ ja (jv Jw (pv 2)$ jS (Zy rfl) rfl mm boot_max$ ja jf$ ja (pv 3) jb)$ ja jf jb) (jC kG rfl mi boot_int$ ja (j9 zq (pv 3) jf$ au _) jb) (λ_ _=>rfl)) jp)$ jd (jw (jW$ jx$ pv 0) (jg$ jo$ jC kG rfl mi boot_int$ ja (j9 Kq (pv 2) (pv 3)$ au _) jb) jp)$ jd (jw (jW$ jx$ pv 0) (jg$ jo$ jC kG rfl mi boot_int$ ja (j9 zq (pv 2) (pv 3)$ au _) jb) jp)$ jg$ jo$ jv kY (js jr (jG$ ja (jv jT (pv 2)$ pv 3)$ ja (jv kI (pv 2)$ pv 3)$ ja (jv zo (pv 2)$ pv 3) jb) (kH PySem.F.plainAttrs_str PySem.F.slot_str_index PySem.F.type_str_index rN jj$ ja (jx$ pv 0) jb) (λ_ _=>rfl))$ jv qX jf jf),?_];cases T with
 |num m=>have ha:H a=δ (.tup [.str "num",.int m]):=ta;exact ah λF1 f1=>(jq ha rfl #[rfl,_,rfl,bH Hw$ jq ha rfl$ q H$ af.refl H])
 |var x=>have ha:H a=δ (.tup [.str "var",.str x]):=ta;refine ah λF1 f1=>(jq ha rfl #[rfl,_,rfl,aH Hw$ f1 _ _ ?_]);refine ah λF1 f1=>(jq ha rfl #[rfl,_,rfl,bH Hw #[_,rfl,d,rfl,.inl #[kvs,.inl hd],jq ha rfl #[_,a6.k (k:=Sum.inr x) hd,?_]]]);rw[qC gk];exact q H$ af.refl H
 |op i t1 t2=>
  obtain⟨p1,p2,ha,h1,h2⟩:=ta;let dp':max t1.depth t2.depth+1 < n+1:=dp;refine ah λF1 f1=>(jq ha rfl #[rfl,_,rfl,aH Hw$ f1 _ _ ?_]);clear f1;refine ah λF1 f1=>(jq ha rfl #[rfl,_,rfl,aH Hw$ f1 _ _ ?_]);clear f1;refine ah λF1 f1=>(jq ha rfl #[_,rfl,p1,d,t1,ys,kvs,rfl,h1,Hz,gd.2.1,hd,gk,λH1 s1=>f1 _ _ ?_]);clear f1;refine ah λF1 f1=>(jq (s1 _ _ ha) rfl #[_,rfl,p2,d,t2,ys,kvs,rfl,h2.same s1,Hz,gd.2.2,s1 _ _ hd,gk,λH2 s2=>f1 _ _ ?_]);clear f1;let s12:af H H2:=s1.trans s2;replace ha:=s12 _ _ ha;let qq:∀H',af H2 H'->Q (.int$ jn i (t1.ev kvs)$ t2.ev kvs) H':=λH' s=>q H' (s12.trans s);obtain⟨hx0,hx1⟩:=zM gk gd.2.1;obtain⟨hy0,hy1⟩:=zM gk gd.2.2;let hi:=gd.1;generalize t1.ev kvs=x at*;generalize t2.ev kvs=y at*;rcases(by omega:i=0∨i=1∨i=2∨i=3∨i=4∨i=5) with rfl |rfl |rfl |rfl |rfl |rfl
  .refine ah λF1 f1=>(jq ha rfl #[rfl,_,rfl,aH Hw$ f1 _ _ ?_]);clear f1;refine ah λF1 f1=>(jq ha rfl #[rfl,_,rfl,aH Hw$ f1 _ _ ?_]);clear f1;refine ah λF1 f1=>(jq ha rfl #[rfl,_,rfl,aH Hw$ f1 _ _ ?_]);clear f1;refine#[_,rfl,_,rfl,_,_,rfl,rfl,_,rfl,_,rfl,_,_,rfl,rfl,_,rfl,_,rfl,_,_,rfl,rfl,.inl #[Hz,Hz],eA,λl nl=>?_];let ha':=ao (o:=.lst [.int$ x+y,.int$ x - y,.int$ x*y]) ha nl;refine#[rfl,jq ha' rfl #[_,_,0,[],rfl,rfl,Hw,l,_,_,_,rfl,rfl,aG.of jc,rfl,_,_,rfl,rfl,#[HA,HA,HA],_,_,rfl,rfl,(by show(0:Int) < (10:Int) ^ (18:Int).toNat;decide),?_]];rw[gM];exact qq _$ je nl
  .refine ah λF1 f1=>(jq ha rfl #[rfl,_,rfl,aH Hw$ f1 _ _ ?_]);clear f1;refine ah λF1 f1=>(jq ha rfl #[rfl,_,rfl,aH Hw$ f1 _ _ ?_]);clear f1;refine ah λF1 f1=>(jq ha rfl #[rfl,_,rfl,aH Hw$ f1 _ _ ?_]);clear f1;refine#[_,rfl,_,rfl,_,_,rfl,rfl,_,rfl,_,rfl,_,_,rfl,rfl,_,rfl,_,rfl,_,_,rfl,rfl,.inl #[Hz,Hz],eA,λl nl=>?_];let ha':=ao (o:=.lst [.int$ x+y,.int$ x - y,.int$ x*y]) ha nl;refine#[rfl,jq ha' rfl #[_,_,1,[],rfl,rfl,Hw,l,_,_,_,rfl,rfl,aG.of jc,rfl,_,_,rfl,rfl,#[HA,HA,HA],_,_,rfl,rfl,(by show(0:Int) < (10:Int) ^ (18:Int).toNat;decide),?_]];rw[gM];exact qq _$ je nl
  .refine ah λF1 f1=>(jq ha rfl #[rfl,_,rfl,aH Hw$ f1 _ _ ?_]);clear f1;refine ah λF1 f1=>(jq ha rfl #[rfl,_,rfl,aH Hw$ f1 _ _ ?_]);clear f1;refine ah λF1 f1=>(jq ha rfl #[rfl,_,rfl,aH Hw$ f1 _ _ ?_]);clear f1;refine#[_,rfl,_,rfl,_,_,rfl,rfl,_,rfl,_,rfl,_,_,rfl,rfl,_,rfl,_,rfl,_,_,rfl,rfl,.inl #[Hz,Hz],eA,λl nl=>?_];let ha':=ao (o:=.lst [.int$ x+y,.int$ x - y,.int$ x*y]) ha nl;refine#[rfl,jq ha' rfl #[_,_,2,[],rfl,rfl,Hw,l,_,_,_,rfl,rfl,aG.of jc,rfl,_,_,rfl,rfl,#[HA,HA,HA],_,_,rfl,rfl,(by show(0:Int) < (10:Int) ^ (18:Int).toNat;decide),?_]];rw[gM];exact qq _$ je nl
  .refine ah λF1 f1=>(jq ha rfl #[rfl,_,rfl,bH Hw ?_]);refine#[_,rfl,_,rfl,_,_,rfl,_,_,rfl,rfl,#[by split<;>omega,by split<;>omega],bK,λl nl=>?_];let q':=qq _ (je (o:=.lst [.int$ x / (if (y:Int) > 1 then y else 1),.int 0]) nl);let q2:Q (.int (if y=0 then 0 else x / y)) (aj H2 l$ .lst [.int$ x / (if (y:Int) > 1 then y else 1),.int 0]):=q';refine#[_,rfl,rfl,.inr #[_,rfl,l,_,_,_,rfl,rfl,aG.of jc,(?_:dC _ _=δ (.int (if y=0 then 0 else x / y))),q2]];by_cases e:y=0
   .rw[e];rfl
   .rw[if_neg e,decide_eq_false (λz=>e (by injection z))];show δ (HW$ x / (if (y:Int) > 1 then y else 1))=_;by_cases g:(y:Int) > 1
    .rw[if_pos g]
    .rw[if_neg g,show y=1 by omega]
  .refine ah λF1 f1=>(jq ha rfl #[rfl,_,rfl,aH Hw$ f1 _ _ ?_]);clear f1;refine ah λF1 f1=>(jq ha rfl #[rfl,_,rfl,bH Hw ?_]);let q':Q (.int (if x < y then 1 else 0)) H2:=qq _ (af.refl H2);refine#[_,rfl,_,rfl,_,_,rfl,rfl,.inr #[_,rfl,?_]];by_cases e:x < y
   .rw[if_pos e]at q';rw[decide_eq_true e];exact q'
   .rw[if_neg e]at q';rw[decide_eq_false e];exact q'
  .refine ah λF1 f1=>(jq ha rfl #[rfl,_,rfl,aH Hw$ f1 _ _ ?_]);clear f1;refine ah λF1 f1=>(jq ha rfl #[rfl,_,rfl,aH Hw$ f1 _ _ ?_]);clear f1;refine ah λF1 f1=>(jq ha rfl #[rfl,_,rfl,bH Hw ?_]);let q':Q (.int (if x=y then 1 else 0)) H2:=qq _ (af.refl H2);refine#[_,rfl,_,rfl,rfl,.inr #[_,rfl,?_]];by_cases e:x=y
   .rw[if_pos e]at q';rw[decide_eq_true (by rw[e])];exact q'
   .rw[if_neg e]at q';rw[decide_eq_false (λz=>e (by injection z))];exact q'
theorem DK{f:ε}{fd:bm}:ak P w K mg base aD 1 f fd z4z (gQ 0):=by
 let no:∀vs H Q E,¬gQ 0 vs H Q E:=λvs H Q E h=>by obtain⟨a,d,T,ys,kvs,_,_,h1,_⟩:=h;exact absurd h1$ Nat.not_lt_zero _
 exact#[λvs H Q E h=>absurd h (no vs H Q E),λA outer s H args us vs Q E _ _ _ _ h=>absurd h (no vs H Q E)]
theorem EZ{f:ε}{fd:bm}(F:aK K "_law_worth" "_law_worth" Fc f fd)(bF:ay K fd z4z [])(mF:mg "_law_worth"=δ (.ref f))(mi:mg "int"=ζ)(mm:mg "max"=ζ):
  ∀n:Nat,ak P w K mg base aD (n+1) f fd z4z (gQ n)
 |0=>DK
 |n+1=>DS F #[(EZ F bF mF mi mm n),bF,F.kp,mF] mi mm
abbrev nk:ey:=top 65
def stk(hA wA:ε)(t:Nat)(m:Int)(w:π)(gA:ε):aF:=[(.inr "holds",.ref hA),(.inr "wrote",.ref wA),(.inr "turns",.int (t:Int)),(.inr "most",.int m),(.inr "word",.str w),(.inr "log",.ref gA)]
structure Sx(C:aF)(H:Hp)(sA hA wA gA:ε)(L:LG)(t:Nat)(m:Int)(w:π):Prop where
 st:H sA=δ (.dK$ stk hA wA t m w gA)
 ho:∃HD,H hA=δ (.dK HD)/\GT HD/\HD.length<=20+t/\∀c,look HD (.inl c) 0=look L.1 (.inl c) (look C (.inl c) 0)
 wr:H wA=δ (.dK L.1)
 lg:∃xs,H gA=δ (.lst xs)/\ye H L t xs
 gL:GT L.1
 lL:L.1.length<=t
 n1:sA≠hA
 n2:sA≠wA
 n3:hA≠wA
def Fr(sA hA wA gA:ε)(H H':Hp):Prop:=∀b o,b≠sA->b≠hA->b≠wA->b≠gA->H b=δ o->H' b=δ o
theorem Fr.trans{sA hA wA gA:ε}{H H1 H2:Hp}(a:Fr sA hA wA gA H H1)(b:Fr sA hA wA gA H1 H2):Fr sA hA wA gA H H2:=λc o n1 n2 n3 n4 e=>b c o n1 n2 n3 n4 (a c o n1 n2 n3 n4 e)
theorem Fr.of_same{sA hA wA gA:ε}{H H':Hp}(s:af H H'):Fr sA hA wA gA H H':=λb o _ _ _ _ e=>s _ _ e
section
variable {C:aF}{H H':Hp}{sA hA wA gA:ε}{L:LG}{t:Nat}{m:Int}{w:π}
theorem Fr.tm(f:Fr sA hA wA gA H H')(S:Sx C H sA hA wA gA L t m w):ai H H':=λb xs e=>by obtain⟨HD,h1,_⟩:=S.ho;obtain⟨ys,h2,_⟩:=S.lg;exact f b _ (jE e S.st (by intro z;cases z)) (jE e h1 (by intro z;cases z)) (jE e S.wr (by intro z;cases z)) (jE e h2 (by intro z;cases z)) e
theorem Sx.same(S:Sx C H sA hA wA gA L t m w)(s:af H H'):Sx C H' sA hA wA gA L t m w:=by obtain⟨HD,h1,h2⟩:=S.ho;obtain⟨ys,g1,g2⟩:=S.lg;exact#[s _ _ S.st,#[HD,s _ _ h1,h2],s _ _ S.wr,#[ys,s _ _ g1,g2.mono$ af.tm s],S.gL,S.lL,S.n1,S.n2,S.n3]
theorem Sx.put(S:Sx C H sA hA wA gA L t m w){t2:Nat}(h:t<=t2)(w2:π):Sx C (aj H sA$ .dK$ stk hA wA t2 m w2 gA) sA hA wA gA L t2 m w2:=by obtain⟨HD,h1,h2,h3,h4⟩:=S.ho;obtain⟨ys,g1,g2⟩:=S.lg;let l1:=S.lL;exact#[jc,#[HD,(ji$ Ne.symm S.n1).trans h1,h2,Hz,h4],(ji$ Ne.symm S.n2).trans S.wr,#[ys,(ji$ jE g1 S.st (by intro z;cases z)).trans g1,g2.up (q9 S.st) h],S.gL,Hz,S.n1,S.n2,S.n3]
end
inductive dw(f:List V)(H:Hp)(Q:VK)(a:XK):Prop
 |mk(C:aF)(d c g b:ε)(L:LG)(t:Nat)(m:Int)(v:V)(e:En)(_:f=[.ref d,v])(_:aN H (iI e) v [])(_:Sx C H d c g b L t m "told")(_:(t:Int)<=m)(_:m<=300)(_:(t:Int)=m->∀H',Sx C H' d c g b L t m "long"->Fr d c g b H H'->Q (.bl ν) H')(_:(t:Int) < m->∀H',Sx C H' d c g b (L.ad e) (t+1) m "told"->Fr d c g b H H'->Fr d d d b H H'->Q (.bl μ) H')
theorem xt:am z15z z15z (ae nk):=bY
theorem sg{f:ε}{fd:bm}(F:aK K "_law_turn" "_law_turn" nk f fd):ak P w K mg base aD 1 f fd z15z dw:=by
 refine F.ok xt ?_ λcdv A outer s H vs Q E hr h=>?_
 .rintro _ _ _ _ ⟨C,sA,hA,wA,gA,L,t,m,v,en,rfl,_⟩;rfl
 obtain⟨C,sA,hA,wA,gA,L,t,m,v,en,rfl,he,S,htm,hm,qL,qT⟩:=h;refine#[_,(jd (jw (jB zq (ke (jQ hr) (pv 0) jj (λ_ _=>rfl)) (ke (jQ hr) (pv 0) jj (λ_ _=>rfl))$ au _) (jd (kf (jQ hr) (pv 0) jj jj rfl)$ jg$ jo$ @Jg _ _ _ _) jp)$ jd (kf (jQ hr) (pv 0) jj (jv jT (ke (jQ hr) (pv 0) jj (λ_ _=>rfl)) jf) rfl)$ jd (jR$ kH mU tf ti jP (ke (jQ hr) (pv 0) jj (λ_ _=>rfl))$ ja (pv 1) jb)$ jg$ jo$ @Jg _ _ _ _),?_];let big:=aI;let g1:a6 H sA (HV "turns") (δ$ .int (t:Int)):=a6.k (k:=.inr "turns") S.st;let g2:a6 H sA (HV "most") (δ$ .int m):=a6.k (k:=.inr "most") S.st;refine ah λF1 f1=>#[_,rfl,sA,_,rfl,g1,_,rfl,sA,_,rfl,g2,rfl,_,rfl,?_];by_cases c:(t:Int)=m
 .refine bH (by rw[c];exact decide_eq_true rfl) ?_;refine ah λF2 f2=>#[_,rfl,sA,_,rfl,dU.k (k:=.inr "word") S.st (by show 6 < υ;omega),f2 _ _ ?_];exact qL c _ (S.put (β _) "long") (λb o n1 _ _ _ e=>by rw[ji n1];exact e)
 refine aH (decide_eq_false (λz=>c (by injection z)))$ f1 _ _ ?_;clear f1;refine ah λF1 f1=>#[_,rfl,sA,_,rfl,g1,_,_,rfl,rfl,_,rfl,sA,_,rfl,dU.k (k:=.inr "turns") S.st (by show 6 < υ;omega),f1 _ _ ?_];clear f1;obtain⟨ys,l1,l2⟩:=S.lg;let hg0:aj H sA (.dK$ stk hA wA (t+1) m "told" gA) gA=δ (.lst ys):=(ji$ jE l1 S.st (by intro z;cases z)).trans l1;let S1:=S.put (Nat.le_succ t) "told";let F0:Fr sA sA sA gA H (aj H sA$ .dK$ stk hA wA (t+1) m "told" gA):=λb o n1 _ _ _ e=>by rw[ji n1];exact e
 show cR _ _ _ _ (aj H sA$ .dK$ stk hA wA (t+1) m "told" gA);let he1:=he.mono (q9 (o:=.dK (stk hA wA (t+1) m "told" gA)) S.st);let l3:=l2.up (q9 (o:=.dK (stk hA wA (t+1) m "told" gA)) S.st) (β t);generalize aj H sA (.dK$ stk hA wA (t+1) m "told" gA)=H1 at S1 F0 hg0 he1 l3;obtain⟨HD,h1,h2,h3,h4⟩:=S1.ho;let hg:H1 gA=δ (.lst ys):=hg0;let g3:a6 H1 sA (HV "log") (δ$ .ref gA):=a6.k (k:=.inr "log") S1.st;refine ah λF1 f1=>#[_,rfl,sA,_,rfl,g3,.inl #[rfl,_,aG.of hg],_,rfl,gA,_,_,rfl,rfl,hg,by let:=l3.1.len;let:=l3.2;omega,f1 _ _ ?_];clear f1;let n5:sA≠gA:=jE S1.st hg (by intro z;cases z);let n6:hA≠gA:=jE h1 hg (by intro z;cases z);let n7:wA≠gA:=jE S1.wr hg (by intro z;cases z);exact qT Hz _ #[(ji n5).trans S1.st,#[HD,(ji n6).trans h1,h2,h3,h4],(ji n7).trans S1.wr,#[_,jc,(l3.1.app$ iD.one he1).mono$ zh hg,by show(L.2++[en]).length<=t+1;rw[fz];let:=l3.2;show L.2.length+1<=_;omega],S1.gL,S1.lL,S1.n1,S1.n2,S1.n3] (λb o a1 a2 a3 a4 e=>by rw[ji a4];exact F0 b o a1 a1 a1 a4 e) (λb o a1 a2 a3 a4 e=>by rw[ji a4];exact F0 b o a1 a2 a3 a4 e)
abbrev Ed:ey:=top 66
abbrev Eb:ey:=top 67
abbrev Ea:ey:=top 68
abbrev Ec:ey:=top 69
def uZ(P:List df):Prop:=P.length<=1000/\∀d∈P,d.body.dep<=5
structure dq(C:aF)(P:List df)(H:Hp)(pA kA sA hA wA gA:ε)(h:aF)(L:LG)(t k:Nat)(m deep:Int)(n:Nat):Prop where
 dp:deep+(n:Int)=15
 pr:Ad H pA P
 sx:Sx C H sA hA wA gA L t m "told"
 kh:H kA=δ (.dK h)
 gh:GT h
 k1:kA≠sA
 k2:kA≠hA
 k3:kA≠wA
 lh:h.length+k<=130100
 tm:(t:Int)<=m
 mm:m<=300
 kk:k<=130000
 fp:uZ P
def Fk(kA sA hA wA gA:ε)(H H':Hp):Prop:=∀b o,b≠kA->b≠sA->b≠hA->b≠wA->b≠gA->H b=δ o->H' b=δ o
theorem Fk.refl{kA sA hA wA gA:ε}{H:Hp}:Fk kA sA hA wA gA H H:=λ_ _ _ _ _ _ _ e=>e
theorem Fk.trans{kA sA hA wA gA:ε}{H H1 H2:Hp}(a:Fk kA sA hA wA gA H H1)(b:Fk kA sA hA wA gA H1 H2):Fk kA sA hA wA gA H H2:=λc o n0 n1 n2 n3 n4 e=>b c o n0 n1 n2 n3 n4 (a c o n0 n1 n2 n3 n4 e)
theorem Fk.of_same{kA sA hA wA gA:ε}{H H':Hp}(s:af H H'):Fk kA sA hA wA gA H H':=λb o _ _ _ _ _ e=>s _ _ e
theorem Fr.k{kA sA hA wA gA:ε}{H H':Hp}(f:Fr sA hA wA gA H H'):Fk kA sA hA wA gA H H':=λb o _ n1 n2 n3 n4 e=>f b o n1 n2 n3 n4 e
section
variable {C:aF}{P:List df}{H H':Hp}{pA kA sA hA wA gA:ε}{h:aF}{L:LG}{t k:Nat}{m deep:Int}{n:Nat}
theorem dq.tm'(R:dq C P H pA kA sA hA wA gA h L t k m deep n)(f:Fk kA sA hA wA gA H H'):ai H H':=λb xs e=>by obtain⟨HD,h1,_⟩:=R.sx.ho;obtain⟨ys,h2,_⟩:=R.sx.lg;exact f b _ (jE e R.kh (by intro z;cases z)) (jE e R.sx.st (by intro z;cases z)) (jE e h1 (by intro z;cases z)) (jE e R.sx.wr (by intro z;cases z)) (jE e h2 (by intro z;cases z)) e
theorem dq.same(R:dq C P H pA kA sA hA wA gA h L t k m deep n)(s:af H H'):dq C P H' pA kA sA hA wA gA h L t k m deep n:=
 #[R.dp,R.pr.mono$ af.tm s,R.sx.same s,s _ _ R.kh,R.gh,R.k1,R.k2,R.k3,R.lh,R.tm,R.mm,R.kk,R.fp]
theorem dq.ng(R:dq C P H pA kA sA hA wA gA h L t k m deep n):kA≠gA:=by obtain⟨ys,h2,_⟩:=R.sx.lg;exact jE R.kh h2 (by intro z;cases z)
theorem dq.turn(R:dq C P H pA kA sA hA wA gA h L t k m deep n){t':Nat}{L':LG}{k':Nat}(S:Sx C H' sA hA wA gA L' t' m "told")(f:Fr sA hA wA gA H H')(e:(t':Int)<=m)(l:k'<=k):dq C P H' pA kA sA hA wA gA h L' t' k' m deep n:=
 #[R.dp,R.pr.mono$ f.tm R.sx,S,f _ _ R.k1 R.k2 R.k3 R.ng R.kh,R.gh,R.k1,R.k2,R.k3,by let:=R.lh;omega,e,R.mm,by let:=R.kk;omega,R.fp]
theorem dq.put(R:dq C P H pA kA sA hA wA gA h L t k m deep n){k':Nat}{x:π}{i:Int}(hi:dG i)(l:k'+1<=k):dq C P (aj H kA$ .dK$ ax h (.inr x)$ .int i) pA kA sA hA wA gA (ax h (.inr x)$ .int i) L t k' m deep n:=by
 let tm:ai H (aj H kA$ .dK$ ax h (.inr x)$ .int i):=λb xs e=>by rw[ji$ jE e R.kh (by intro z;cases z)];exact e
 obtain⟨HD,h1,h2⟩:=R.sx.ho;obtain⟨ys,g1,g2⟩:=R.sx.lg;let pl:=zN h (.inr x) (.int i);exact#[R.dp,R.pr.mono tm,#[(ji$ Ne.symm R.k1).trans R.sx.st,#[HD,(ji$ Ne.symm R.k2).trans h1,h2],(ji$ Ne.symm R.k3).trans R.sx.wr,#[ys,(ji$ Ne.symm R.ng).trans g1,g2.mono tm],R.sx.gL,R.sx.lL,R.sx.n1,R.sx.n2,R.sx.n3],jc,R.gh.put _ hi,R.k1,R.k2,R.k3,by let:=R.lh;omega,R.tm,R.mm,by let:=R.kk;omega,R.fp]
theorem KL(v:HO):Fk kA sA hA wA gA H (aj H kA v):=λb o n0 _ _ _ _ e=>by rw[ji n0];exact e
end
def Fo(C:aF)(P:List df)(H:Hp)(pA kA sA hA wA gA:ε)(m deep:Int)(n k:Nat)(r:bQ)(o:iE)(G:Hp->Prop):Prop:=∀(h':aF) (L':LG) (t' k':Nat) (H':Hp),dq C P H' pA kA sA hA wA gA h' L' t' k' m deep n->Ex P C m n k' r h' L' t' o->k'<=k->Fk kA sA hA wA gA H H'->G H'
def pF(C:aF)(H:Hp)(kA sA hA wA gA:ε)(m:Int)(o:iE)(G:Hp->Prop):Prop:=∀(w:π) (L':LG) (t':Nat) (H':Hp),(o= .long/\w="long"∨o= .deep/\w="deep")->Sx C H' sA hA wA gA L' t' m w->Fk kA sA hA wA gA H H'->G H'
def yc(C:aF)(H:Hp)(kA sA hA wA gA:ε)(m:Int)(o:iE)(G:Int->Hp->Prop):Prop:=∀(x:Int) (L':LG) (t':Nat) (H':Hp),o= .done x L' t'->Sx C H' sA hA wA gA L' t' m "told"->dG x->Fk kA sA hA wA gA H H'->G x H'
inductive me(n d:Nat)(p:List V)(H:Hp)(Q:VK)(c:XK):Prop
 |mk(C:aF)(P:List df)(e j i l g q f:ε)(s:List V)(a r:bQ)(h:aF)(L:LG)(t k:Nat)(m b:Int)(o:iE)(_:p=[.ref j,.ref e,.ref i,.ref l,.int b])(_:dq C P H j i l g q f h L t k m b n)(_:H e=δ (.tup s))(_:dW H a s)(_:a.Ok)(_:a.dep < d)(_:Ex P C m n k (a.app r) h L t o)(_:Fo C P H j i l g q f m b n k r o (λH'=>∀rr,H' rr=δ (.tup [.str "on"])->Q (.ref rr) H'))(_:pF C H i l g q f m o (λH'=>∀rr,H' rr=δ (.tup [.str "stop"])->Q (.ref rr) H'))(_:yc C H i l g q f m o (λx H'=>∀rr,H' rr=δ (.tup [.str "give",.int x])->Q (.ref rr) H'))
inductive Cn(n d:Nat)(s:List V)(H:Hp)(Q:VK)(c:XK):Prop
 |mk(C:aF)(P:List df)(j q e l i p g u f:ε)(v:List V)(T:Tm)(a r:bQ)(h:aF)(L:LG)(t k:Nat)(m b:Int)(o:iE)(_:s=[.ref l,.ref j,.ref i,.ref p,.int b])(_:dq C P H l i p g u f h L t k m b n)(_:H j=δ (.tup [.str "while",.ref q,.ref e]))(_:aQ H T q)(_:iF T)(_:H e=δ (.tup v))(_:dW H a v)(_:a.Ok)(_:a.dep < d)(_:Ex P C m n k (.loop T a r) h L t o)(_:Fo C P H l i p g u f m b n k r o (λH'=>∀rr,H' rr=δ (.tup [.str "on"])->Q (.ref rr) H'))(_:pF C H i p g u f m o (λH'=>∀rr,H' rr=δ (.tup [.str "stop"])->Q (.ref rr) H'))(_:yc C H i p g u f m o (λx H'=>∀rr,H' rr=δ (.tup [.str "give",.int x])->Q (.ref rr) H'))
inductive xF(n:Nat)(j:List V)(H:Hp)(Q:VK)(b:XK):Prop
 |mk(C:aF)(P:List df)(f g e i d p c:ε)(l:pE)(r:bQ)(h:aF)(L:LG)(t k:Nat)(m a:Int)(o:iE)(_:j=[.ref g,.ref f,.ref e,.ref i,.int a])(_:dq C P H g e i d p c h L t k m a n)(_:oF H (.ref f) l)(_:l.Ok)(_:l.turn=μ)(_:Ex P C m n k (.lf l r) h L t o)(_:Fo C P H g e i d p c m a n k r o (λH'=>Q (.bl μ) H'))(_:pF C H e i d p c m o (λH'=>Q (.bl ν) H'))
inductive WL(C:aF)(P:List df)(v u p w k x j:ε)(T:Tm)(a r:bQ)(m b:Int)(n l:Nat)(o:iE)(H:Hp)(M:Nat)(y:_L.St)(c:Hp):Prop
 |mk(q s:Option V)(h:aF)(L:LG)(t:Nat)(d:y=[δ (.ref v),δ (.ref u),δ (.ref p),δ (.ref w),δ (.int b),q,s])(e:dq C P c v p w k x j h L t M m b n)(f:Ex P C m n M (.loop T a r) h L t o)(g:M<=l)(i:Fk p w k x j H c)
theorem BZ:am ["_law_program","_law_one","_law_held","_law_state","_law_deep","_law_test","_law_found"] z9z (ae Ed):=bY
theorem DR{f:ε}{fd:bm}{fW fT fB:ε}{fdW fdT fdB:bm}(F:aK K "_law_looped_run" "_law_looped_run" Ed f fd){n d:Nat}(cW:Cl P w K mg base 9 fW fdW z4z (gQ 8) "_law_worth")(cT:Cl P w K mg base 1 fT fdT z15z dw "_law_turn")(cB:Cl P w K mg base (13*n+2*d+9) fB fdB z14z (me n d) "_law_body_run")(mi:mg "int"=ζ):ak P w K mg base aD (13*n+2*d+10) f fd z9z (Cn n d):=by
 refine F.ok BZ ?_ λcdv A outer s H vs Q E hr h=>?_
 .rintro _ _ _ _ ⟨C,P0,oA,tA,bA,pA,kA,sA,hA,wA,gA,xs,T,a,r,h,L,t,k,m,deep,o,rfl,_⟩;rfl
 obtain⟨C,P0,oA,tA,bA,pA,kA,sA,hA,wA,gA,xs,T,a,r,h,L,t,k,m,deep,o,rfl,R,ho,hT,oT,hb,hba,oka,hda,hx,qO,qS,qG⟩:=h;refine#[_,(jg$ KM PassesOwn.never (JK$ @Jg _ _ _ _)$ jd (jy 5 BZ.nd$ jC kG rfl mi boot_int$ ja (j9 JV (cW.e hr.m$ ja (jx$ pv 1)$ ja (pv 2) jb) jf$ au _) jb)$ jd (jw (Kz$ JK$ cT.e hr.m$ ja (pv 3)$ ja (jh$ ja jj$ ja (pv 5) jb) jb) (jg$ jo$ jh$ ja jj jb) jp)$ jd (jw (zc$ pv 5) (jg$ jo$ jh$ ja jj jb) jp)$ jd (jy 6 BZ.nd$ cB.e hr$ ja (pv 0)$ ja (jx$ pv 1)$ ja (pv 2)$ ja (pv 3)$ ja (pv 4) jb)$ jg$ jw (jB JV (jx$ pv 6) jj$ au _) (jg$ jo$ pv 6) jp),?_];let big:=aI;refine nJ (WL C P0 pA oA kA sA hA wA gA T a r m deep n k o H) k #[ζ,ζ,h,L,t,rfl,R,hx,β _,Fk.refl] ?_;let R0tm:∀{H':Hp},Fk kA sA hA wA gA H H'->ai H H':=λf=>R.tm' f;intro M σ H3 E hE fN G yT yF Gq kq hh;obtain⟨o5,o6,h,L,t,rfl,R3,hx3,hM,f3⟩:=hh;refine kq ?_;clear kq R hx yF;refine#[_,rfl,yT _ ?_];clear yT;let tm3:=R0tm f3;let o3:=tm3 _ _ ho;obtain⟨d1,ys,d2⟩:=id oT;refine ah λF1 f1=>(jq o3 rfl #[_,rfl,tA,kA,T,ys,h,rfl,hT.mono tm3,d1,d2,R3.kh,R3.gh,λH4 s4=>#[rfl,.inr #[_,rfl,?_]]]);let ev:(if (!decide (HW (T.ev h)=HW 0))=μ then (1:Int) else 0)=if T.ev h=0 then 0 else 1:=by
  by_cases z:T.ev h=0
  .rw[z];rfl
  .rw[decide_eq_false (λy=>z (by injection y)),if_neg z];rfl
 show F1 [δ$ .ref pA,δ$ .ref oA,δ$ .ref kA,δ$ .ref sA,δ$ .int deep,δ$ .int (if (!decide (HW (T.ev h)=HW 0))=μ then (1:Int) else 0),o6] H4;rw[ev];refine f1 _ _ ?_;clear f1;let R4:=R3.same s4;let f4:Fk kA sA hA wA gA H H4:=f3.trans (Fk.of_same s4);clear R3 f3 s4 tm3 o3 ev;refine ah λF1 f1=>#[_,rfl,_,rfl,bK,λen nen=>?_];let R5:=R4.same (je (o:=.tup [.str "ask",.int (if T.ev h=0 then 0 else 1)]) nen);let f5:Fk kA sA hA wA gA H (aj H4 en$ .tup [.str "ask",.int (if T.ev h=0 then 0 else 1)]):=f4.trans (Fk.of_same$ je nen);let he:=Aj (H:=aj H4 en (.tup [.str "ask",.int (if T.ev h=0 then 0 else 1)])) jc;generalize aj H4 en (.tup [.str "ask",.int (if T.ev h=0 then 0 else 1)])=H5 at R5 f5 he;clear R4 f4 nen;refine#[C,sA,hA,wA,gA,L,t,m,_,_,rfl,he,R5.sx,R5.tm,R5.mm,λet H6 S6 f6=>#[_,rfl,bH rfl #[gZ,λrr nrr=>?_]],λlt H6 S6 f6 _=>#[_,rfl,aH rfl$ f1 _ _ ?_]]
 .clear f1;show E.rt _ _;rw[hE];exact qS "long" L t _ (.inl #[Ju hx3 rfl Hz,rfl]) (S6.same$ je nrr) ((f5.trans f6.k).trans$ Fk.of_same$ je nrr) rr jc
 clear f1;obtain⟨k',rfl,hx'⟩:=vq hx3 lt;let R6:=R5.turn S6 f6 (k':=k') Hz Hz;let F6:=f5.trans f6.k;let tm6:=R0tm F6;clear hx3 R5 f5 f6 S6;refine ah λF1 f1=>#[_,rfl,rfl,_,rfl,?_];by_cases ez:T.ev h=0
 .replace hx':Ex P0 C m n k' r h (L.ad$ .ask (if T.ev h=0 then 0 else 1)) (t+1) o:=by rw[if_pos ez (c:=T.ev h=0) (t:=r)]at hx';exact hx'
  generalize L.ad (.ask (if T.ev h=0 then 0 else 1))=LL at*;rw[if_pos ez];refine bH Hv #[gZ,λrr nrr=>?_];show E.rt _ _;rw[hE];exact qO h _ (t+1) k' _ (R6.same$ je nrr) hx' Hz (F6.trans$ Fk.of_same$ je nrr) rr jc
 replace hx':Ex P0 C m n k' (a.app$ .loop T a r) h (L.ad$ .ask (if T.ev h=0 then 0 else 1)) (t+1) o:=by rw[if_neg ez (c:=T.ev h=0) (t:=r)]at hx';exact hx'
 generalize L.ad (.ask (if T.ev h=0 then 0 else 1))=LL at*;rw[if_neg ez];refine aH Hv$ f1 _ _ ?_;clear f1;refine ah λF1 f1=>#[_,rfl,jq (tm6 _ _ ho) rfl #[_,rfl,_,rfl,_,rfl,C,P0,bA,pA,kA,sA,hA,wA,gA,xs,a,.loop T a r,h,_,t+1,k',m,deep,o,rfl,R6,tm6 _ _ hb,hba.mono tm6,oka,hda,hx',?_,?_,?_]]
 .intro h7 L7 t7 k7 H7 R7 x7 l7 f7 rr hrr;refine f1 _ _ ?_;refine(jq hrr rfl #[rfl,_,rfl,aH Hw ?_]);exact fN k7 _ _ Hz #[_,_,h7,L7,t7,rfl,R7,x7,Hz,F6.trans f7]
 .intro w L7 t7 H7 ew S7 f7 rr hrr;refine f1 _ _ ?_;refine(jq hrr rfl #[rfl,_,rfl,bH Hw #[_,rfl,?_]]);show E.rt _ _;rw[hE];exact qS w L7 t7 H7 ew S7 (F6.trans f7) rr hrr
 .intro x L7 t7 H7 ew S7 ix f7 rr hrr;refine f1 _ _ ?_;refine(jq hrr rfl #[rfl,_,rfl,bH Hw #[_,rfl,?_]]);show E.rt _ _;rw[hE];exact qG x L7 t7 H7 ew S7 ix (F6.trans f7) rr hrr
theorem XS{bs:List V}{i:Nat}{x:V}(h:bs[i]?=δ x):bs.drop i=x::bs.drop (i+1):=by obtain⟨hi,e⟩:=τ.mp h;rw[List.drop_eq_getElem_cons hi,e]
inductive BL(C:aF)(P:List df)(e D y E w F v:ε)(G:List V)(r:bQ)(d:Nat)(m b:Int)(n x:Nat)(o:iE)(H:Hp)(i:Nat)(I:_L.St)(c:Hp):Prop
 |mk(z A B:Option V)(a:bQ)(h:aF)(L:LG)(t k:Nat)(f:I=[δ (.ref D),δ (.ref e),δ (.ref y),δ (.ref E),δ (.int b),z,A,B])(g:dW c a (G.drop i))(j:a.Ok)(l:a.dep < d)(p:dq C P c D y E w F v h L t k m b n)(q:Ex P C m n k (a.app r) h L t o)(s:k<=x)(u:Fk y E w F v H c)
theorem oW:am ["_law_program","_law_body_here","_law_held","_law_state","_law_deep","_law_one","_law_found","_law_test"] z14z (ae Ea):=bY
theorem DO{f:ε}{fd:bm}{fW fT fD fL fB:ε}{fdW fdT fdD fdL fdB:bm}(F:aK K "_law_body_run" "_law_body_run" Ea f fd){n d:Nat}(cW:Cl P w K mg base 9 fW fdW z4z (gQ 8) "_law_worth")(cT:Cl P w K mg base 1 fT fdT z15z dw "_law_turn")(cD:Cl P w K mg base (13*n+10) fD fdD z9z (xF n) "_law_deed_run")(cL:Cl P w K mg base (13*n+2*d+10) fL fdL z9z (Cn n d) "_law_looped_run")(cB:Cl P w K mg base (13*n+2*d+9) fB fdB z14z (me n d) "_law_body_run")(mi:mg "int"=ζ):ak P w K mg base aD (13*n+2*d+11) f fd z14z (me n$ d+1):=by
 refine F.ok oW ?_ λcdv A outer s H vs Q E hr h=>?_
 .rintro _ _ _ _ ⟨C,P0,bA,pA,kA,sA,hA,wA,gA,xs,a,r,h,L,t,k,m,deep,o,rfl,_⟩;rfl
 obtain⟨C,P0,bA,pA,kA,sA,hA,wA,gA,xs,a,r,h,L,t,k,m,deep,o,rfl,R,hb,hba,oka,hda,hx,qO,qS,qG⟩:=h;refine#[_,(jd (kX PassesOwn.never rfl (zn$ pv 1) (ju (i:=5) oW.nd rfl$ ω rfl)$ jd (jy 6 oW.nd$ jh$ ja jj jb)$ jd (jw (jW$ jx$ pv 5) (jg$ kf (jQ hr) (pv 2) (jx$ pv 5) (cW.e hr.m$ ja (jx$ pv 5)$ ja (pv 2) jb) rfl)$ jg$ jw (jW$ jx$ pv 5) (jg$ jo$ jh$ ja jj$ ja (cW.e hr.m$ ja (jx$ pv 5)$ ja (pv 2) jb) jb)$ jg$ jw (jW$ jx$ pv 5) (jg$ jy 6 oW.nd$ cL.e hr.m$ ja (pv 0)$ ja (pv 5)$ ja (pv 2)$ ja (pv 3)$ ja (pv 4) jb)$ jg$ jw (jW$ jx$ pv 5) (jd (jy 7 oW.nd$ jC kG rfl mi boot_int$ ja (j9 JV (cW.e hr.m$ ja (jx$ pv 5)$ ja (pv 2) jb) jf$ au _) jb)$ jd (jw (Kz$ JK$ cT.e hr.m$ ja (pv 3)$ ja (jh$ ja jj$ ja (pv 7) jb) jb) (jg$ jo$ jh$ ja jj jb) jp)$ jg$ jy 6 oW.nd$ cB.e hr.m$ ja (pv 0)$ ja (js j7 (pv 5) (jv kI jf$ pv 7) (λ_ _=>rfl))$ ja (pv 2)$ ja (pv 3)$ ja (pv 4) jb)$ jg$ jw (Kz$ JK$ cD.e hr.m$ ja (pv 0)$ ja (pv 5)$ ja (pv 2)$ ja (pv 3)$ ja (pv 4) jb) (jg$ jo$ jh$ ja jj jb) jp)$ jg$ jw (jB JV (jx$ pv 6) jj$ au _) (jg$ jo$ pv 6) jp)$ jg$ jo$ jh$ ja jj jb),?_];let big:=aI;let R0tm:∀{H':Hp},Fk kA sA hA wA gA H H'->ai H H':=λf=>R.tm' f;refine ah λF1 f1=>gu λJ j=>#[_,rfl,bA,rfl,#[_,aC.of hb],j _ _ ?_];clear j;refine qA (K:=K) (xs:=xs) (BL C P0 bA pA kA sA hA wA gA xs r (d+1) m deep n k o H) #[ζ,ζ,ζ,a,h,L,t,k,rfl,hba,oka,hda,R,hx,β _,Fk.refl] (λi σ H' _ h=>by obtain⟨_,_,_,_,_,_,_,_,_,_,_,_,_,_,_,f⟩:=h;exact aC.of$ R0tm f _ _ hb) ?_ (λσ H' h=>f1 _ _ ?_)
 .clear f1 R hx hba oka hda;intro E0 hE i v σ H3 hv fE Gq kq hh;obtain⟨o5,o6,o7,a,h,L,t,k',rfl,hbd,hok,hdp,R3,hx3,hk3,f3⟩:=hh;refine kq ?_;clear kq;rw[XS hv]at hbd;show cR (dn _ _) _ E0 _ _;refine ah λF1 f1=>#[gZ,λfo nfo=>f1 _ _ ?_];clear f1;let s4:af H3 (aj H3 fo$ .tup [.str "on"]):=je nfo;let xfo:aj H3 fo (.tup [.str "on"]) fo=δ (.tup [.str "on"]):=jc;generalize aj H3 fo (.tup [.str "on"])=H4 at s4 xfo;let R4:=R3.same s4;let f4:Fk kA sA hA wA gA H H4:=f3.trans (Fk.of_same s4);replace hbd:=hbd.mono (af.tm s4);clear R3 f3 s4 nfo;refine ah λF1 f1=>?_;cases a with
  |nil=>cases (show _=[] from hbd)
  |lf l rest=>
   obtain⟨v',ws,ev,hlf,hbd⟩:=hbd;injection ev with ev1 ev2;subst ev1;subst ev2;obtain⟨ok1,ok2⟩:=hok;let hd2:rest.dep < d+1:=hdp;let hx4:Ex P0 C m n k' (.lf l$ rest.app r) h L t o:=hx3;let next:∀(h7:aF) (L7:LG) (t7 k7:Nat) (H7:Hp),dq C P0 H7 pA kA sA hA wA gA h7 L7 t7 k7 m deep n->Ex P0 C m n k7 (rest.app r) h7 L7 t7 o->k7<=k->Fk kA sA hA wA gA H H7->ai H4 H7->F1 [δ$ .ref pA,δ$ .ref bA,δ$ .ref kA,δ$ .ref sA,δ$ .int deep,δ v,δ$ .ref fo,o7] H7:=λh7 L7 t7 k7 H7 R7 x7 l7 f7 tm7=>f1 _ _ (by
    exact(jq (tm7 _ _ xfo) rfl #[rfl,_,rfl,aH Hw$ fE _ _ #[_,_,_,rest,h7,L7,t7,k7,rfl,hbd.mono tm7,ok2,hd2,R7,x7,l7,f7]]))
   clear f1;cases l with
   |set y T=>obtain⟨x,pt,rfl,h1,hT⟩:=hlf;obtain⟨d1,ys,d2⟩:=ok1;obtain⟨k2,rfl,hx'⟩:=AF hx4;let pl:=zN h (.inr y) (.int$ T.ev h);let lh:=R4.lh;refine(jq h1 rfl #[rfl,_,rfl,bH Hw$ jq h1 rfl #[_,rfl,pt,kA,T,ys,h,rfl,hT,d1,d2,R4.kh,R4.gh,λH5 s5=>#[_,rfl,jq (s5 _ _ h1) rfl #[kA,_,rfl,dU.k (k:=.inr y) (s5 _ _ R4.kh) Hz,?_]]]]);let R5:=(R4.same s5).put (x:=y) (k':=k2) (zM R4.gh d2) (β _);exact next _ L t k2 _ R5 hx' Hz ((f4.trans$ Fk.of_same s5).trans$ KL _) (λb xs e=>by rw[ji$ jE (s5 _ _ e) (s5 _ _ R4.kh) (by intro z;cases z)];exact s5 _ _ e)
   |gv T=>obtain⟨x,pt,rfl,h1,hT⟩:=hlf;obtain⟨d1,ys,d2⟩:=ok1;refine(jq h1 rfl #[rfl,_,rfl,aH Hw$ jq h1 rfl #[rfl,_,rfl,bH Hw$ jq h1 rfl #[_,rfl,pt,kA,T,ys,h,rfl,hT,d1,d2,R4.kh,R4.gh,λH5 s5=>#[bK,λr7 nr7=>?_]]]]);show E0.rt _ _;rw[hE];exact qG _ L t _ (Dt hx4) ((R4.sx.same s5).same$ je nr7) (zM R4.gh d2) ((f4.trans$ Fk.of_same s5).trans$ Fk.of_same$ je nr7) r7 jc
   |rd y T=>
    obtain⟨x,pt,rfl,h1,hT⟩:=id hlf;refine(jq h1 rfl #[rfl,_,rfl,aH Hw$ jq h1 rfl #[rfl,_,rfl,aH Hw$ jq h1 rfl #[rfl,_,rfl,aH Hw$ jq h1 rfl #[rfl,_,rfl,aH Hw #[_,rfl,_,rfl,_,rfl,_,rfl,_,rfl,C,P0,x,pA,kA,sA,hA,wA,gA,.rd y T,rest.app r,h,L,t,k',m,deep,o,rfl,R4,hlf,ok1,rfl,hx4,?_,?_]]]]])
    .intro h7 L7 t7 k7 H7 R7 x7 l7 f7;exact#[_,rfl,aH rfl$ next h7 L7 t7 k7 H7 R7 x7 Hz (f4.trans f7) (R4.tm' f7)]
    .intro w L7 t7 H7 ew S7 f7;refine#[_,rfl,bH rfl #[gZ,λr7 nr7=>?_]];show E0.rt _ _;rw[hE];exact qS w L7 t7 _ ew (S7.same$ je nr7) ((f4.trans f7).trans$ Fk.of_same$ je nr7) r7 jc
   |wr T U=>
    obtain⟨x,pt,pu,rfl,h1,hT,hU⟩:=id hlf;refine(jq h1 rfl #[rfl,_,rfl,aH Hw$ jq h1 rfl #[rfl,_,rfl,aH Hw$ jq h1 rfl #[rfl,_,rfl,aH Hw$ jq h1 rfl #[rfl,_,rfl,aH Hw #[_,rfl,_,rfl,_,rfl,_,rfl,_,rfl,C,P0,x,pA,kA,sA,hA,wA,gA,.wr T U,rest.app r,h,L,t,k',m,deep,o,rfl,R4,hlf,ok1,rfl,hx4,?_,?_]]]]])
    .intro h7 L7 t7 k7 H7 R7 x7 l7 f7;exact#[_,rfl,aH rfl$ next h7 L7 t7 k7 H7 R7 x7 Hz (f4.trans f7) (R4.tm' f7)]
    .intro w L7 t7 H7 ew S7 f7;refine#[_,rfl,bH rfl #[gZ,λr7 nr7=>?_]];show E0.rt _ _;rw[hE];exact qS w L7 t7 _ ew (S7.same$ je nr7) ((f4.trans f7).trans$ Fk.of_same$ je nr7) r7 jc
   |cl y g ts=>
    obtain⟨x,q0,vs,rfl,h1,h2,h3⟩:=id hlf;refine(jq h1 rfl #[rfl,_,rfl,aH Hw$ jq h1 rfl #[rfl,_,rfl,aH Hw$ jq h1 rfl #[rfl,_,rfl,aH Hw$ jq h1 rfl #[rfl,_,rfl,aH Hw #[_,rfl,_,rfl,_,rfl,_,rfl,_,rfl,C,P0,x,pA,kA,sA,hA,wA,gA,.cl y g ts,rest.app r,h,L,t,k',m,deep,o,rfl,R4,hlf,ok1,rfl,hx4,?_,?_]]]]])
    .intro h7 L7 t7 k7 H7 R7 x7 l7 f7;exact#[_,rfl,aH rfl$ next h7 L7 t7 k7 H7 R7 x7 Hz (f4.trans f7) (R4.tm' f7)]
    .intro w L7 t7 H7 ew S7 f7;refine#[_,rfl,bH rfl #[gZ,λr7 nr7=>?_]];show E0.rt _ _;rw[hE];exact qS w L7 t7 _ ew (S7.same$ je nr7) ((f4.trans f7).trans$ Fk.of_same$ je nr7) r7 jc
  |ite T b1 b2 rest=>
   obtain⟨x,pt,pa,pb,as,bs,ws,ev,h1,hT,ha',hb1,hb',hb2,hbd⟩:=hbd;injection ev with ev1 ev2;subst ev1;subst ev2;obtain⟨⟨oT,tc,td⟩,ok1,ok2,okr⟩:=hok;obtain⟨d1,ys,d2⟩:=oT;let hd2:max (max b1.dep b2.dep+1) rest.dep < d+1:=hdp;let hx4:Ex P0 C m n k' (.ite T b1 b2$ rest.app r) h L t o:=hx3;refine(jq h1 rfl #[rfl,_,rfl,aH Hw$ jq h1 rfl #[rfl,_,rfl,aH Hw$ jq h1 rfl #[rfl,_,rfl,aH Hw$ jq h1 rfl #[rfl,_,rfl,bH Hw ?_]]]]);refine ah λF2 f2=>(jq h1 rfl #[_,rfl,pt,kA,T,ys,h,rfl,hT,d1,d2,R4.kh,R4.gh,λH5 s5=>#[rfl,.inr #[_,rfl,?_]]]);let ev:(if (!decide (HW (T.ev h)=HW 0))=μ then (1:Int) else 0)=if T.ev h=0 then 0 else 1:=by
    by_cases z:T.ev h=0
    .rw[z];rfl
    .rw[decide_eq_false (λy=>z (by injection y)),if_neg z];rfl
   show F2 [δ$ .ref pA,δ$ .ref bA,δ$ .ref kA,δ$ .ref sA,δ$ .int deep,δ$ .ref x,δ$ .ref fo,δ$ .int (if (!decide (HW (T.ev h)=HW 0))=μ then (1:Int) else 0)] H5;rw[ev];refine f2 _ _ ?_;clear f2 ev;let R5:=R4.same s5;let f5:Fk kA sA hA wA gA H H5:=f4.trans (Fk.of_same s5);refine ah λF2 f2=>#[_,rfl,_,rfl,bK,λen nen=>?_];let s6:af H5 (aj H5 en$ .tup [.str "ask",.int (if T.ev h=0 then 0 else 1)]):=je nen;let he:=Aj (H:=aj H5 en (.tup [.str "ask",.int (if T.ev h=0 then 0 else 1)])) jc;generalize aj H5 en (.tup [.str "ask",.int (if T.ev h=0 then 0 else 1)])=H6 at s6 he;let R6:=R5.same s6;let f6:=f5.trans (Fk.of_same s6);let S46:=s5.trans s6;clear R5 f5 s5 s6 nen;refine#[C,sA,hA,wA,gA,L,t,m,_,_,rfl,he,R6.sx,R6.tm,R6.mm,λet H7 S7 f7=>#[_,rfl,bH rfl #[gZ,λr7 nr7=>?_]],λlt H7 S7 f7 _=>#[_,rfl,aH rfl$ f2 _ _ ?_]]
   .show E0.rt _ _;rw[hE];exact qS "long" L t _ (.inl #[Ju hx4 rfl Hz,rfl]) (S7.same$ je nr7) ((f6.trans f7.k).trans$ Fk.of_same$ je nr7) r7 jc
   clear f2;obtain⟨k2,rfl,hx'⟩:=AD hx4 lt;generalize L.ad (.ask (if T.ev h=0 then 0 else 1))=LL at*;let R7:=R6.turn S7 f7 (k':=k2) Hz Hz;let F7:=f6.trans f7.k;let tm7:ai H4 H7:=λb xs e=>f7.tm R6.sx _ _ (S46 _ _ e);obtain⟨px,bx,xx,hat,hpx,hbx,okx,dx,hx2⟩:∃px bx xx,dC [HV "if",.ref pt,.ref pa,.ref pb] (3 - (if T.ev h=0 then 0 else 1))=δ (.ref px)/\H7 px=δ (.tup xx)/\dW H7 bx xx/\bx.Ok/\bx.dep < d/\Ex P0 C m n k2 (bx.app$ rest.app r) h LL (t+1) o:=by
    by_cases z:T.ev h=0
    .rw[if_pos z]at hx' ⊢;exact#[pb,b2,bs,rfl,tm7 _ _ hb',hb2.mono tm7,ok2,Hz,hx']
    .rw[if_neg z]at hx' ⊢;exact#[pa,b1,as,rfl,tm7 _ _ ha',hb1.mono tm7,ok1,Hz,hx']
   refine#[_,rfl,_,rfl,_,rfl,_,_,rfl,rfl,x,_,_,_,rfl,rfl,aC.of$ tm7 _ _ h1,hat,_,rfl,_,rfl,_,rfl,C,P0,px,pA,kA,sA,hA,wA,gA,xx,bx,rest.app r,h,LL,t+1,k2,m,deep,o,rfl,R7,hpx,hbx,okx,dx,hx2,?_,?_,?_]
   .intro h8 L8 t8 k8 H8 R8 x8 l8 f8 rr hrr;let tm8:=tm7.trans (R7.tm' f8);exact f1 _ _$ jq hrr rfl #[rfl,_,rfl,aH Hw$ fE _ _ #[_,_,_,rest,h8,L8,t8,k8,rfl,hbd.mono tm8,okr,Hz,R8,x8,Hz,F7.trans f8]]
   .intro w L8 t8 H8 ew S8 f8 rr hrr;refine f1 _ _$ jq hrr rfl #[rfl,_,rfl,bH Hw #[_,rfl,?_]];show E0.rt _ _;rw[hE];exact qS w L8 t8 H8 ew S8 (F7.trans f8) rr hrr
   .intro y L8 t8 H8 ew S8 iy f8 rr hrr;refine f1 _ _$ jq hrr rfl #[rfl,_,rfl,bH Hw #[_,rfl,?_]];show E0.rt _ _;rw[hE];exact qG y L8 t8 H8 ew S8 iy (F7.trans f8) rr hrr
  |loop T b1 rest=>
   obtain⟨x,pt,pa,as,ws,ev,h1,hT,ha',hb1,hbd⟩:=hbd;injection ev with ev1 ev2;subst ev1;subst ev2;obtain⟨⟨oT,tc⟩,ok1,okr⟩:=hok;let hd2:max (b1.dep+1) rest.dep < d+1:=hdp;let hx4:Ex P0 C m n k' (.loop T b1$ rest.app r) h L t o:=hx3;refine(jq h1 rfl #[rfl,_,rfl,aH Hw$ jq h1 rfl #[rfl,_,rfl,aH Hw$ jq h1 rfl #[rfl,_,rfl,bH Hw #[_,rfl,_,rfl,_,rfl,_,rfl,_,rfl,C,P0,x,pt,pa,pA,kA,sA,hA,wA,gA,as,T,b1,rest.app r,h,L,t,k',m,deep,o,rfl,R4,h1,hT,oT,ha',hb1,ok1,Hz,hx4,?_,?_,?_]]]])
   .intro h8 L8 t8 k8 H8 R8 x8 l8 f8 rr hrr;exact f1 _ _$ jq hrr rfl #[rfl,_,rfl,aH Hw$ fE _ _ #[_,_,_,rest,h8,L8,t8,k8,rfl,hbd.mono$ R4.tm' f8,okr,Hz,R8,x8,Hz,f4.trans f8]]
   .intro w L8 t8 H8 ew S8 f8 rr hrr;refine f1 _ _$ jq hrr rfl #[rfl,_,rfl,bH Hw #[_,rfl,?_]];show E0.rt _ _;rw[hE];exact qS w L8 t8 H8 ew S8 (f4.trans f8) rr hrr
   .intro y L8 t8 H8 ew S8 iy f8 rr hrr;refine f1 _ _$ jq hrr rfl #[rfl,_,rfl,bH Hw #[_,rfl,?_]];show E0.rt _ _;rw[hE];exact qG y L8 t8 H8 ew S8 iy (f4.trans f8) rr hrr
 obtain⟨o5,o6,o7,a',h',L',t',k',rfl,hbd,hok,hdp,R3,hx3,hk3,f3⟩:=h;rw[List.drop_length]at hbd;let ea:a'= .nil:=by
  let:=hbd.len;cases a' with
  |nil=>rfl
  |lf l r |ite T a b r |loop T a r=>exact absurd this (by show ¬0=_+1;omega)
 subst ea;exact#[gZ,λrr nrr=>qO h' L' t' k' _ (R3.same$ je nrr) hx3 hk3 (f3.trans$ Fk.of_same$ je nrr) rr jc]
theorem Sx.write{C:aF}{H:Hp}{sA hA wA gA:ε}{L:LG}{t:Nat}{m:Int}{w:π}(S:Sx C H sA hA wA gA L (t+1) m w)(l:L.1.length<=t){HD:aF}(h1:H hA=δ (.dK HD))(h2:GT HD)(h3:HD.length<=20+t)(h4:∀c,look HD (.inl c) 0=look L.1 (.inl c) (look C (.inl c) 0)){c v:Int}(hv:dG v):
  Sx C (aj (aj H hA$ .dK$ ax HD (.inl c)$ .int v) wA$ .dK$ ax L.1 (.inl c)$ .int v) sA hA wA gA (ax L.1 (.inl c)$ .int v,L.2) (t+1) m w:=by
 obtain⟨ys,g1,g2⟩:=S.lg;let p1:=zN HD (.inl c) (.int v);let p2:=zN L.1 (.inl c) (.int v);let tmw:ai H (aj (aj H hA$ .dK$ ax HD (.inl c)$ .int v) wA$ .dK$ ax L.1 (.inl c)$ .int v):=(q9 h1).trans (q9 ((ji$ Ne.symm S.n3).trans S.wr));refine#[(ji S.n2).trans ((ji S.n1).trans S.st),#[_,(ji S.n3).trans jc,h2.put _ hv,Hz,λc'=>?_],jc,#[ys,(ji$ jE g1 S.wr (by intro z;cases z)).trans ((ji$ jE g1 h1 (by intro z;cases z)).trans g1),g2.1.mono tmw,g2.2],S.gL.put _ hv,by show(ax L.1 (.inl c)$ .int v).length<=t+1;omega,S.n1,S.n2,S.n3];by_cases e:c'=c
 .rw[e,qE,qE]
 .rw[kU (λz=>e (by injection z)),kU (λz=>e (by injection z))];exact h4 c'
theorem Sx.oth{C:aF}{H:Hp}{sA hA wA gA kA:ε}{L:LG}{t:Nat}{m:Int}{w:π}(S:Sx C H sA hA wA gA L t m w)(k1:kA≠sA)(k2:kA≠hA)(k3:kA≠wA)(k4:kA≠gA)(v:HO)(tm:ai H (aj H kA v)):Sx C (aj H kA v) sA hA wA gA L t m w:=by obtain⟨HD,h1,h2⟩:=S.ho;obtain⟨ys,g1,g2⟩:=S.lg;exact#[(ji$ Ne.symm k1).trans S.st,#[HD,(ji$ Ne.symm k2).trans h1,h2],(ji$ Ne.symm k3).trans S.wr,#[ys,(ji$ Ne.symm k4).trans g1,g2.mono tm],S.gL,S.lL,S.n1,S.n2,S.n3]
theorem dq.sxk{C:aF}{P:List df}{H:Hp}{pA kA sA hA wA gA:ε}{h:aF}{L:LG}{t k:Nat}{m deep:Int}{n:Nat}(R:dq C P H pA kA sA hA wA gA h L t k m deep n)(v:HO):Sx C (aj H kA v) sA hA wA gA L t m "told":=by obtain⟨HD,h1,h2⟩:=R.sx.ho;obtain⟨ys,g1,g2⟩:=R.sx.lg;exact#[(ji$ Ne.symm R.k1).trans R.sx.st,#[HD,(ji$ Ne.symm R.k2).trans h1,h2],(ji$ Ne.symm R.k3).trans R.sx.wr,#[ys,(ji$ Ne.symm R.ng).trans g1,g2.mono$ q9 R.kh],R.sx.gL,R.sx.lL,R.sx.n1,R.sx.n2,R.sx.n3]
inductive nF(n:Nat)(q:List V)(H:Hp)(Q:VK)(c:XK):Prop
 |mk(C:aF)(P:List df)(l e p h r g:ε)(f:π)(d:df)(j:List Int)(L:LG)(t k:Nat)(m b:Int)(o:iE)(_:q=[.ref l,.str f,.ref e,.ref p,.int b])(_:b+(n:Int)=15)(_:Ad H l P)(_:uZ P)(_:bg P f=δ d)(_:H e=δ (.tup (j.map HW)))(_:∀i∈j,dG i)(_:d.ps.length=j.length)(_:Sx C H p h r g L t m "told")(_:(t:Int)<=m)(_:m<=300)(_:Ex P C m n k d.body (cf d.ps j) L t o)(_:k<=130000)(_:∀a L' t' H',o= .done a L' t'->Sx C H' p h r g L' t' m "told"->(t':Int)<=m->dG a->Fr p h r g H H'->Q (.int a) H')(_:∀(w:π) L' t' H',(o= .long/\w="long"∨o= .deep/\w="deep")->Sx C H' p h r g L' t' m w->Fr p h r g H H'->Q .non H')
theorem xp:am z42z z9z (ae Eb):=bY
def oZ:sB:=#[.function,[(".0",.local),("_law_term_here",.local),("_law_worth",.globalImplicit),("_law_held",.free)],ν,ν,[]]
theorem A5:(z4z:List π).Nodup:=by decide+kernel
theorem Ao:bp z42z (ae Eb) oZ z4z 1 [2]:=pk
theorem yG{f:ε}{fd:bm}{fW fT fF:ε}{fdW fdT fdF:bm}(F:aK K "_law_deed_run" "_law_deed_run" Eb f fd){n:Nat}{spF:Sp}(cW:Cl P w K mg base 9 fW fdW z4z (gQ 8) "_law_worth")(cT:Cl P w K mg base 1 fT fdT z15z dw "_law_turn")(cF:Cl P w K mg base (13*n+9) fF fdF z21z spF "_law_def_run")(hF:∀n',n=n'+1->spF=nF n')(mtu:mg "tuple"=ζ):ak P w K mg base aD (13*n+10) f fd z9z (xF n):=by
 refine F.ok xp ?_ λcdv A outer s H vs Q E hr h=>?_
 .rintro _ _ _ _ ⟨C,P0,oA,pA,kA,sA,hA,wA,gA,l,r,h,L,t,k,m,deep,o,rfl,_⟩;rfl
 obtain⟨C,P0,oA,pA,kA,sA,hA,wA,gA,l,r,h,L,t,k,m,deep,o,rfl,R,hlf,okl,hlt,hx,qO,qS⟩:=h;refine#[_,(jd (jw (jW$ jx$ pv 1) (jd (jy 5 xp.nd$ jh$ ja jj$ ja (cW.e hr.m$ ja (jx$ pv 1)$ ja (pv 2) jb)$ ja (cW.e hr.m$ ja (jx$ pv 1)$ ja (pv 2) jb) jb)$ jd (jw (Kz$ JK$ cT.e hr.m$ ja (pv 3)$ ja (pv 5) jb) (jg$ jo$ @Jg _ _ _ _) jp)$ jd (kf (jQ hr) (ke (jQ hr) (pv 3) jj (λ_ _=>rfl)) (jx$ pv 5) (jx$ pv 5) rfl)$ jd (kf (jQ hr) (ke (jQ hr) (pv 3) jj (λ_ _=>rfl)) (jx$ pv 5) (jx$ pv 5) rfl)$ jg$ jo$ @Jg _ _ _ _) jp)$ jd (jw (jW$ jx$ pv 1) (jd (jy 6 xp.nd$ cW.e hr.m$ ja (jx$ pv 1)$ ja (pv 2) jb)$ jd (kf (jQ hr) (pv 2) (jx$ pv 1) (@qy _ _ _ _ _ _ _ _ _ (jQ hr) (ke (jQ hr) (pv 3) jj (λ_ _=>rfl)) (pv 6) jf #[Hv,Hv,Hv,Hv]) rfl)$ jg$ jo$ cT.e hr.m$ ja (pv 3)$ ja (jh$ ja jj$ ja (pv 6)$ ja (ke (jQ hr) (pv 2) (jx$ pv 1) (λ_ _=>rfl)) jb) jb) jp)$ jd (jy 7 xp.nd$ jC jH rfl mtu boot_tuple$ ja (@zg _ _ _ _ _ _ _ (z4z) (1) ([2]) _ _ _ _ rfl (zn$ jx$ pv 1) Ao (λ_ _ _ _ _=>(ju (i:=0) A5 rfl$ ω rfl)) (λ_ _ _ _ _=>(@zQ _)) (λ_ _ _ _ _=>(cW.e hr.m$ ja (pv 0)$ ja (pv 1) jb)) (by intro _;rfl)) jb)$ jd (jw (Kz$ JK$ cT.e hr.m$ ja (pv 3)$ ja (jh$ ja jj$ ja (jx$ pv 1)$ ja (pv 7) jb) jb) (jg$ jo$ @Jg _ _ _ _) jp)$ jd (jw (zc$ pv 4) (jd (kf (jQ hr) (pv 3) jj jj rfl)$ jg$ jo$ @Jg _ _ _ _) jp)$ jd (kf (jQ hr) (pv 2) (jx$ pv 1) (cF.e hr.m$ ja (pv 0)$ ja (jx$ pv 1)$ ja (pv 7)$ ja (pv 3)$ ja (jv jT (pv 4) jf) jb) rfl)$ jg$ jo$ j9 zq (ke (jQ hr) (pv 3) jj (λ_ _=>rfl)) jj$ au _),?_];let big:=aI;cases l with
 |set y T |gv T=>cases hlt
 |wr T U=>
  obtain⟨_,pt,pu,e0,h1,hT,hU⟩:=hlf;cases e0;obtain⟨⟨d1,ys,d2⟩,d3,zs,d4⟩:=okl;refine ah λF1 f1=>(jq h1 rfl #[rfl,_,rfl,bH Hw ?_]);clear f1;refine ah λF1 f1=>(jq h1 rfl #[_,rfl,pt,kA,T,ys,h,rfl,hT,d1,d2,R.kh,R.gh,λH1 s1=>(jq (s1 _ _ h1) rfl #[_,rfl,pu,kA,U,zs,h,rfl,(hU.same s1),d3,d4,(s1 _ _ R.kh),R.gh,λH2 s2=>#[eA,λen nen=>f1 _ _ ?_]])]);clear f1;let s3:af H (aj H2 en$ .tup [.str "write",.int$ T.ev h,.int$ U.ev h]):=(s1.trans s2).trans (je nen);let xen:aj H2 en (.tup [.str "write",.int$ T.ev h,.int$ U.ev h]) en=δ (.tup [.str "write",.int$ T.ev h,.int$ U.ev h]):=jc;generalize aj H2 en (.tup [.str "write",.int$ T.ev h,.int$ U.ev h])=H3 at s3 xen;let R3:=R.same s3;clear s1 s2 nen;refine ah λF1 f1=>#[_,rfl,_,rfl,C,sA,hA,wA,gA,L,t,m,_,_,rfl,GV xen,R3.sx,R3.tm,R3.mm,λet H4 S4 f4=>#[_,rfl,bH rfl ?_],λlt H4 S4 f4 w4=>#[_,rfl,aH rfl$ f1 _ _ ?_]]
  .exact qS "long" L t H4 (.inl #[Ju hx rfl Hz,rfl]) S4 ((Fk.of_same s3).trans f4.k)
  clear f1;obtain⟨k',rfl,hx'⟩:=Dw hx lt;let tm4:=f4.tm R3.sx;let en4:=tm4 _ _ xen;obtain⟨HD,g1,g2,g3,g4⟩:=R3.sx.ho;let i1:H4 hA=δ (.dK HD):=w4 _ _ (Ne.symm R3.sx.n1) (Ne.symm R3.sx.n1) (Ne.symm R3.sx.n1) (jE g1 (Classical.choose_spec R3.sx.lg).1 (by intro z;cases z)) g1;let lL:=R3.sx.lL;let mm3:=R3.mm;let gs:a6 H4 sA (HV "holds") (δ$ .ref hA):=a6.k (k:=.inr "holds") S4.st;refine ah λF1 f1=>(jq en4 rfl #[_,rfl,sA,_,rfl,gs,jq en4 rfl #[hA,_,rfl,dU.k (k:=.inl (T.ev h)) i1 Hz,f1 _ _ ?_]]);clear f1;let S5:=S4.write lL i1 g2 g3 g4 (c:=T.ev h) (zM R.gh d4);let nx:∀(b:ε),b≠hA->aj H4 hA (.dK$ ax HD (.inl$ T.ev h)$ .int$ U.ev h) b=H4 b:=λb e=>ji e;let gw:a6 (aj H4 hA$ .dK$ ax HD (.inl$ T.ev h)$ .int$ U.ev h) sA (HV "wrote") (δ$ .ref wA):=a6.k (k:=.inr "wrote") ((nx sA S4.n1).trans S4.st);let en5:aj H4 hA (.dK$ ax HD (.inl$ T.ev h)$ .int$ U.ev h) en=δ (.tup [.str "write",.int$ T.ev h,.int$ U.ev h]):=(nx en$ jE en4 i1 (by intro z;cases z)).trans en4;refine ah λF1 f1=>(jq en5 rfl #[_,rfl,sA,_,rfl,gw,jq en5 rfl #[wA,_,rfl,dU.k (k:=.inl (T.ev h)) ((nx wA$ Ne.symm S4.n3).trans S4.wr) (by show L.1.length < _;omega),f1 _ _ ?_]]);clear f1;let F5:Fr sA hA wA gA H4 (aj (aj H4 hA$ .dK$ ax HD (.inl$ T.ev h)$ .int$ U.ev h) wA$ .dK$ ax L.1 (.inl$ T.ev h)$ .int$ U.ev h):=λb o _ n2 n3 _ e=>by rw[ji n3,ji n2];exact e
  let F35:=f4.trans F5;exact qO h _ (t+1) k' _ (R3.turn S5 F35 Hz Hz) hx' Hz ((Fk.of_same s3).trans F35.k)
 |rd y T=>
  obtain⟨_,pt,e0,h1,hT⟩:=hlf;cases e0;obtain⟨d1,ys,d2⟩:=okl;refine ah λF1 f1=>(jq h1 rfl #[rfl,_,rfl,aH Hw$ f1 _ _ ?_]);clear f1;refine ah λF1 f1=>(jq h1 rfl #[rfl,_,rfl,bH Hw ?_]);clear f1;refine ah λF1 f1=>(jq h1 rfl #[_,rfl,pt,kA,T,ys,h,rfl,hT,d1,d2,R.kh,R.gh,λH1 s1=>f1 _ _ ?_]);clear f1;let R1:=R.same s1;obtain⟨HD,g1,g2,g3,g4⟩:=R1.sx.ho;let gs:a6 H1 sA (HV "holds") (δ$ .ref hA):=a6.k (k:=.inr "holds") R1.sx.st;let vv:(cg HD$ .inl$ T.ev h).getD (.int 0)= .int (look L.1 (.inl$ T.ev h)$ look C (.inl$ T.ev h) 0):=by rw[qC g2,g4]
  let iv:dG (look L.1 (.inl$ T.ev h)$ look C (.inl$ T.ev h) 0):=by rw[<- g4];exact Jq g2 qK
  let lh:=R1.lh;refine ah λF1 f1=>#[_,rfl,sA,_,rfl,gs,hA,rfl,.inl #[HD,.inl g1],_,rfl,_,a6.k (k:=.inl (T.ev h)) g1,?_];rw[vv];refine#[_,rfl,jq (s1 _ _ h1) rfl #[kA,_,rfl,dU.k (k:=.inr y) R1.kh Hz,f1 _ _ ?_]];clear f1;let v2:dG (look L.1 (.inl$ T.ev h)$ look C (.inl$ T.ev h) 0):=iv;generalize hvv:look L.1 (.inl$ T.ev h) (look C (.inl$ T.ev h) 0)=vl at*;let S2:=R1.sxk (.dK$ ax h (.inr y)$ .int vl);let gk:a6 (aj H1 kA$ .dK$ ax h (.inr y)$ .int vl) kA (HV y) (δ$ .int vl):=by let:=a6.k (k:=.inr y) (jc (H:=H1) (a:=kA) (o:=.dK (ax h (.inr y)$ .int vl)));rw[qx,if_pos rfl]at this;exact this
  let o2:aj H1 kA (.dK$ ax h (.inr y)$ .int vl) oA=δ (.tup [.str "read",.str y,.ref pt]):=(ji$ jE (s1 _ _ h1) R1.kh (by intro z;cases z)).trans (s1 _ _ h1);refine#[_,rfl,_,rfl,_,rfl,jq o2 rfl #[kA,_,rfl,gk,eA,λen nen=>?_]];let s3:=je (o:=.tup [.str "read",.int$ T.ev h,.int vl]) nen;refine#[C,sA,hA,wA,gA,L,t,m,_,_,rfl,GQ jc,S2.same s3,R1.tm,R1.mm,λet H4 S4 f4=>?_,λlt H4 S4 f4 _=>?_]
  .exact qS "long" L t H4 (.inl #[Ju hx rfl Hz,rfl]) S4 ((((Fk.of_same s1).trans$ KL _).trans$ Fk.of_same s3).trans f4.k)
  .obtain⟨k',rfl,hx'⟩:=Dv hx lt;rw[hvv]at hx';let R2:=(R1.put (x:=y) (k':=k') v2$ β _).same s3;exact qO _ _ (t+1) k' H4 (R2.turn S4 f4 Hz$ β _) hx' Hz ((((Fk.of_same s1).trans$ KL _).trans$ Fk.of_same s3).trans f4.k)
 |cl y g ts=>
  obtain⟨_,q0,vs,e0,h1,h2,h3⟩:=hlf;cases e0;obtain⟨okt,lts⟩:=okl;let lvs:=h3.len;refine ah λF1 f1=>(jq h1 rfl #[rfl,_,rfl,aH Hw$ f1 _ _ ?_]);clear f1;refine ah λF1 f1=>(jq h1 rfl #[rfl,_,rfl,aH Hw$ f1 _ _ ?_]);clear f1;refine ah λF1 f1=>(jq h1 rfl #[q0,rfl,#[_,aC.of h2],?_]);refine zX (K:=K) (xs:=vs) Hz (λi zs H'=>zs=((ts.take i).map$ Tm.ev h).map HW/\af H H') #[rfl,af.refl H] (λi zs H' hh=>#[aC.of$ hh.2 _ _ h2,by rw[hh.1,Φ,Φ,List.length_take];omega]) ?_ ?_
  .clear f1;intro i x zs H' hxx hh;obtain⟨rfl,s⟩:=hh;obtain⟨T,p,hTi,rfl,hT⟩:=h3.at i x hxx;obtain⟨d1,ys,d2⟩:=okt T (hJ hTi);refine#[_,rfl,_,rfl,p,kA,T,ys,h,rfl,hT.same s,d1,d2,s _ _ R.kh,R.gh,λH2 s2=>#[?_,s.trans s2]];rw[HS,hTi,Option.toList_some,va,va];rfl
  intro zs H1 hh l1 nl1;obtain⟨rfl,s1⟩:=hh;rw[lvs,List.take_of_length_le$ β _]at*;refine#[l1,_,rfl,.inl #[aG.of jc,λaa naa=>f1 _ _ ?_]];clear f1;let s2:af H (aj (aj H1 l1$ .lst ((ts.map$ Tm.ev h).map HW)) aa$ .tup ((ts.map$ Tm.ev h).map HW)):=(s1.trans$ je nl1).trans (je naa);let xaa:aj (aj H1 l1$ .lst ((ts.map$ Tm.ev h).map HW)) aa (.tup ((ts.map$ Tm.ev h).map HW)) aa=δ (.tup ((ts.map$ Tm.ev h).map HW)):=jc;generalize aj (aj H1 l1$ .lst ((ts.map$ Tm.ev h).map HW)) aa (.tup ((ts.map$ Tm.ev h).map HW))=H2 at s2 xaa;clear s1 nl1 naa;refine ah λF1 f1=>#[_,rfl,jq (s2 _ _ h1) rfl #[_,rfl,eA,λen nen=>?_]];let s3:af H (aj H2 en$ .tup [.str "call",.str g,.ref aa]):=s2.trans (je nen);let xa3:=ao (o:=.tup [.str "call",.str g,.ref aa]) xaa nen;let he:=GH (H:=aj H2 en (.tup [.str "call",.str g,.ref aa])) jc xa3;generalize aj H2 en (.tup [.str "call",.str g,.ref aa])=H3 at s3 xa3 he;clear s2 xaa nen;let R3:=R.same s3;refine#[C,sA,hA,wA,gA,L,t,m,_,_,rfl,he,R3.sx,R3.tm,R3.mm,λet H4 S4 f4=>#[_,rfl,bH rfl ?_],λlt H4 S4 f4 _=>#[_,rfl,aH rfl$ f1 _ _ ?_]]
  .exact qS "long" L t H4 (.inl #[Ju hx rfl Hz,rfl]) S4 ((Fk.of_same s3).trans f4.k)
  clear f1;let tm4:=f4.tm R3.sx;let F4:Fk kA sA hA wA gA H H4:=(Fk.of_same s3).trans f4.k;let o4:=tm4 _ _ (s3 _ _ h1);let dp:=R.dp;refine ah λF1 f1=>#[_,rfl,rfl,_,rfl,?_];rcases Ds hx lt with ⟨rfl,rfl⟩ | ⟨n',k1,d,oo,rfl,hf,hl,hk1,c1,c2⟩
  .let e15:deep=15:=by omega
   refine bH (by rw[e15];rfl) ?_;clear f1;refine ah λF1 f1=>#[_,rfl,sA,_,rfl,dU.k (k:=.inr "word") S4.st (by show 6 < υ;omega),f1 _ _ ?_];exact qS "deep" _ (t+1) _ (.inr #[rfl,rfl]) (S4.put (β _) "deep")$ F4.trans (λb o _ n1 _ _ _ e=>by rw[ji n1];exact e)
  let ne15:deep≠15:=by omega
  refine aH (decide_eq_false (λz=>ne15 (by injection z)))$ f1 _ _ ?_;clear f1;let eF:=hF n' rfl;subst eF;let iT:∀i∈ts.map (Tm.ev h),dG i:=λi hi=>by obtain⟨T,hT,rfl⟩:=cJ.mp hi;obtain⟨_,ys,d2⟩:=okt T hT;exact zM R.gh d2
  let R4:=R3.turn S4 f4 (k':=k) Hz (β _);let lh:=R4.lh;refine ah λF1 f1=>#[_,rfl,jq o4 rfl #[_,rfl,_,rfl,_,rfl,_,_,rfl,rfl,C,P0,pA,aa,sA,hA,wA,gA,g,d,ts.map$ Tm.ev h,_,t+1,k1,m,deep+1,oo,rfl,Hz,R4.pr,R4.fp,hf,tm4 _ _ xa3,iT,by rw[Φ];exact hl,S4,Hz,R3.mm,c1,hk1,?_,?_]]
  .intro a L5 t5 H5 eo S5 l5 ia f5;rcases c2 with ⟨z,_⟩ | ⟨z,_⟩ | ⟨a1,L1,t1,k',z,rfl,hx'⟩
   .rw[eo]at z;cases z
   .rw[eo]at z;cases z
   rw[eo]at z;cases z;let R5:=R4.turn S5 f5 (k':=k'+1) l5 (β _);let R6:=R5.put (x:=y) (k':=k') ia (β _);let gw:a6 (aj H5 kA$ .dK$ ax h (.inr y)$ .int a) sA (HV "word") (δ$ .str "told"):=a6.k (k:=.inr "word") R6.sx.st;refine#[_,rfl,jq (f5.tm S4 _ _ o4) rfl #[kA,_,rfl,dU.k (k:=.inr y) R5.kh Hz,f1 _ _ ?_]];refine#[_,rfl,sA,_,rfl,gw,rfl,?_];let q7:=qO _ L5 t5 k' _ R6 hx' Hz (F4.trans$ f5.k.trans$ KL _);rw[show decide (HV "told"=HV "told")=μ from by decide+kernel];exact q7
  .intro w L5 t5 H5 ew S5 f5;let kh5:=f5 _ _ R4.k1 R4.k2 R4.k3 R4.ng R4.kh;let S6:=S5.oth R4.k1 R4.k2 R4.k3 R4.ng (.dK$ ax h (.inr y) .non) (q9 kh5);let gw:a6 (aj H5 kA$ .dK$ ax h (.inr y) .non) sA (HV "word") (δ$ .str w):=a6.k (k:=.inr "word") S6.st;refine#[_,rfl,jq (f5.tm S4 _ _ o4) rfl #[kA,_,rfl,dU.k (k:=.inr y) kh5 Hz,f1 _ _ ?_]];refine#[_,rfl,sA,_,rfl,gw,rfl,?_];let FF:=F4.trans ((f5.k (kA:=kA)).trans$ KL$ .dK$ ax h (.inr y) .non);rcases ew with ⟨eo,rfl⟩ | ⟨eo,rfl⟩
   .let eo2:o= .long:=by
     rcases c2 with ⟨_,z⟩ | ⟨z,_⟩ | ⟨a1,L1,t1,k',z,_⟩
     .exact z
     .rw[eo]at z;cases z
     .rw[eo]at z;cases z
    let q7:=qS "long" L5 t5 _ (.inl #[eo2,rfl]) S6 FF;rw[show decide (HV "long"=HV "told")=ν from by decide+kernel];exact q7
   .let eo2:o= .deep:=by
     rcases c2 with ⟨z,_⟩ | ⟨_,z⟩ | ⟨a1,L1,t1,k',z,_⟩
     .rw[eo]at z;cases z
     .exact z
     .rw[eo]at z;cases z
    let q7:=qS "deep" L5 t5 _ (.inr #[eo2,rfl]) S6 FF;rw[show decide (HV "deep"=HV "told")=ν from by decide+kernel];exact q7
theorem YQ{K:Ω}{a:ε}{xs:List V}{tt:TT}{te:TE}{Qf:List V->Hp->Prop}{σt:_L.St}{H:Hp}(hz:xs.length<=υ)(Pv:Nat->List V->Hp->Prop)(h0:Pv 0 [] H)
  (hk:∀i ys H',Pv i ys H'->aC K H' a xs/\ys.length<=i) (hs:∀i x ys H',xs[i]?=δ x->Pv i ys H'->tt (δ x::σt) H' λb H2=>if b=μ then te (δ x::σt) H2 λy H3=>Pv (i+1) (ys++[y]) H3 else Pv (i+1) ys H2) (hd:∀ys H',Pv xs.length ys H'->Qf ys H'):
  eJ (uO K a) 1 σt (bG 0) tt te Qf H:=by
 refine#[λi m ys H'=>m=xs.length - i/\i<=xs.length/\Pv i ys H',#[xs.length,Hy,fx _,h0],?_];intro i m ys H' hq';obtain⟨rfl,hi,p⟩:=hq';obtain⟨hq,hy⟩:=hk i ys H' p;by_cases hlt:i < xs.length
 .refine .inr #[#[xs,xs[i],hq,db hlt],Hz,Pv$ i+1,λys' H2 p'=>#[xs.length - (i+1),Hz,rfl,hlt,p'],λv H2 ts hts y=>?_];obtain⟨e,y⟩:=y;subst e;obtain⟨w,rfl⟩:=rJ hts;exact#[#[[δ _],rfl,rfl],hs i v ys H2 (y xs hq) p]
 .let e:i=xs.length:=by omega
  subst e;exact .inl #[#[xs,hq,β _],hd ys H' p]
theorem QZ{ds:List df}{d:df}{f:π}:bg (ds++[d]) f=(bg ds f).or (if d.f=f then δ d else ζ):=by
 unfold bg;rw[List.find?_append];congr 1;by_cases e:d.f=f
 .rw[if_pos e,vr,decide_eq_true e]
 .rw[if_neg e,vr,decide_eq_false e];rfl
theorem JB:∀a:bQ,a.app .nil=a
 | .nil=>rfl
 | .lf l r=>by show bQ.lf l (r.app .nil)=_;rw[JB r]
 | .ite T x y r=>by show bQ.ite T x y (r.app .nil)=_;rw[JB r]
 | .loop T x r=>by show bQ.loop T x (r.app .nil)=_;rw[JB r]
def Fj(H:Hp)(P:List df)(f:π)(zs:List V):Prop:=(zs=[]/\bg P f=ζ)∨∃v zs' d,zs=v::zs'/\bg P f=δ d/\oE H v d
theorem tG:am z43z z21z (ae Ec):=bY
def o0:sB:=#[.function,[(".0",.local),("_law_one",.local),("_law_f",.free)],ν,ν,[]]
theorem A6:(["_law_one","_law_f"]:List π).Nodup:=by decide+kernel
theorem Ap:bp z43z (ae Ec) o0 ["_law_one","_law_f"] 1 [1]:=pk
theorem yH{f:ε}{fd:bm}{fB:ε}{fdB:bm}(F:aK K "_law_def_run" "_law_def_run" Ec f fd){n:Nat}(cB:Cl P w K mg base (13*n+21) fB fdB z14z (me n 6) "_law_body_run")(mi:mg "int"=ζ)(mdi:mg "dict"=ζ)(mzi:mg "zip"=ζ):ak P w K mg base aD (13*n+22) f fd z21z (nF n):=by
 refine F.ok tG ?_ λcdv A outer s H vs Q E hr h=>?_
 .rintro _ _ _ _ ⟨C,P0,pA,ag,sA,hA,wA,gA,f,d,is,L,t,k,m,deep,o,rfl,_⟩;rfl
 obtain⟨C,P0,pA,ag,sA,hA,wA,gA,f,d,is,L,t,k,m,deep,o,rfl,hdp,hpr,hfp,hf,hag,his,hl,S,htm,hm,hx,hk6,qD,qS⟩:=h;refine#[_,(jd (kQ (js jr (@zg _ _ _ _ _ _ _ (["_law_one","_law_f"]) (1) ([1]) _ _ _ _ rfl (zn$ pv 0) Ap (λ_ _ _ _ _=>(ju (i:=0) A6 rfl$ ω rfl)) (λ_ _ _ _ _=>(@sy _ _ _$ jB zq (js (r:=eS K) j7 (pv 0) jf (λ_ _=>rfl)) (pv 1)$ au _)) (λ_ _ _ _ _=>(pv 0)) (by intro _;rfl)) jf (λ_ _=>rfl))$ zD (n:=3) rfl$ jz (ju (i:=5) tG.nd rfl$ ω rfl)$ jz (ju (i:=6) tG.nd rfl$ ω rfl)$ jz (ju (i:=7) tG.nd rfl$ ω rfl) kx)$ jd (jy 8 tG.nd$ cB.e hr.m$ ja (pv 0)$ ja (pv 7)$ ja (@Xe _ _ _ _ _ _ _ _ rfl mdi rfl mzi rfl (ja (pv 6)$ ja (pv 2) jb) Hv Hv Hv Hv)$ ja (pv 3)$ ja (pv 4) jb)$ jd (jw (jW$ jx$ pv 8) (jg$ jo$ jx$ pv 8) jp)$ jg$ jo$ js jr (jG$ ja (@Ya _ _ _)$ ja jf jb) (jC kG rfl mi boot_int$ ja (j9 zq (jx$ pv 8) jj$ au _) jb) (λ_ _=>rfl)),?_];let big:=aI;obtain⟨xs,hpA,hxs⟩:=hpr.at';let few:=hpr.few d (KP hf);let lxs:=hxs.len;let fp1:=hfp.1;refine ah λF1 f1=>#[_,rfl,pA,rfl,#[_,aC.of hpA],?_];refine YQ (K:=K) (xs:=xs) Hz (λi zs H'=>H'=H/\zs.length<=i/\Fj H (P0.take i) f zs) #[rfl,β _,.inl #[rfl,rfl]] (λi zs H' hh=>#[by rw[hh.1];exact aC.of hpA,hh.2.1]) ?_ ?_
 .clear f1;intro i x zs H' hxx hh;obtain⟨rfl,hz,hF⟩:=hh;obtain⟨e,he,hv⟩:=hxs.at i x hxx;obtain⟨q0,qa,qb,qs,rfl,h1,h2⟩:=id hv;let et:P0.take (i+1)=P0.take i++[e]:=by rw[HS,he];rfl
  refine(jq h1 rfl #[_,rfl,rfl,_,rfl,?_]);by_cases c:e.f=f
  .refine bH (by rw[c];exact decide_eq_true rfl) #[_,rfl,rfl,by rw[fz];exact HP hz,?_];unfold Fj;rw[et,QZ,if_pos c];rcases hF with ⟨rfl,hn⟩ | ⟨v,zs',d',rfl,hn,hv'⟩
   .rw[hn];exact .inr #[_,[],e,rfl,rfl,hv]
   .rw[hn];exact .inr #[v,_,d',rfl,rfl,hv']
  .refine aH (decide_eq_false (λz=>c (by injection z))) #[rfl,Hz,?_];unfold Fj;rw[et,QZ,if_neg c,Option.or_none];exact hF
 intro zs H' hh l nl;obtain⟨rfl,hz,hF⟩:=hh;rw[lxs,List.take_of_length_le$ β _]at hF;rcases hF with ⟨_,hn⟩ | ⟨v,zs',d',rfl,hn,q0,pa,pb,bs,rfl,h1,h2,h3,h4⟩
 .rw[hf]at hn;cases hn
 rw[hf]at hn;cases hn;refine#[l,_,_,_,rfl,rfl,aG.of jc,hG,q0,_,rfl,aC.of$ ao h1 nl,rfl,_,_,rfl,_,_,rfl,_,_,rfl,rfl,f1 _ _ ?_];clear f1;let s1:=je (o:=.lst (HX q0::zs')) nl;generalize aj H' l (.lst (HX q0::zs'))=H1 at s1;let hk:=Zr d.ps is [] his _K.GT.nil;refine ah λF1 f1=>#[_,rfl,_,rfl,_,rfl,_,rfl,pa,ag,d.ps.map Sum.inr,is.map HW,rfl,aC.of (by rw[Ch];exact s1 _ _ h2),aC.of$ s1 _ _ hag,by rw[Φ,Φ];exact hl,λkA nkA=>?_];let s2:af H' (aj H1 kA$ .dK$ cf d.ps is):=s1.trans (je nkA);let xk:aj H1 kA (.dK$ cf d.ps is) kA=δ (.dK$ cf d.ps is):=jc;let nk0:H' kA=ζ:=by
  cases z:H' kA with
  |none=>rfl
  |some o=>rw[s1 _ _ z]at nkA;cases nkA
 obtain⟨HD,o1,o2⟩:=S.ho;let nks:kA≠sA:=Ne.symm (jk (s1 _ _ S.st) nkA);let nkh:kA≠hA:=Ne.symm (jk (s1 _ _ o1) nkA);let nkw:kA≠wA:=Ne.symm (jk (s1 _ _ S.wr) nkA);let FF:∀{H3:Hp},Fk kA sA hA wA gA (aj H1 kA$ .dK$ cf d.ps is) H3->Fr sA hA wA gA H' H3:=λf b o n1 n2 n3 n4 e=>f b o (jk e nk0) n1 n2 n3 n4 (s2 _ _ e);refine#[_,rfl,_,rfl,C,P0,pb,pA,kA,sA,hA,wA,gA,bs,d.body,.nil,cf d.ps is,L,t,k,m,deep,o,rfl,#[hdp,hpr.mono$ af.tm s2,S.same s2,xk,hk.1,nks,nkh,nkw,by let e:=hk.2;let e2:(cf d.ps is).length<=0+d.ps.length:=e;omega,htm,hm,hk6,hfp],s2 _ _ h3,h4.mono$ af.tm s2,few.2.2,Nat.lt_succ_of_le$ hfp.2 d$ KP hf,by rw[JB];exact hx,?_,?_,?_]
 .intro h' L' t' k' H3 R3 x3 l3 f3 rr hrr;refine f1 _ _ ?_;clear f1;refine ah λF1 f1=>(jq hrr rfl #[rfl,_,rfl,aH Hw$ f1 _ _ ?_]);clear f1;refine#[bK,λl2 nl2=>(jq (ao hrr nl2) rfl #[rfl,.inr #[_,rfl,l2,_,_,_,rfl,rfl,aG.of jc,iV,?_]])];exact qD 0 L' t' _ (AE x3) (R3.sx.same$ je nl2) R3.tm qK ((FF f3).trans$ Fr.of_same$ je nl2)
 .intro w L' t' H3 ew S3 f3 rr hrr;refine f1 _ _ ?_;clear f1;refine ah λF1 f1=>(jq hrr rfl #[rfl,_,rfl,aH Hw$ f1 _ _ ?_]);clear f1;refine#[bK,λl2 nl2=>(jq (ao hrr nl2) rfl #[rfl,.inr #[_,rfl,l2,_,_,_,rfl,rfl,aG.of jc,hG,?_]])];exact qS w L' t' _ ew (S3.same$ je nl2) ((FF f3).trans$ Fr.of_same$ je nl2)
 .intro x L' t' H3 ew S3 ix f3 rr hrr;refine f1 _ _ ?_;clear f1;refine ah λF1 f1=>(jq hrr rfl #[rfl,_,rfl,bH Hw$ jq hrr rfl ?_]);exact qD x L' t' _ ew S3 ((Du hx _ _ _ ew).2 htm) ix$ FF f3
def t6:Sp:=λ_ _ _ _=>False
theorem vQ{f:ε}{fd:bm}{k:Nat}{ps:List π}:ak P w K mg base aD k f fd ps t6:=#[λ_ _ _ _ h=>absurd h id,λ_ _ _ _ _ _ _ _ _ _ _ _ _ h=>absurd h id]
theorem DJ{f:ε}{fd:bm}{k n:Nat}:ak P w K mg base aD k f fd z14z (me n 0):=by
 let no:∀vs H Q E,¬me n 0 vs H Q E:=λvs H Q E h=>by obtain⟨C,P0,bA,pA,kA,sA,hA,wA,gA,xs,a,r,h,L,t,k,m,deep,o,_,_,_,_,_,hd,_⟩:=h;omega
 exact#[λvs H Q E h=>absurd h (no vs H Q E),λA outer s H args us vs Q E _ _ _ _ h=>absurd h (no vs H Q E)]
variable {fB fL fD fF fW fT:ε}{fdB fdL fdD fdF fdW fdT:bm}
theorem Fx(cW:Cl P w K mg base 9 fW fdW z4z (gQ 8) "_law_worth")(cT:Cl P w K mg base 1 fT fdT z15z dw "_law_turn")(FB:aK K "_law_body_run" "_law_body_run" Ea fB fdB)(bB:ay K fdB z14z [])(mB:mg "_law_body_run"=δ (.ref fB))(FL:aK K "_law_looped_run" "_law_looped_run" Ed fL fdL)(bL:ay K fdL z9z [])(mL:mg "_law_looped_run"=δ (.ref fL)){n:Nat}(cD:Cl P w K mg base (13*n+10) fD fdD z9z (xF n) "_law_deed_run")(mi:mg "int"=ζ):
  ∀d:Nat,ak P w K mg base aD (13*n+2*d+9) fB fdB z14z (me n d)
 |0=>DJ
 |d+1=>by let GB:=Fx cW cT FB bB mB FL bL mL cD mi d;let GL:=DR FL cW cT #[GB,bB,FB.kp,mB] mi;exact DO FB cW cT cD #[GL,bL,FL.kp,mL] #[GB,bB,FB.kp,mB] mi
theorem hV(cW:Cl P w K mg base 9 fW fdW z4z (gQ 8) "_law_worth")(cT:Cl P w K mg base 1 fT fdT z15z dw "_law_turn")(FB:aK K "_law_body_run" "_law_body_run" Ea fB fdB)(bB:ay K fdB z14z [])(mB:mg "_law_body_run"=δ (.ref fB))(FL:aK K "_law_looped_run" "_law_looped_run" Ed fL fdL)(bL:ay K fdL z9z [])(mL:mg "_law_looped_run"=δ (.ref fL))(FD:aK K "_law_deed_run" "_law_deed_run" Eb fD fdD)(bD:ay K fdD z9z [])(mD:mg "_law_deed_run"=δ (.ref fD))(FF:aK K "_law_def_run" "_law_def_run" Ec fF fdF)(bF:ay K fdF z21z [])(mF:mg "_law_def_run"=δ (.ref fF))(mi:mg "int"=ζ)(mtu:mg "tuple"=ζ)(mdi:mg "dict"=ζ)(mzi:mg "zip"=ζ):
  ∀n:Nat,ak P w K mg base aD (13*n+22) fF fdF z21z (nF n)
 |0=>by let GD:=yG (n:=0) (spF:=t6) FD cW cT #[vQ,bF,FF.kp,mF] (λn' e=>by omega) mtu;let GB:=Fx cW cT FB bB mB FL bL mL #[GD,bD,FD.kp,mD] mi 6;exact yH FF #[GB,bB,FB.kp,mB] mi mdi mzi
 |n+1=>by let GF:=hV cW cT FB bB mB FL bL mL FD bD mD FF bF mF mi mtu mdi mzi n;let GD:=yG (n:=n+1) FD cW cT #[GF,bF,FF.kp,mF] (λn' e=>congrArg nF (Nat.succ.inj e)) mtu;let GB:=Fx cW cT FB bB mB FL bL mL #[GD,bD,FD.kp,mD] mi 6;exact yH FF #[GB,bB,FB.kp,mB] mi mdi mzi
abbrev F8:ey:=top 70
inductive xG(j:List V)(H:Hp)(Q:VK)(b:XK):Prop
 |mk(C:aF)(P:List df)(h c e:ε)(f:π)(d:df)(g:List Int)(k:Nat)(m:Int)(o:iE)(_:j=[.ref h,.str f,.ref c,.ref e,.int m])(_:Ad H h P)(_:uZ P)(_:bg P f=δ d)(_:H c=δ (.tup (g.map HW)))(_:∀i∈g,dG i)(_:d.ps.length=g.length)(_:H e=δ (.dK C))(_:_K.GT C)(_:C.length<=20)(_:0<=m)(_:m<=300)(_:Ex P C m 15 k d.body (cf d.ps g) ([],[]) 0 o)(_:k<=130000)(_:∀a L' t' H' rr wA gA,o= .done a L' t'->H' rr=δ (.tup [.str "told",.int a,.ref wA,.int (t':Int),.ref gA])->H' wA=δ (.dK L'.1)->_K.GT L'.1->L'.1.length<=300->(∃xs,H' gA=δ (.lst xs)/\ye H' L' t' xs)->af H H'->Q (.ref rr) H')(_:∀(w:π) H' rr v2 v3 v4 v5,(o= .long/\w="long"∨o= .deep/\w="deep")->H' rr=δ (.tup [.str w,v2,v3,v4,v5])->af H H'->Q (.ref rr) H')
theorem Yg{H:Hp}{a b:ε}{o:HO}(n:aj H a o b=ζ):b≠a:=λe=>by rw[e,jc]at n;cases n
theorem BY:am ["_law_program","_law_f","_law_args","_law_cells_here","_law_most","_law_state","_law_answer"] z36z (ae F8):=bY
theorem DQ{f:ε}{fd:bm}{fF:ε}{fdF:bm}(F:aK K "_law_plain" "_law_plain" F8 f fd)(cF:Cl P w K mg base 217 fF fdF z21z (nF 15) "_law_def_run")(mdi:mg "dict"=ζ):ak P w K mg base aD 218 f fd z36z xG:=by
 refine F.ok BY ?_ λcdv A outer s H vs Q E hr h=>?_
 .rintro _ _ _ _ ⟨C,P0,pA,ag,cA,f,d,is,k,m,o,rfl,_⟩;rfl
 obtain⟨C,P0,pA,ag,cA,f,d,is,k,m,o,rfl,hpr,hfp,hf,hag,his,hl,hcA,hgc,hlc,hm0,hm,hx,hk6,qD,qS⟩:=h;refine#[_,(jd (jy 5 BY.nd$ @wF _ _ _ _ _ (@zU _ _ _ _ _ _ _ _ _ jj (jC ZM rfl mdi boot_dict$ ja (pv 3) jb)$ @zU _ _ _ _ _ _ _ _ _ jj Jy$ @zU _ _ _ _ _ _ _ _ _ jj jf$ @zU _ _ _ _ _ _ _ _ _ jj (pv 4)$ @zU _ _ _ _ _ _ _ _ _ jj jj$ @zU _ _ _ _ _ _ _ _ _ jj (jG jb)$ @wJ _ _) Hv Hv HA HA)$ jd (jy 6 BY.nd$ cF.e hr.m$ ja (pv 0)$ ja (pv 1)$ ja (pv 2)$ ja (pv 5)$ ja jf jb)$ jg$ jo$ jh$ ja (ke (jQ hr) (pv 5) jj (λ_ _=>rfl))$ ja (pv 6)$ ja (ke (jQ hr) (pv 5) jj (λ_ _=>rfl))$ ja (ke (jQ hr) (pv 5) jj (λ_ _=>rfl))$ ja (ke (jQ hr) (pv 5) jj (λ_ _=>rfl)) jb),?_];let big:=aI;refine ah λF1 f1=>λsA nsA=>#[_,rfl,cA,C,rfl,ao hcA nsA,λhA nhA wA nwA=>#[_,rfl,fx _,λgA ngA=>?_]];let d1:=Yg nhA;let d2:=Yg nwA;let d3:wA≠sA:=λe=>by rw[e,ji$ Ne.symm d1,jc]at nwA;cases nwA
 let d4:=Yg ngA;let d5:gA≠hA:=λe=>by rw[e,ji$ Ne.symm d2,jc]at ngA;cases ngA
 let d6:gA≠sA:=λe=>by rw[e,ji$ Ne.symm d3,ji$ Ne.symm d1,jc]at ngA;cases ngA
 let s0:af H (aj (aj (aj (aj (aj H sA$ .dK []) hA$ .dK C) wA$ .dK []) gA$ .lst []) sA$ .dK$ stk hA wA 0 m "told" gA):=λb o e=>by rw[ji$ jk e nsA];exact ao (ao (ao (ao e nsA) nhA) nwA) ngA
 let S0:Sx C (aj (aj (aj (aj (aj H sA$ .dK []) hA$ .dK C) wA$ .dK []) gA$ .lst []) sA$ .dK$ stk hA wA 0 m "told" gA) sA hA wA gA ([],[]) 0 m "told":=
  #[jc,#[C,by rw[ji d1,ji$ Ne.symm d5,ji$ Ne.symm d2,jc],hgc,hlc,λc=>rfl],by rw[ji d3,ji$ Ne.symm d4,jc],#[[],by rw[ji d6,jc],jA,β _],_K.GT.nil,β _,Ne.symm d1,Ne.symm d3,Ne.symm d2]
 let nh:H hA=ζ:=by rw[ji d1]at nhA;exact nhA
 let nw:H wA=ζ:=by rw[ji d2,ji d3]at nwA;exact nwA
 let ng:H gA=ζ:=by rw[ji d4,ji d5,ji d6]at ngA;exact ngA
 refine#[by rw[ji$ Ne.symm d6,ji$ Ne.symm d3,ji$ Ne.symm d1,jc],[(.inr "holds",.ref hA),(.inr "wrote",.ref wA),(.inr "turns",.int 0),(.inr "most",.int m),(.inr "word",.str "told"),(.inr "log",.ref gA)],rfl,(show 6<=15 by decide),?_];show F1 [δ$ .ref pA,δ$ .str f,δ$ .ref ag,δ$ .ref cA,δ$ .int m,δ$ .ref sA,ζ] (aj (aj (aj (aj (aj H sA$ .dK []) hA$ .dK C) wA$ .dK []) gA$ .lst []) sA$ .dK$ stk hA wA 0 m "told" gA);generalize aj (aj (aj (aj (aj H sA$ .dK []) hA$ .dK C) wA$ .dK []) gA$ .lst []) sA (.dK$ stk hA wA 0 m "told" gA)=H1 at s0 S0;clear nhA nwA ngA;refine f1 _ _ ?_;clear f1;let FS:∀{H3:Hp},Fr sA hA wA gA H1 H3->af H H3:=λf b o e=>f b o (jk e nsA) (jk e nh) (jk e nw) (jk e ng) (s0 _ _ e);let G:∀(w:π) (L':LG) (t':Nat) (H3:Hp),Sx C H3 sA hA wA gA L' t' m w->a6 H3 sA (HV "word") (δ$ .str w)/\a6 H3 sA (HV "wrote") (δ$ .ref wA)/\a6 H3 sA (HV "turns") (δ$ .int (t':Int))/\a6 H3 sA (HV "log") (δ$ .ref gA):=λw L' t' H3 S=>#[a6.k (k:=.inr "word") S.st,a6.k (k:=.inr "wrote") S.st,a6.k (k:=.inr "turns") S.st,a6.k (k:=.inr "log") S.st];refine ah λF1 f1=>#[_,rfl,_,rfl,_,rfl,_,rfl,C,P0,pA,ag,sA,hA,wA,gA,f,d,is,([],[]),0,k,m,0,o,rfl,rfl,hpr.mono$ af.tm s0,hfp,hf,s0 _ _ hag,his,hl,S0,hm0,hm,hx,hk6,λa L' t' H3 eo S3 l3 ia f3=>f1 _ _ ?_,λw L' t' H3 eo S3 f3=>f1 _ _ ?_]
 .clear f1;obtain⟨g1,g2,g3,g4⟩:=G _ _ _ _ S3;refine#[_,rfl,sA,_,rfl,g1,_,rfl,_,rfl,sA,_,rfl,g2,_,rfl,sA,_,rfl,g3,_,rfl,sA,_,rfl,g4,(by show 5<=υ;decide),λrr nrr=>?_];let l1:=S3.lL;exact qD a L' t' _ rr wA gA eo jc (ao S3.wr nrr) S3.gL Hz (let #[ys,g5,g6]:=S3.lg;#[ys,ao g5 nrr,g6.mono$ af.tm$ je nrr]) ((FS f3).trans$ je nrr)
 .clear f1;obtain⟨g1,g2,g3,g4⟩:=G _ _ _ _ S3;refine#[_,rfl,sA,_,rfl,g1,_,rfl,_,rfl,sA,_,rfl,g2,_,rfl,sA,_,rfl,g3,_,rfl,sA,_,rfl,g4,(by show 5<=υ;decide),λrr nrr=>?_];exact qS w _ rr _ _ _ _ eo jc ((FS f3).trans$ je nrr)
structure Xs(K:Ω)(mg:π->Option η)(TL TD:ε):Prop where
 gL:mg "TooLong"=δ (.ref TL)
 hL:clsIn K TL≠ζ
 tL:typeIn K (.ref TL)=δ (.type "type")
 mL:mroIn K TL (.type "BaseException")=δ μ
 gD:mg "TooDeep"=δ (.ref TD)
 hD:clsIn K TD≠ζ
 tD:typeIn K (.ref TD)=δ (.type "type")
 mD:mroIn K TD (.type "BaseException")=δ μ
 LL:mroIn K TL (.ref TL)=δ μ
 DL:mroIn K TD (.ref TL)=δ ν
 DD:mroIn K TD (.ref TD)=δ μ
abbrev tq:ey:=top 71
theorem BD{H:Hp}{nA:ε}{d:Df}{ys:List π}{ps:List π}{bs:List V}(hb:c8 H d.b bs)(ho:d.b.Ok ys)(hp:H d.pa=δ (.tup$ ps.map HV)):yg H nA d ys (A1 d.f ps d.b):=by
 obtain⟨h1,h2⟩:=DF hb ho;refine#[rfl,hp,(A2 nA d).symm,h1.way,?_,λn c cd hc hcd=>?_]
 .rw[rM];show(((lV d.b).2.map dt.cd).reverse).length=_;rw[List.length_reverse,Φ,Φ,List.length_reverse]
 rw[rM,ir]at hc;let hcd:(((lV d.b).2.map dt.cd).reverse)[n]?=δ cd:=hcd;rw[<- List.map_reverse,ir]at hcd;cases hx:(lV d.b).2.reverse[n]? with
 |none=>rw[hx]at hc;cases hc
 |some x=>
  rw[hx]at hc hcd;cases hc;cases hcd;let hm:=h2 x (List.mem_reverse.mp$ hJ hx);refine#[rfl,rfl,hm.deed,hm.cs,?_,λj w wd hw hwd=>?_]
  .show x.ws.length=(x.ws.map$ WD.wy nA).length;rw[Φ]
  .let hw:(x.ws.map$ WD.wy nA)[j]?=δ w:=hw;let hwd:x.ws[j]?=δ wd:=hwd;rw[ir,hwd]at hw;cases hw;exact#[rfl,hm.ways wd$ hJ hwd]
structure Pg(H:Hp)(pA:ε)(qs:List Qd)(ns:List Nat)(zs:List V):Prop where
 at':H pA=δ (.tup zs)
 dv:bX H (qs.map ks) zs
 q:∀q∈qs,yh H (Cj qs) q
 nd:(qs.map λq=>q.1.f).Nodup
 l8:qs.length<=8
 ok:iU (qs.map ks) ns
 pa:iz H (qs.map ks) ns
theorem yE{kvs:aF}:NX (.dK kvs):=λφ z=>by cases z
theorem Bg{xs:List V}:NX (.tup xs):=λφ z=>by cases z
theorem Kp.tm{H H':Hp}(k:Kp H H'):ai H H':=λb xs e=>k _ _ Bg e
theorem Pg.mono{H H':Hp}{pA:ε}{qs:List Qd}{ns:List Nat}{zs:List V}(h:Pg H pA qs ns zs)(k:ai H H'):Pg H' pA qs ns zs:=#[k _ _ h.at',h.dv.mono k,λq hq=>(h.q q hq).mono k,h.nd,h.l8,h.ok,h.pa.mono k]
theorem Pg.pr{H:Hp}{pA:ε}{qs:List Qd}{ns:List Nat}{zs:List V}(h:Pg H pA qs ns zs):Ad H pA (qs.map Qd.pl):=#[#[zs,h.at',yK (pA:=pA) (xs:=zs) h.dv h.q],λd hd=>by
 obtain⟨q,hq,rfl⟩:=cJ.mp hd;let z:=h.q q hq;obtain⟨⟨ys,_,ok⟩,_,sz⟩:=z.ok;let t:=Jb q.1.b.er;rw[zi]at t;exact#[z.l1,Nat.le_trans t Hz,Kx ok sz]]
theorem Pg.fit{H:Hp}{pA:ε}{qs:List Qd}{ns:List Nat}{zs:List V}(h:Pg H pA qs ns zs):uZ (qs.map Qd.pl):=#[by rw[Φ];let:=h.l8;omega,λd hd=>by
 obtain⟨q,hq,rfl⟩:=cJ.mp hd;obtain⟨_,dp,_⟩:=(h.q q hq).ok;show q.1.b.er.dep<=5;rw[Jc];omega]
theorem Pg.ps{H:Hp}{pA p2 nA:ε}{qs:List Qd}{ns:List Nat}{zs xs:List V}(h:Pg H pA qs ns zs)(hp:H p2=δ (.tup xs))(tr:aN H (aE ((qs.map ks).map$ eN nA)) .non xs):Ps H nA p2 (qs.map ks) ns xs (qs.map Qd.mk):=
 #[hp,tr,#[zs,h.dv],h.ok,h.pa,by rw[Φ,Φ],λi d pd hd hpd=>by
  rw[ir]at hd hpd;cases hx:qs[i]? with
  |none=>rw[hx]at hd;cases hd
  |some q=>
   rw[hx]at hd hpd;cases hd;cases hpd;let z:=h.q q (hJ hx);obtain⟨⟨ys,hy,ok⟩,_⟩:=z.ok;obtain⟨bs,hb⟩:=z.bd;exact#[ys,#[ok,hy],BD hb ok z.pa]]
theorem BB{H:Hp}{ds:List Df}{ns:List Nat}(h:iz H ds ns){i:Nat}{d:Df}{ps:List π}(hd:ds[i]?=δ d)(hp:H d.pa=δ (.tup$ ps.map HV)):ns[i]?=δ ps.length:=by let hi:i < ds.length:=(τ.mp hd).1;let hn:ns[i]?=δ (ns[i]'(by rw[<- h.1];exact hi)):=db _;obtain⟨ps',e,l,_⟩:=h.2 i d _ hd hn;rw[hp]at e;injection e with e;injection e with e;let:=congrArg List.length e;rw[Φ,Φ]at this;rw[hn,<- l,this]
theorem yJ{H:Hp}{r:ε}{ds:List Df}{zs:List V}{nl:List Nat}{v2 v3:V}(hr:H r=δ (.tup zs))(hD:bX H ds zs)(h8:ds.length<=8)(hN:iU ds nl)(hPa:iz H ds nl)(hCa:nK H ds v2 v3):∃(qs:List Qd) (q:Qd) (i:Nat) (ta:ε) (is:List Int),Pg H r qs nl zs/\qs[i]?=δ q/\v2= .str q.1.f/\v3= .ref ta/\H ta=δ (.tup$ is.map HW)/\nl[i]?=δ is.length/\is.length=q.2.length/\∀z∈is,dG z:=by
 obtain⟨d,ps,ta,is,hd,rfl,hps,rfl,hta,hil,hi100,his⟩:=hCa;obtain⟨qs,rfl,hqv,nd⟩:=D2 hD hN hPa;obtain⟨q,hq,rfl⟩:=cJ.mp hd;obtain⟨i,hi,rfl⟩:=GE.mp hq;let hqi:qs[i]?=δ qs[i]:=db hi;let hdi:(qs.map ks)[i]?=δ qs[i].1:=by rw[ir,hqi];rfl
 let hni:=BB hPa hdi hps;let eps:ps=qs[i].2:=by let z:=hps.symm.trans (hqv _ hq).pa;injection z with z;injection z with z;exact(List.map_inj_right λa b e=>by injection e).mp z
 rw[<- hil]at hni;exact#[qs,qs[i],i,ta,is,#[hr,hD,hqv,nd,by rw[Φ]at h8;exact h8,hN,hPa],hqi,rfl,rfl,hta,hni,by rw[hil,eps],his]
inductive lO(g f m:ε)(p:List V)(H:Hp)(Q:VK)(b:XK):Prop
 |mk(M:Nat)(o h j:ε)(i:Nat)(e:aF)(d:Df)(k:List Df)(n:List Nat)(q:List V)(c:List eM)(l:List Int)(_:p=[.ref o,.str d.f,.ref h,.ref j,.int (M:Int)])(_:M<=1000)(_:Ps H m o k n q c)(_:k[i]?=δ d)(_:n[i]?=δ l.length)(_:H h=δ (.tup (l.map HW)))(_:∀z∈l,dG z)(_:H j=δ (.dK e))(_:GT e)(_:∀(u:V) (sk:Sk) (a:Int) (L':aF) (r:ε) (H':Hp),ba M c e 16 d.f l [] 0= .ok sk a L' sk.size->xX H' d.f l sk a u->sk.ok μ->sk.dep<=15->sk.size<=M->H' r=δ (.tup [.str "told",u])->Kp H H'->Q (.ref r) H')(_:∀(w:π) (r:ε) (H':Hp),(ba M c e 16 d.f l [] 0= .long/\w="long"∨ba M c e 16 d.f l [] 0= .deep/\w="deep")->H' r=δ (.tup [.str w,.non])->Kp H H'->Q (.ref r) H')
theorem KQ{H H':Hp}{f:π}{is:List Int}{s:Sk}{a:Int}{u:V}(k:ai H H')(h:xX H f is s a u):xX H' f is s a u:=let #[c,g,e,ss,e0,h1,h2,h3,h4]:=h;#[c,g,e,ss,e0,k _ _ h1,k _ _ h2,k _ _ h3,h4.mono k]
theorem lB:am ["_law_parts","_law_f","_law_args","_law_cells_here","_law_most","_law_found"] z37z (ae tq):=bY
theorem wu{f:ε}{fd:bm}{TL TD nA fR:ε}{fdR:bm}(F:aK K "_law_told" "_law_told" tq f fd)(GR:ak P w K mg base (eZ P w) 45 fR fdR z28z (ot TL TD nA))(bR:ay K fdR z28z [])(kR:rs K (.ref fR)=μ)(mR:mg "run"=δ (.ref fR))(xc:Xs K mg TL TD):ak P w K mg base aD 46 f fd z37z (lO TL TD nA):=by
 refine F.ok lB ?_ λcdv A outer s H vs Q E hr h=>?_
 .rintro _ _ _ _ ⟨M,pA,ag,cA,i,Cs,d,ds,ns,xs,pds,is,rfl,_⟩;rfl
 obtain⟨M,pA,ag,cA,i,Cs,d,ds,ns,xs,pds,is,rfl,hM,hP,hd,hn,ha,his,hce,gC,q1,q2⟩:=h;refine#[_,(jd (@wM _ _ _ _ _ _ _ _ _ _ _ _ _ _ _ _ _ _ _ rfl rfl (@wN _ _ _ _ (5) _ _ lB.nd rfl (ω rfl) (@sw _ _ _ _ _ _ _ jj (@su _ _ _ _ _ _ _ _ _ _ _ _ _ _ GR hr.m rfl mR kR bR .nil (ja (pv 0)$ ja (pv 1)$ ja (pv 2)$ ja (pv 3)$ ja (pv 4) jb) HA Hv Hv) Hv) Hv (by first |exact .inl rfl |exact .inr rfl)) rfl xc.gL xc.hL xc.tL xc.mL rfl xc.gD xc.hD xc.tD xc.mD (λ_=>(jg$ jy 5 lB.nd$ jh$ ja jj$ ja (@Ya _ _ _) jb)) (λ_=>(jg$ jy 5 lB.nd$ jh$ ja jj$ ja (@Ya _ _ _) jb)) HA HA)$ jg$ jo$ pv 5),?_];refine ah λF1 f1=>?_;show yZ _ _ _ _ _ _ _ [δ$ .ref pA,δ$ .str d.f,δ$ .ref ag,δ$ .ref cA,δ$ .int (M:Int),ζ] H;refine#[_,rfl,_,rfl,_,rfl,_,rfl,_,rfl,M,pA,ag,cA,i,Cs,d,ds,ns,xs,pds,is,rfl,hM,hP,hd,hn,ha,his,hce,gC,λu sk a L' H2 er cv ok dp sz s2=>?_,λeo=>?_,λeo=>?_]
 .intro p np;let s3:af H2 (aj H2 p$ .tup [.str "told",u]):=je np;exact f1 _ _ #[_,rfl,q1 u sk a L' p _ er (KQ (af.tm s3) cv) ok dp sz jc$ Kp.of_same$ s2.trans s3]
 .intro _ H7 k7 x C T eC hx hT hTx;cases eC;refine .inl #[xc.LL,λT' nT'=>#[bK,λp np=>f1 _ _ #[_,rfl,q2 "long" p _ (.inl #[eo,rfl]) jc ?_]]];exact Kp.trans (λb o nx e=>Kl (H:=H) (k7 _ _ nx e) nx hx nT')$ Kp.of_same$ je np
 .intro _ H7 k7 x C T eC hx hT hTx;cases eC;refine .inr #[xc.DL,xc.DD,λT' nT'=>#[bK,λp np=>f1 _ _ #[_,rfl,q2 "deep" p _ (.inr #[eo,rfl]) jc ?_]]];exact Kp.trans (λb o nx e=>Kl (H:=H) (k7 _ _ nx e) nx hx nT')$ Kp.of_same$ je np
abbrev wY:ey:=top 72
theorem GG{v u w:V}{ys:List V}:dC (v::u::w::ys) 2=δ w:=jN (j:=2) rfl
theorem G7{v u w z:V}{ys:List V}:dC (v::u::w::z::ys) 3=δ z:=jN (j:=3) rfl
theorem qM:∀{b:Bool} {s:Sk},s.ok b->s.log.length=match b with |true=>s.size |false=>s.size+1
 |true,.nil,_=>rfl
 |true,.st _ _ w r,o=>by let h1:=qM (b:=ν) (s:=w) o.1;let h2:=qM (b:=μ) (s:=r) o.2;show(w.log++r.log).length=w.size+r.size+1;rw[fz,h1,h2];show w.size+1+r.size=_;omega
 |false,.cl f is s a,o=>by let h1:=qM (b:=μ) (s:=s) o;show(s.log.length+1)=s.size+1;rw[h1]
 |false,.ask _,_=>rfl
 |false,.rd _ _,_=>rfl
 |false,.wr _ _,_=>rfl
inductive gJ(n:Nat)(d:List V)(H:Hp)(Q:VK)(b:XK):Prop
 |mk(f:π)(c:List Int)(s:Sk)(a:Int)(u:V)(_:d=[u])(_:xX H f c s a u)(_:s.ok μ)(_:s.dep < n)(_:s.size<=1000)(_:∀(r:ε) (xs:List V) (H':Hp),H r=ζ->H' r=δ (.lst xs)->iD H' s.log xs->af H H'->Q (.ref r) H')
inductive Gu(p:ε)(u:V)(s:Sk)(o:List V)(H:Hp)(i:Nat)(r:_L.St)(b:Hp):Prop
 |mk(l m n:Option V)(q:List V)(G:List En)(a:Sk)(c:r=[δ u,δ (.ref p),l,m,n])(d:b p=δ (.lst q))(e:iD b G q)(f:iO b a .non (o.drop i))(g:a.ok μ)(h:a.dep<=s.dep)(j:G++a.log=s.log)(k:af H b)
theorem l9:am ["_law_chain","_law_found","_law_n","_law_held","_law_what"] ["_law_chain"] (ae wY):=bY
theorem Bo{f:ε}{fd:bm}{n:Nat}{fS:ε}{fdS:bm}(F:aK K "_law_log" "_law_log" wY f fd)(cS:Cl P w K mg base (n+1) fS fdS ["_law_chain"] (gJ n) "_law_log"):ak P w K mg base aD (n+2) f fd ["_law_chain"] (gJ$ n+1):=by
 refine F.ok l9 ?_ λcdv A outer s H vs Q E hr h=>?_
 .rintro _ _ _ _ ⟨f,is,s,a,u,rfl,_⟩;rfl
 obtain⟨f,is,s,a,u,rfl,hc,hok,hd,hz,q⟩:=h;refine#[_,(jd (jy 1 l9.nd$ jG jb)$ jd (kX PassesOwn.never rfl (zn$ jx$ pv 0) (zD (n:=3) rfl$ jz (ju (i:=2) l9.nd rfl$ ω rfl)$ jz (ju (i:=3) l9.nd rfl$ ω rfl)$ jz (ju (i:=4) l9.nd rfl$ ω rfl) kx)$ jg$ jw (jW$ jx$ pv 4) (jd (jR$ kH mU tf ti jP (pv 1)$ ja (jv ky (jh$ ja jj jb)$ jK qd (jx$ pv 4) kL$ jI jf) jb)$ jg$ jR$ kH mU PySem.F.slot_list_extend PySem.F.type_list_extend QH (pv 1)$ ja (cS.e hr.m$ ja (jx$ pv 4) jb) jb)$ jg$ jR$ kH mU tf ti jP (pv 1)$ ja (pv 4) jb)$ jg$ jo$ pv 1),?_];let big:=aI;obtain⟨c,g,e,ss,rfl,h1,h2,h3,h4⟩:=hc;let lt:=Yf hok h4;let ll:=qM hok;let ll:s.log.length=s.size:=ll;refine ah λF1 f1=>#[pf,λtl ntl=>f1 _ _ ?_];clear f1;let s1:af H (aj H tl$ .lst []):=je ntl;refine ah λF1 f1=>gu λJ j=>(jq (s1 _ _ h1) GG #[e,rfl,#[_,aC.of$ s1 _ _ h3],j _ _ ?_]);clear j;refine qA (K:=K) (xs:=ss) (Gu tl (.ref c) s ss H) #[ζ,ζ,ζ,[],[],s,rfl,jc,jA,h4.mono$ af.tm s1,hok,β _,rfl,s1] (λi σ Hx _ h=>?_) ?_ (λσ Hx h=>f1 _ _ ?_)
 .obtain⟨_,_,_,_,_,_,_,_,_,_,_,_,_,s7⟩:=h;exact aC.of$ s7 _ _ h3
 .intro E hE i x σ H7 hx fin Gq kq h;clear f1;obtain⟨o2,o3,o4,xs,G,rest,rfl,w1,w2,hk,ho,hdp,e6,s7⟩:=h;refine kq ?_;clear kq;rw[XS hx]at hk;let lG:=congrArg List.length e6;rw[fz]at lG;let lx:=w2.len;cases rest with
  |nil=>cases (show _=[] from hk)
  |ask _ |rd _ _ |wr _ _ |cl _ _ _ _=>exact ho.elim
  |st n hs w r=>
  obtain⟨p,hh,u,ys,ev,hp,hh1,hw,hr4⟩:=hk;injection ev with ev1 ev2;subst ev1;subst ev2;obtain⟨o1,o2'⟩:=ho;let hdp:max w.dep r.dep<=s.dep:=hdp;let e6:G++(w.log++r.log)=s.log:=e6;let lG:G.length+(w.log++r.log).length=s.log.length:=lG;rw[fz]at lG;let lw:w.log.length=w.size+1:=qM o1;refine#[p,_,rfl,aC.of hp,rfl,_,_,rfl,_,_,rfl,_,_,rfl,rfl,?_];show iN _ _ _ E [δ$ .ref c,δ$ .ref tl,δ$ .int n,δ$ .ref hh,δ u] H7;cases w with
  |nil |st _ _ _ _=>exact o1.elim
  |ask b=>obtain⟨p3,rfl,k1⟩:=hw;let he:aN H7 (iI$ .ask b) (.ref p3) []:=Aj k1;refine nO λG1 yT yF=>(jq k1 rfl #[rfl,_,rfl,?_]);refine yF _ #[_,rfl,.inl #[rfl,_,aG.of w1],_,rfl,tl,xs,_,rfl,rfl,w1,Hz,fin _ _ #[_,_,_,_,_,r,rfl,jc,(w2.app$ iD.one he).mono$ zh w1,hr4.mono$ zh w1,o2',Hz,(by rw[ic];exact e6),λb o e=>?_]];rw[ji$ jk e ntl];exact s7 _ _ e
  |rd b b'=>obtain⟨p3,rfl,k1⟩:=hw;let he:aN H7 (iI$ .rd b b') (.ref p3) []:=GQ k1;refine nO λG1 yT yF=>(jq k1 rfl #[rfl,_,rfl,?_]);refine yF _ #[_,rfl,.inl #[rfl,_,aG.of w1],_,rfl,tl,xs,_,rfl,rfl,w1,Hz,fin _ _ #[_,_,_,_,_,r,rfl,jc,(w2.app$ iD.one he).mono$ zh w1,hr4.mono$ zh w1,o2',Hz,(by rw[ic];exact e6),λb o e=>?_]];rw[ji$ jk e ntl];exact s7 _ _ e
  |wr b b'=>obtain⟨p3,rfl,k1⟩:=hw;let he:aN H7 (iI$ .wr b b') (.ref p3) []:=GV k1;refine nO λG1 yT yF=>(jq k1 rfl #[rfl,_,rfl,?_]);refine yF _ #[_,rfl,.inl #[rfl,_,aG.of w1],_,rfl,tl,xs,_,rfl,rfl,w1,Hz,fin _ _ #[_,_,_,_,_,r,rfl,jc,(w2.app$ iD.one he).mono$ zh w1,hr4.mono$ zh w1,o2',Hz,(by rw[ic];exact e6),λb o e=>?_]];rw[ji$ jk e ntl];exact s7 _ _ e
  |cl f' is' s' a'=>
   obtain⟨p3,c1,g1,e1,ss1,rfl,k1,k2,k3,k4,k5⟩:=hw;let lw:(s'.log.length+1)=s'.size+1:=lw;let lG:G.length+((s'.log.length+1)+r.log.length)=s.log.length:=lG;refine nO λG1 yT yF=>(jq k1 rfl #[rfl,_,rfl,?_]);refine yT _ ?_;clear yT yF;refine ah λF1 f1=>#[_,rfl,.inl #[rfl,_,aG.of w1],gZ,λq1 nq1=>(jq (ao k1 nq1) iV #[_,rfl,c1,_,rfl,ao k2 nq1,λq2 H8 hq2 s8=>#[q1,q2,_,_,rfl,rfl,s8 _ _ jc,hq2,eA,λq3 H9 hq3 s9=>?_]])];let hq3:H9 q3=δ (.tup [.str "call",.str f',.ref g1]):=hq3;let S9:af H7 H9:=((je nq1).trans s8).trans s9;let w9:=S9 _ _ w1;let he:aN H9 (iI$ .cl f' is') (.ref q3) []:=GH hq3 (S9 _ _ k3);refine#[tl,xs,_,rfl,rfl,w9,Hz,f1 _ _ ?_];clear f1;let tmr:ai H9 (aj H9 tl$ .lst$ xs++[.ref q3]):=zh w9;let e10:aj H9 tl (.lst$ xs++[.ref q3]) tl=δ (.lst$ xs++[.ref q3]):=jc;let k10:∀b o,b≠tl->H9 b=δ o->aj H9 tl (.lst$ xs++[.ref q3]) b=δ o:=λb o nb e=>by rw[ji nb];exact e
   generalize aj H9 tl (.lst$ xs++[.ref q3])=H10 at tmr e10 k10;let T10:ai H7 H10:=(af.tm S9).trans tmr;let S10:af H H10:=λb o e=>k10 _ _ (jk e ntl) (S9 _ _$ s7 _ _ e);let x10:iD H10 (G++[.cl f' is']) (xs++[.ref q3]):=((w2.mono$ af.tm S9).app$ iD.one he).mono tmr;let dpw:max (s'.dep+1) r.dep<=s.dep:=hdp;refine#[_,rfl,.inl #[rfl,_,aG.of e10],jq (T10 _ _ k1) iV #[f',is',s',a',.ref c1,rfl,#[c1,g1,e1,ss1,rfl,T10 _ _ k2,T10 _ _ k3,T10 _ _ k4,k5.mono T10],o1,Hz,Hz,λl zs H12 nl hl hz s12=>?_]];let lz:=hz.len;let ez:(xs++[HX q3]).length=xs.length+1:=by rw[fz];rfl
   refine#[tl,l,_,_,rfl,rfl,s12 _ _ e10,hl,Hz,fin _ _ #[_,_,_,_,_,r,rfl,jc,((x10.mono$ af.tm s12).app hz).mono$ zh$ s12 _ _ e10,(hr4.mono T10).mono ((af.tm s12).trans$ zh$ s12 _ _ e10),o2',Hz,?_,λb o e=>?_]]
   .rw[<- e6,ic,ic];rfl
   .rw[ji$ jk e ntl];exact s12 _ _$ S10 _ _ e
 .obtain⟨o2,o3,o4,xs,G,rest,rfl,w1,w2,hk,ho,hdp,e6,s7⟩:=h;rw[List.drop_length]at hk;let er:rest= .nil:=by
   cases rest with
   |nil=>rfl
   |st n hs w r=>obtain⟨_,_,_,_,ev,_⟩:=hk;cases ev
   |_=>exact ho.elim
  subst er;let e6:G++[]=s.log:=e6;rw[HQ]at e6;subst e6;exact#[_,rfl,q tl xs Hx ntl w1 w2 s7]
theorem Bc{f:ε}{fd:bm}{k:Nat}:ak P w K mg base aD k f fd ["_law_chain"] (gJ 0):=by
 let no:∀{vs H Q E},¬gJ 0 vs H Q E:=by rintro vs H Q E ⟨f,is,s,a,u,_,_,_,z,_⟩;omega
 exact#[λvs H Q E h=>(no h).elim,λA outer s H args us vs Q E hr he hb hv h=>(no h).elim]
theorem DC{f:ε}{fd:bm}(F:aK K "_law_log" "_law_log" wY f fd)(bS:ay K fd ["_law_chain"] [])(mS:mg "_law_log"=δ (.ref f)):∀n,ak P w K mg base aD (n+1) f fd ["_law_chain"] (gJ n)
 |0=>Bc
 |n+1=>Bo F #[(DC F bS mS n),bS,F.kp,mS]
abbrev mX:ey:=top 62
abbrev sS:ey:=top 73
inductive gY(b:List V)(H:Hp)(Q:VK)(a:XK):Prop
 |mk(p:ε)(_:b=[.ref p])(_:ar H p)(_:∀(l:ε) (C:aF) (H':Hp),H l=ζ->H' l=δ (.dK C)->GT C->C.length<=13->ar H' p->aA p H H'->Q (.ref l) H')
inductive CL(p l:ε)(H:Hp)(i:Nat)(k:_L.St)(a:Hp):Prop
 |mk(h j:Option V)(C:aF)(b:k=[δ (.ref p),δ (.ref l),h,j])(c:a l=δ (.dK C))(d:GT C)(e:C.length<=i)(f:ar a p)(g:aA p H a)
inductive lH(c:List V)(H:Hp)(Q:VK)(a:XK):Prop
 |mk(p b:ε)(C:aF)(_:c=[.ref p,.ref b])(_:ar H p)(_:H b=δ (.dK C))(_:GT C)(_:C.length<=13)(_:∀(t r:ε) (v2 v3:V) (d:Df) (xs:List V) (C':aF) (H':Hp),H' t=δ (.tup [.ref r,v2,v3])->H' r=δ (.tup xs)->bX H' [d] xs->iU [d] [1]->iz H' [d] [1]->nK H' [d] v2 v3->H' b=δ (.dK C')->GT C'->C'.length<=14->aT p b H H'->Q (.ref t) H')
section
variable {Cf:eQ}{ys:List π}{H0 Hb H:Hp}{p wl:ε}{σ:_L.St}
theorem xw{K:Ω}{H:Hp}{ta tb:TE}{i j:Nat}{D:a7}(W:Wd H0 H p wl ys)(ha:Ev H0 p wl ys H σ ta (PT ys 0))(hb:Ev H0 p wl ys H σ tb (PT ys 0))
  (q:∀u v H',PT ys 0 H' u->PT ys 0 H' v->Wd H0 H' p wl ys->Fw p H H'->D.nx ((σ.set j$ δ v).set i$ δ u) H'):yV K (bJ$ al ta$ al tb aJ) i j D σ H:=
 ha H _ .refl W λv2 H2 x2 W2 k2=>hb H2 _ k2 W2 λv3 H3 x3 W3 k3=>#[bK,λr nr=>#[r,_,_,rfl,aC.of jc,q v2 v3 _ (ap _ _ _ (af.tm$ je nr)$ ap _ _ _ k3.t x2) (ap _ _ _ (af.tm$ je nr) x3) (W3.same$ je nr) ((k2.trans k3).trans$ .new nr)]]
theorem Az{i:Nat}{n:Int}(e:σ[i]?=δ (δ$ .int n))(h0:0<=n)(h1:n < 1000000000000000000):Ev H0 p wl ys Hb σ (aZ i) (PK 1000000000000000000):=jF e (λ_ _ _ _ h=>h) #[n,rfl,h0,h1]
theorem Dn{ta tc:TE}{f1:π}{n:Int}(e:σ[0]?=δ (δ$ .ref p))(hn1:1<=n)(hn2:n<=1000)(ha:Ev H0 p wl ys Hb σ ta (PD [(f1,1)] 1 f1))(hc:Ev H0 p wl ys Hb σ tc (uQ f1)):Ev H0 p wl ys Hb σ (bJ$ al (bJ$ al ta aJ)$ al tc$ al (bJ$ al (uu n) aJ) aJ) (λH v=>∃t r v2 v3 d xs,v= .ref t/\H t=δ (.tup [.ref r,v2,v3])/\H r=δ (.tup xs)/\bX H [d] xs/\((iB d/\d.b.Cs [(f1,1)])/\d.f=f1)/\iz H [d] [1]/\nK H [d] v2 v3):=λH Q m W q=>
 ha H _ m W λv2 H2 x2 W2 k2=>#[gZ,λr nr=>by
  let t1:af H2 (aj H2 r$ .tup [v2]):=je nr;let W4:=W2.same t1;let k4:Fw p H2 (aj H2 r$ .tup [v2]):=.new nr;let e4:aj H2 r (.tup [v2]) r=δ (.tup [v2]):=jc;refine hc _ _ ((m.trans k2).trans k4) W4 λv5 H5 x5 W5 k5=>kS e hn1 hn2 _ _ (((m.trans k2).trans k4).trans k5) W5 λv6 H6 x6 W6 k6=>#[gZ,λa na=>?_];obtain⟨i,rfl,i0,i1⟩:=x6;let t2:af H6 (aj H6 a$ .tup [.int i]):=je na;let e5:aj H6 a (.tup [.int i]) a=δ (.tup ([i].map HW)):=jc;refine#[eA,λt nt=>?_];let t3:af (aj H6 a$ .tup [.int i]) (aj (aj H6 a$ .tup [.int i]) t$ .tup [.ref r,v5,.ref a]):=je nt;let mm:ai H2 (aj (aj H6 a$ .tup [.int i]) t$ .tup [.ref r,v5,.ref a]):=(((af.tm t1).trans k5.t).trans k6.t).trans (af.tm$ t2.trans t3);obtain⟨b1,g1,d,d1,d2,ps,d3,d4,e0⟩:=iK _ _ _ mm x2;let x5:v5= .str f1:=x5;refine q _ _ #[t,r,v5,.ref a,d,[.ref b1],rfl,jc,?_,#[_,_,rfl,d1,rfl],#[d2,e0],#[rfl,λj x n h1 h2=>?_],d,ps,a,[i],ρ.mpr rfl,by rw[x5,e0],d3,rfl,t3 _ _ e5,by rw[d4];rfl,by show 1<=100;decide,λz hz=>by rw[ρ.mp hz];exact#[i0,Hz]] ((W6.same t2).same t3) (((((k2.trans k4).trans k5).trans k6).trans$ .new na).trans$ .new nt)
  .rw[<- g1];exact t3 _ _$ t2 _ _$ k6.t _ _$ k5.t _ _ e4
  .match j,h1,h2 with
   |0,h1,h2=>cases h1;cases h2;exact#[_,d3,d4,HA]]
end
theorem fi:am ["_law_box_here","_law_cells_here","_law_k","_law_cell"] z2z (ae mX):=bY
theorem rW{f:ε}{fd:bm}{fT fU:ε}{fdT fdU:bm}(F:aK K "_law_cells" "_law_cells" mX f fd)(cT:Cl P w K mg base 1 fT fdT z0z aW "_law_take")(cU:Cl P w K mg base 2 fU fdU z2z gK "_law_number")(mr:mg "range"=ζ):ak P w K mg base aD 3 f fd z2z gY:=by
 refine F.ok fi ?_ λcdv A outer s H vs Q E hr h=>?_
 .rintro _ _ _ _ ⟨p,rfl,_⟩;rfl
 obtain⟨p,rfl,B,q⟩:=h;refine#[_,(jd (jy 1 fi.nd Jy)$ jd (kX PassesOwn.never rfl (ze rfl mr$ ja (cT.e hr.m$ ja (pv 0)$ ja jf jb) jb) (ju (i:=2) fi.nd rfl$ ω rfl)$ jd (jy 3 fi.nd$ cT.e hr.m$ ja (pv 0)$ ja jf jb)$ jd (jw (zc$ cT.e hr.m$ ja (pv 0)$ ja jf jb) (jg$ jy 3 fi.nd$ jv kI (jv kI (jv qX jf jf) jf)$ cT.e hr.m$ ja (pv 0)$ ja jf jb) jp)$ jg$ kf (jQ hr) (pv 1) (pv 3) (cU.e hr.m$ ja (pv 0) jb) rfl)$ jg$ jo$ pv 1),?_];let big:=aI;let t18:=gM;refine ah λF1 f1=>λl nl=>f1 _ _ ?_;clear f1;let s1:af H (aj H l$ .dK []):=je nl;let e1:aj H l (.dK []) l=δ (.dK []):=jc;generalize aj H l (.dK [])=H1 at s1 e1;let lp:l≠p:=B.ne nl;let B1:=B.same s1;refine ah λF1 f1=>gu λJ j=>#[_,rfl,p,14,rfl,B1,HA,HA,λd H2 d0 d1 B2 e2=>#[_,rfl,Hz,Hz,j _ _ ?_]];clear j;refine qi (lo:=0) (CL p l H) #[ζ,ζ,[],rfl,by rw[e2 l lp];exact e1,_K.GT.nil,β _,B2,(aA.of_same s1).trans$ aA.of_eq e2] ?_ (λσ H' h=>f1 _ _ ?_)
 .clear f1;intro E0 _ i σ H3 hi fE Gq kq h;obtain⟨o2,o3,C,rfl,hl,gC,lC,B3,k3⟩:=h;refine kq ?_;clear kq;show cR (dn _ _) _ E0 _ _;refine ah λF1 f1=>#[_,rfl,p,14,rfl,B3,HA,HA,λc4 H4 d40 d41 B4 e4=>f1 _ _ ?_];clear f1;refine ah λF1 f1=>?_;let cont:∀(cc:Int) (HH:Hp),ar HH p->(∀b,b≠p->HH b=H3 b)->F1 [δ$ .ref p,δ$ .ref l,δ$ .int (0+(i:Int)),δ$ .int cc] HH:=λcc HH BH eH=>f1 _ _ (by
   refine#[_,rfl,p,rfl,BH,λm H7 m0 m1 B7 e7=>?_];let h7:H7 l=δ (.dK C):=by rw[e7 l lp,eH l lp];exact hl
   let pl:=zN C (.inl cc) (.int m);exact#[_,rfl,_,rfl,l,_,rfl,dU.k (k:=.inl cc) h7 Hz,fE _ _ #[_,_,_,rfl,jc,gC.put _ #[m0,m1],Hz,B7.eq$ ji$ Ne.symm lp,(k3.trans ((aA.of_eq eH).trans$ aA.of_eq e7)).upd_own nl]])
  refine nO λG1 yT yF=>#[_,rfl,p,8,rfl,B4,HA,HA,λd5 H5 d50 d51 B5 e5=>#[rfl,_,rfl,?_]];by_cases h3:d5=0
  .rw[h3,decide_eq_true (rfl:HW 0=HW 0)];refine yT _ #[_,_,rfl,rfl,#[HA,HA,HA],_,_,rfl,rfl,_,rfl,p,4,rfl,B5,HA,HA,λd6 H6 d60 d61 B6 e6=>#[_,_,rfl,rfl,cont _ H6 B6 λb nb=>(e6 b nb).trans ((e5 b nb).trans$ e4 b nb)]]
  .rw[decide_eq_false (λz=>h3 (by injection z))];exact yF _$ cont _ H5 B5 λb nb=>(e5 b nb).trans (e4 b nb)
 .obtain⟨o2,o3,C,rfl,hl,gC,lC,B3,k3⟩:=h;exact#[_,rfl,q l C H' nl hl gC Hz B3 k3]
theorem eW:am ["_law_box_here","_law_cells_here","_law_w","_law_far","_law_i","_law_x","_law_body_here","_law_loop"] ["_law_box_here","_law_cells_here"] (ae sS):=bY
theorem vY{f:ε}{fd:bm}{fN fT fU:ε}{fdN fdT fdU:bm}(F:aK K "_law_long" "_law_long" sS f fd)(cN:Cl P w K mg base 2 fN fdN z22z eG "_law_names")(cT:Cl P w K mg base 1 fT fdT z0z aW "_law_take")(cU:Cl P w K mg base 2 fU fdU z2z gK "_law_number"):ak P w K mg base aD 3 f fd ["_law_box_here","_law_cells_here"] lH:=by
 refine F.ok eW ?_ λcdv A outer s H vs Q E hr h=>?_
 .rintro _ _ _ _ ⟨p,cA,C,rfl,_⟩;rfl
 obtain⟨p,cA,C,rfl,B,hcA,gC,lC,q⟩:=h;refine#[_,(jd (jy 2 eW.nd$ cN.e hr.m$ ja (pv 0)$ ja jf jb)$ jd (jy 3 eW.nd$ cT.e hr.m$ ja (pv 0)$ ja (jv qX jf jf) jb)$ jd (kf (jQ hr) (pv 1) (pv 3) (cU.e hr.m$ ja (pv 0) jb) rfl)$ jd (@wK _ _ _ _ _ _ _ (4) (5) rfl eW.nd rfl rfl (ω rfl) (ω rfl) (jh$ ja (jh$ ja jj$ ja (js jr (pv 2) jf (λ_ _=>rfl)) jb)$ ja (jh$ ja jj$ ja (js jr (pv 2) jf (λ_ _=>rfl)) jb) jb) (by first |exact .inl rfl |exact .inr rfl) (by first |exact .inl rfl |exact .inr rfl) Hv Hv)$ jd (jy 6 eW.nd$ jh$ ja (jh$ ja jj$ ja (js jr (pv 2) jf (λ_ _=>rfl))$ ja (pv 4) jb)$ ja (jh$ ja jj$ ja (jh$ ja jj$ ja jj$ ja (pv 4)$ ja (jh$ ja jj$ ja jf jb) jb)$ ja (jh$ ja jj$ ja jj$ ja (pv 5)$ ja (jh$ ja jj$ ja (js jr (pv 2) jf (λ_ _=>rfl)) jb) jb) jb) jb)$ jd (jy 6 eW.nd$ jv ky (pv 6)$ jh$ ja (jh$ ja jj$ ja (js jr (pv 2) jf (λ_ _=>rfl))$ ja (jh$ ja jj$ ja jj$ ja (pv 4)$ ja (jh$ ja jj$ ja jf jb) jb) jb) jb)$ jd (jy 7 eW.nd$ jh$ ja jj$ ja (jh$ ja jj$ ja jj$ ja (pv 4)$ ja (jh$ ja jj$ ja (js jr (pv 2) jf (λ_ _=>rfl)) jb) jb)$ ja (pv 6) jb)$ jg$ jo$ jh$ ja (jh$ ja (jh$ ja (js jr (pv 2) jf (λ_ _=>rfl))$ ja (jh$ ja (js jr (pv 2) jf (λ_ _=>rfl)) jb)$ ja (jh$ ja (jh$ ja jj$ ja (js jr (pv 2) jf (λ_ _=>rfl))$ ja (jh$ ja jj$ ja (pv 3) jb) jb)$ ja (pv 7)$ ja (jh$ ja jj$ ja (pv 5) jb) jb) jb) jb)$ ja (js jr (pv 2) jf (λ_ _=>rfl))$ ja (jh$ ja (cT.e hr.m$ ja (pv 0)$ ja jf jb) jb) jb),?_];let big:=aI;let t18:=gM;let cp:cA≠p:=by obtain⟨_,_,_,_,_,hb⟩:=B.ob;exact jE hcA hb (by intro z;cases z)
 refine ah λFa fa=>#[_,rfl,p,14,rfl,B,HA,HA,λwl ys Ha nwl hwa hyl hys Ba ka=>fa _ _ ?_];clear fa;obtain⟨y0,h0⟩:∃y,ys[0]?=δ y:=#[_,db (by omega:0 < ys.length)];let wp:wl≠p:=qc Ba hwa;let hcA1:=ka _ _ cp hcA;let wc:wl≠cA:=jE hwa hcA1 (by intro z;cases z);show cR _ _ _ [δ$ .ref p,δ$ .ref cA,δ$ .ref wl,ζ,ζ,ζ,ζ,ζ] Ha;refine ah λF1 f1=>#[_,rfl,_,_,rfl,rfl,#[HA,HA,HA],p,_,rfl,Ba,HA,HA,λfar H1 far0 far1 B1 e1=>f1 _ _ ?_];clear f1;let far1:far < 1000000000000000000:=by omega
 refine ah λF1 f1=>#[_,rfl,p,rfl,B1,λm H2 m0 m1 B2 e2=>?_];let hcA2:H2 cA=δ (.dK C):=by rw[e2 cA cp,e1 cA cp];exact hcA1
 let hw2:H2 wl=δ (.lst$ ys.map HV):=by rw[e2 wl wp,e1 wl wp];exact hwa
 refine#[_,rfl,_,rfl,cA,_,rfl,dU.k (k:=.inl far) hcA2 Hz,f1 _ _ ?_];clear f1;let pl:=zN C (.inl far) (.int m);let gC2:=gC.put (.inl far) (show dG m from #[m0,m1]);let W0:Wd (aj H2 cA$ .dK$ ax C (.inl far)$ .int m) (aj H2 cA$ .dK$ ax C (.inl far)$ .int m) p wl ys:=#[B2.eq$ ji$ Ne.symm cp,aA.refl,by rw[ji wc];exact hw2];let b02:aT p cA H (aj H2 cA$ .dK$ ax C (.inl far)$ .int m):=λb o n1 n2 e=>by rw[ji n2,e2 b n1,e1 b n1];exact ka _ _ n1 e
 let hcA3:aj H2 cA (.dK$ ax C (.inl far)$ .int m) cA=δ (.dK$ ax C (.inl far)$ .int m):=jc;show cR _ _ _ [δ$ .ref p,δ$ .ref cA,δ$ .ref wl,δ$ .int far,ζ,ζ,ζ,ζ] (aj H2 cA$ .dK$ ax C (.inl far)$ .int m);generalize aj H2 cA (.dK$ ax C (.inl far)$ .int m)=H3 at W0 b02 hcA3;refine ah λF1 f1=>xw W0 (qo$ j4 rfl HA Hz) (qo$ j4 rfl HA Hz) λvn vx H4 xn xx W4 k4=>f1 _ _ ?_;show cR _ _ _ [δ$ .ref p,δ$ .ref cA,δ$ .ref wl,δ$ .int far,δ vn,δ vx,ζ,ζ] H4;refine ah λF2 f2=>jO W4 (Xr (Cf:=[(y0,1)]) (Jh (j4 rfl HA Hz) (jF rfl ap$ xn) HA)$ JX (zr (n:=1) (zC kP) (jF rfl ap$ xn) (j8 (Ko HA (by decide:(7:Int) < 9)) HA) HA HA) (zr (n:=1) (zC kP) (jF rfl ap$ xx) (qo$ j4 rfl HA Hz) HA HA) HA HA) λv5 H5 x5 W5 k5=>f2 _ _ ?_;show cR _ _ _ [δ$ .ref p,δ$ .ref cA,δ$ .ref wl,δ$ .int far,δ vn,δ vx,δ v5,ζ] H5;refine ah λF3 f3=>jO W5 (qt (Cf:=[(y0,1)]) (jF rfl dB x5) (JY$ Ji (j4 rfl HA Hz) (zr (n:=1) (zC kP) (jF rfl ap$ ap _ _ _ k5.t xn) (j8 (Ko HA (by decide:(1:Int) < 9)) HA) HA HA) HA) HA) λv6 H6 x6 W6 k6=>f3 _ _ ?_;show cR _ _ _ [δ$ .ref p,δ$ .ref cA,δ$ .ref wl,δ$ .int far,δ vn,δ vx,δ v6,ζ] H6;let m6:ai H4 H6:=k5.t.trans k6.t;refine ah λF4 f4=>jO W6 (pY (Cf:=[(y0,1)]) (zr (n:=1) (zC Kk) (jF rfl ap$ ap _ _ _ m6 xn) (qo$ j4 rfl HA Hz) HA HA) (jF rfl dB x6) HA HA) λv7 H7 x7 W7 k7=>f4 _ _ ?_;show iw _ _ [δ$ .ref p,δ$ .ref cA,δ$ .ref wl,δ$ .int far,δ vn,δ vx,δ v6,δ v7] H7;let m7:ai H4 H7:=m6.trans k7.t;refine KH W7 (Dn (f1:=y0) rfl HA HA (Xt (qp (k:=0) rfl rfl h0) (pX$ j4 rfl HA Hz) (yp (Cf:=[(y0,1)]) (Ev.up (Jh (Cf:=[(y0,1)]) (j4 rfl HA Hz) (j8 (Az rfl far0 far1) HA) HA) λ_ _=>cw.lift) (jF rfl dI x7)$ Ev.up (Qy (Cf:=[(y0,1)]) (jF rfl ap$ ap _ _ _ m7 xx) HA) λ_ _=>cw.lift) HA Hz)$ qp (k:=0) rfl rfl h0) λv H' x W'=>?_;obtain⟨t,r,v2,v3,d,xs,rfl,g0,g1,g2,g3,g4,g5⟩:=x;refine q t r v2 v3 d xs _ H' g0 g1 g2 #[?_,?_] g4 g5 (W'.K _ _ cp hcA3) gC2 Hz (λb o n1 n2 e=>W'.K _ _ n1 (b02 b o n1 n2 e))
 .show ∀x∈[d],iB x/\x.b.Cs [(d.f,1)];intro x hx;rw[ρ.mp hx,g3.2];exact g3.1
 .show [d.f].Nodup/\∀y∈[d.f],y.length<=20;refine#[Hy,λy hy=>?_];rw[ρ.mp hy,g3.2];exact hys.1 y0$ hJ h0
abbrev ni:ey:=top 74
def nD:Sk->Tr
 | .nil=>.nil
 | .st n hs w r=>.cons (a5 [aY n,a5 (hs.map aY),nD w]) (nD r)
 | .ask b=>a5 [bo "ask",aY b]
 | .rd c i=>a5 [bo "read",aY c,aY i]
 | .wr c i=>a5 [bo "write",aY c,aY i]
 | .cl f is s a=>a5 [bo "call",a5 [bo f,a5 (is.map aY),.tp (nD s),aY a]]
theorem YW:∀{b:Bool} {s:Sk},s.ok b->(nD s).isL=b
 |true,.nil,_=>rfl
 |true,.st _ _ _ _,_=>rfl
 |false,.cl _ _ _ _,_=>rfl
 |false,.ask _,_=>rfl
 |false,.rd _ _,_=>rfl
 |false,.wr _ _,_=>rfl
theorem Yh{H:Hp}{h:ε}{hs:List Int}(e:H h=δ (.tup$ hs.map HW)):aN H (a5$ hs.map aY) (.ref h) []:=jD e Js
theorem YX{H:Hp}:∀{b:Bool} {s:Sk} {u:V} {xs:List V},s.ok b->iO H s u xs->(b=ν->xs=[])->(b=μ->u= .non)->aN H (nD s) u xs
 |true,.nil,_,_,_,h,_,_=>h
 |true,.st n hs w r,_,_,o,q_q,_,z=>by obtain⟨p,h,u,ys,e,h1,h2,h3,h4⟩:=q_q;rw[e,z rfl];exact#[rfl,YW o.2,_,_,rfl,jD h1$ jm rfl j3$ jm rfl (Yh h2)$ jm (YW o.1) (YX o.1 h3 (λ_=>rfl) (λx=>nomatch x)) jA,YX o.2 h4 (λx=>nomatch x) (λ_=>rfl)]
 |false,.ask b,_,_,_,q_q,z,_=>by obtain⟨p,e,h⟩:=q_q;rw[e,z rfl];exact jD h (jm rfl jM (jm rfl j3 jA))
 |false,.rd c i,_,_,_,q_q,z,_=>by obtain⟨p,e,h⟩:=q_q;rw[e,z rfl];exact jD h (jm rfl jM (jm rfl j3 (jm rfl j3 jA)))
 |false,.wr c i,_,_,_,q_q,z,_=>by obtain⟨p,e,h⟩:=q_q;rw[e,z rfl];exact jD h (jm rfl jM (jm rfl j3 (jm rfl j3 jA)))
 |false,.cl f is s a,_,_,o,q_q,z,_=>by obtain⟨p,c,g,e,ss,e0,h1,h2,h3,h4,h5⟩:=q_q;rw[e0,z rfl];exact jD h1$ jm rfl jM$ jm rfl (jD h2$ jm rfl jM$ jm rfl (Yh h3)$ jm rfl #[YW o,e,ss,rfl,h4,YX (b:=μ) o h5 (λx=>nomatch x) (λ_=>rfl)] (jm rfl j3 jA)) jA
theorem qF:∀is:List Int,(aE$ is.map aY).dep=0
 | []=>rfl
 |_::is=>by show max 0 (aE (is.map aY)).dep=0;rw[qF is];rfl
theorem Q8:∀{b:Bool} {s:Sk},s.ok b->(nD s).dep<=4*s.dep+(if b=μ then 2 else 1)
 |true,.nil,_=>fx _
 |true,.st n hs w r,o=>by let h1:=Q8 (b:=ν) (s:=w) o.1;let h2:=Q8 (b:=μ) (s:=r) o.2;let h3:=qF hs;let h1:(nD w).dep<=4*w.dep+1:=h1;let h2:(nD r).dep<=4*r.dep+2:=h2;show max (max 0 (max ((aE$ hs.map aY).dep+1)$ max (nD w).dep 0)+1) (nD r).dep<=4*max w.dep r.dep+2;omega
 |false,.ask _,_=>β 1
 |false,.rd _ _,_=>β 1
 |false,.wr _ _,_=>β 1
 |false,.cl f is s a,o=>by let h1:=Q8 (b:=μ) (s:=s) o;let h3:=qF is;let h1:(nD s).dep<=4*s.dep+2:=h1;show max 0 (max (max 0 (max ((aE$ is.map aY).dep+1)$ max ((nD s).dep+1)$ max 0 0)+1) 0)+1<=4*(s.dep+1)+1;omega
def C9(f:π)(is:List Int)(s:Sk)(a:Int):Tr:=aE [bo f,a5$ is.map aY,.tp$ nD s,aY a]
theorem Db{H:Hp}{f:π}{is:List Int}{s:Sk}{a:Int}{u:V}(h:xX H f is s a u)(o:s.ok μ):aN H (.tp$ C9 f is s a) u []:=by obtain⟨c,g,e,ss,rfl,h2,h3,h4,h5⟩:=h;exact jD h2$ jm rfl jM$ jm rfl (Yh h3)$ jm rfl #[YW o,e,ss,rfl,h4,YX (b:=μ) o h5 (λx=>nomatch x) (λ_=>rfl)] (jm rfl j3 jA)
theorem An{f:π}{is:List Int}{s:Sk}{a:Int}(o:s.ok μ)(d:s.dep<=15):(C9 f is s a).dep < 100:=by let h1:=Q8 (b:=μ) (s:=s) o;let h3:=qF is;let h1:(nD s).dep<=4*s.dep+2:=h1;show max 0 (max ((aE$ is.map aY).dep+1)$ max ((nD s).dep+1)$ max 0 0) < 100;omega
theorem wz{X:Cx}(hu:X.A.units+10 < cLine):gp X (compareOp .Eq) (λx y H Q=>∃(a b:ε) (xs ys:List V) (l:Tr),x= .ref a/\y= .ref b/\H a=δ (.lst xs)/\H b=δ (.lst ys)/\l.isL=μ/\l.dep < 9/\aN H l .non xs/\aN H l .non ys/\Q (.bl μ) H):=by
 intro pins s σ H x y v u Q I rx ry h;obtain⟨a,b,xs,ys,l,rfl,rfl,ha,hb,hl,hd,ta,tb,q⟩:=h;cases rx;cases ry;obtain⟨ia,ra,pa,_⟩:=I.list (aG.of (K:=X.K) ha);obtain⟨ib,rb,pb,_⟩:=I.list (aG.of (K:=X.K) hb);let la:=ra.length;let lb:=rb.length;obtain⟨hlen,h2⟩:=(y7 I l (A:=X.A.in1) (by show X.A.units+1+l.dep < cLine;omega) (aN.at ta)$ aN.at tb).2 hl;refine PySem.SeqAt.RcAt.lists (e:=λ_=>μ) pa.isList pb.isList (by simp;omega) Hz (λj h1 h2'=>?_) X.prog X.w _ _ ?_
 .let hj:j < xs.length:=by simp at h1;omega
  let hj':j < ys.length:=by omega
  obtain⟨u1,q1,r1⟩:=ra.get (db hj);obtain⟨u2,q2,r2⟩:=rb.get (db hj');let e1:ia.toArray[j]=u1:=by obtain⟨_,e⟩:=τ.mp q1;simpa using e
  let e2:ib.toArray[j]=u2:=by obtain⟨_,e⟩:=τ.mp q2;simpa using e
  rw[e1,e2];exact h2 j _ _ _ _ (db hj) (db hj') r1 r2
 .let e:((ru ia.toArray.size).all λ_=>μ)=μ:=by simp
  rw[e];exact#[.bl μ,H,I,rfl,q]
theorem FK{A:ef}{k:Nat}(hr:bu k A):A.units+10 < cLine:=by let:=hr.un;omega
theorem uS{A:ef}{k:Nat}(hr:bu k A):A.units < cLine:=by let:=hr.un;omega
theorem Dy{A:ef}{k:Nat}(hr:bu k A):A.units+101 < cLine:=by let:=hr.un;omega
theorem Au:∀(e:En),(iI e).dep<=2
 | .ask _=>by show max 0 (max 0 0)+1<=2;decide
 | .rd _ _=>by show max 0 (max 0 (max 0 0))+1<=2;decide
 | .wr _ _=>by show max 0 (max 0 (max 0 0))+1<=2;decide
 | .cl f is=>by show max 0 (max 0$ max ((aE$ is.map aY).dep+1) 0)+1<=2;rw[qF];decide
theorem Zs:∀(G:List En),(aE$ G.map iI).dep<=2
 | []=>fx _
 |e::G=>by let h1:=Au e;let h2:=Zs G;show max (iI e).dep (aE$ G.map iI).dep<=2;omega
theorem vo:∀(G:List En),(aE$ G.map iI).isL=μ
 | []=>rfl
 |_::_=>rfl
theorem Av{H:Hp}{e:En}{x:V}(h:aN H (iI e) x []):∃(p:ε) (w:π) (rest:List V),x= .ref p/\H p=δ (.tup (.str w::rest))/\((w≠"write"/\∀L,lR [e] L=L)∨∃c i,e= .wr c i/\w="write"/\rest=[.int c,.int i]):=by
 cases e with
 |ask b |rd c i |cl f is=>obtain⟨_,p,xs,rfl,hp,_,_,y0,ys0,rfl,⟨rfl,_⟩,_⟩:=h;exact#[p,_,_,rfl,hp,.inl #[Hw,λ_=>rfl]]
 |wr c i=>obtain⟨_,p,xs,rfl,hp,_,_,y0,ys0,rfl,⟨rfl,_⟩,_,_,y1,ys1,rfl,⟨rfl,_⟩,_,_,y2,ys2,rfl,⟨rfl,_⟩,e⟩:=h;let e:ys2=[]:=e;subst e;exact#[p,_,_,rfl,hp,.inr #[c,i,rfl,rfl,rfl]]
theorem uL{G:List En}{i:Nat}{e:En}(h:G[i]?=δ e)(L:aF):lR (G.take$ i+1) L=lR [e] (lR (G.take i) L):=by rw[HS,h,Option.toList_some,qf]
theorem vK{m x:Int}(m0:0<=m)(m1:m < 61)(x0:0<=x)(x1:x < 3):∃M:Nat,M<=60/\dC [HW 60,.int 60,.int m] x=δ (.int (M:Int)):=by
 let h:x=0∨x=1∨x=2:=by omega
 rcases h with rfl |rfl |rfl
 .exact#[60,HA,rfl]
 .exact#[60,HA,rfl]
 .obtain⟨M,rfl⟩:∃M:Nat,m=(M:Int):=#[m.toNat,Hz];exact#[M,Hz,rfl]
theorem Bf{xs:List V}:NX (.lst xs):=λφ z=>by cases z
inductive Gz(g:_L.St)(h:ε)(G:List En)(H:Hp)(i:Nat)(j:_L.St)(b:Hp):Prop
 |mk(a:Option V)(c:j=g++[a])(d:b h=δ (.dK (lR (G.take i) [])))(e:(lR (G.take i) []).length<=i)(f:aA h H b)
inductive mj(K:Ω)(d:List V)(H:Hp)(Q:VK)(b:XK):Prop
 |mk(a:ε)(c:List Int)(_:d=[.ref a])(_:aG K H a (c.map HW))(_:c.length<=63)(_:∀H',Q (.bl μ) H')
theorem b6:am ["_law_script","_law_box_here","_law_program","_law_f","_law_args","_law_most","_law_cells_here","_law_parts","_law_word","_law_answer","_law_wrote","_law_turns","_law_log_here","_law_found","_law_steps","_law_written","_law_what"] ["_law_script"] (ae ni):=bY
theorem Bn{f:ε}{fd:bm}{TL TD nA fB fT fK fC fL fM fP fD fG:ε}{fdB fdT fdK fdC fdL fdM fdP fdD fdG:bm}(F:aK K "law" "law" ni f fd)(cB:Cl P w K mg base 1 fB fdB ["_law_script","_law_k"] (oj K) "_law_box")(cT:Cl P w K mg base 1 fT fdT z0z aW "_law_take")(cK:Cl P w K mg base 23 fK fdK z2z lF "_law_case")(cC:Cl P w K mg base 3 fC fdC z2z gY "_law_cells")(cL:Cl P w K mg base 3 fL fdL ["_law_box_here","_law_cells_here"] lH "_law_long")(cM:Cl P w K mg base 65 fM fdM ["program"] (lI K nA) "made")(cP:Cl P w K mg base 218 fP fdP z36z xG "_law_plain")(cD:Cl P w K mg base 46 fD fdD z37z (lO TL TD nA) "_law_told")(cG:Cl P w K mg base 17 fG fdG ["_law_chain"] (gJ 16) "_law_log")(ml:mg "len"=ζ):ak P w K mg base aD 219 f fd ["_law_script"] (mj K):=by
 refine F.ok b6 ?_ λcdv A outer s H vs Q E hr h=>?_
 .rintro _ _ _ _ ⟨a,ns,rfl,_⟩;rfl
 obtain⟨a,ns,rfl,hS,hn,qq⟩:=h;refine#[_,(jd (jy 1 b6.nd$ cB.e hr.m$ ja (pv 0)$ ja jf jb)$ jd (kQ (cK.e hr.m$ ja (pv 1) jb)$ zD (n:=3) rfl$ jz (ju (i:=2) b6.nd rfl$ ω rfl)$ jz (ju (i:=3) b6.nd rfl$ ω rfl)$ jz (ju (i:=4) b6.nd rfl$ ω rfl) kx)$ jd (jy 5 b6.nd$ js jr (jG$ ja jf$ ja jf$ ja (cT.e hr.m$ ja (pv 1)$ ja jf jb) jb) (cT.e hr.m$ ja (pv 1)$ ja jf jb) (λ_ _=>rfl))$ jd (jy 6 b6.nd$ cC.e hr.m$ ja (cB.e hr.m$ ja (pv 0)$ ja jf jb) jb)$ jd (jw (zc$ cT.e hr.m$ ja (pv 1)$ ja jf jb) (jd (jy 5 b6.nd$ jv kI jf$ cT.e hr.m$ ja (pv 1)$ ja jf jb)$ jg$ kQ (cL.e hr.m$ ja (cB.e hr.m$ ja (pv 0)$ ja jf jb)$ ja (pv 6) jb)$ zD (n:=3) rfl$ jz (ju (i:=2) b6.nd rfl$ ω rfl)$ jz (ju (i:=3) b6.nd rfl$ ω rfl)$ jz (ju (i:=4) b6.nd rfl$ ω rfl) kx) jp)$ jd (jy 7 b6.nd$ cM.e hr.m$ ja (pv 2) jb)$ jd (kQ (cP.e hr.m$ ja (pv 2)$ ja (pv 3)$ ja (pv 4)$ ja (pv 6)$ ja (pv 5) jb)$ zD (n:=5) rfl$ jz (ju (i:=8) b6.nd rfl$ ω rfl)$ jz (ju (i:=9) b6.nd rfl$ ω rfl)$ jz (ju (i:=10) b6.nd rfl$ ω rfl)$ jz (ju (i:=11) b6.nd rfl$ ω rfl)$ jz (ju (i:=12) b6.nd rfl$ ω rfl) kx)$ jd (jy 13 b6.nd$ cD.e hr.m$ ja (pv 7)$ ja (pv 3)$ ja (pv 4)$ ja (pv 6)$ ja (pv 5) jb)$ jd (jw (PW.pt$ YR (jB JV (jx$ pv 13) (pv 8)$ au _)$ Q0$ jB (wB (d:=101)$ Dy hr) (cD.e hr.m$ ja (pv 7)$ ja (pv 3)$ ja (pv 4)$ ja (pv 6)$ ja (pv 5) jb) (pv 13)$ au _) (jg$ jo$ @Jg _ _ _ _) jp)$ jd (jw (jB JV (pv 8) jj$ au _) (jg$ jo$ @Jg _ _ _ _) jp)$ jd (jy 14 b6.nd$ cG.e hr.m$ ja (jx$ pv 13) jb)$ jd (jy 15 b6.nd Jy)$ jd (kX PassesOwn.never rfl (Jl$ pv 14) (ju (i:=16) b6.nd rfl$ ω rfl)$ jg$ jw (jW$ jx$ pv 16) (jg$ kf (jQ hr) (pv 15) (jx$ pv 16) (jx$ pv 16) rfl) jp)$ jg$ jo$ Yb (j9 zq (jx$ js j7 (pv 13) jf (λ_ _=>rfl)) (pv 9)$ au _)$ Yb (j9 (wz$ FK hr) (pv 14) (pv 12)$ au _)$ Yb (j9 zq (jS jL rfl ml PySem.boot_len$ ja (pv 14) jb) (pv 11)$ au _)$ BG$ j9 (Bw$ uS hr) (pv 15) (pv 10)$ au _),?_];let big:=aI;let t18:=gM;refine ah λF1 f1=>#[_,rfl,a,ns,1,rfl,hS,HA,HA,λp H1 np B1 e1=>f1 _ _ ?_];clear f1;let s1:af H H1:=λb o e=>by rw[e1 b$ jk e np];exact e
 refine ah λF1 f1=>#[_,rfl,p,rfl,B1,λt r v2 v3 ds zs H3 ht hr3 hD h1 h8 nl hN hPa hCa B3 k3=>#[t,_,rfl,aC.of ht,rfl,_,_,rfl,_,_,rfl,_,_,rfl,rfl,f1 _ _ ?_]];clear f1;let s3:af H H3:=λb o e=>k3 _ _ (jk e np) (s1 _ _ e);obtain⟨qs,q,i,ta,is,P3,hq,rfl,rfl,hta,hni,hil,his⟩:=yJ hr3 hD h8 hN hPa hCa;clear ht hr3 hD h8 h1 hN hPa hCa;show cR (dn _ _) _ _ [δ$ .ref a,δ$ .ref p,δ$ .ref r,δ$ .str q.1.f,δ$ .ref ta,ζ,ζ,ζ,ζ,ζ,ζ,ζ,ζ,ζ,ζ,ζ,ζ] H3;refine ah λF1 f1=>#[_,rfl,p,61,rfl,B3,HA,HA,λm1 H4 m10 m11 B4 e4=>#[eA,λl4 nl4=>#[_,rfl,p,3,rfl,B4.same$ je nl4,HA,HA,λx5 H5 x50 x51 B5 e5=>?_]]];obtain⟨M,hM,hat⟩:=vK m10 m11 x50 x51;let lp:l4≠p:=B4.ne nl4;refine#[l4,_,_,_,rfl,rfl,aG.of (by rw[e5 l4 lp];exact jc),hat,f1 _ _ ?_];clear f1 hat;let k35:aA p H3 H5:=((aA.of_eq e4).trans$ aA.of_same$ je nl4).trans (aA.of_eq e5);let T35:ai H3 H5:=k35.tm B3;let s5:af H H5:=λb o e=>k35 _ _ (jk e np) (s3 _ _ e);show cR (dn _ _) _ _ [δ$ .ref a,δ$ .ref p,δ$ .ref r,δ$ .str q.1.f,δ$ .ref ta,δ$ .int (M:Int),ζ,ζ,ζ,ζ,ζ,ζ,ζ,ζ,ζ,ζ,ζ] H5;refine ah λF1 f1=>#[_,rfl,a,ns,2,rfl,s5.seq hS,HA,HA,λp6 H6 np6 B6 e6=>#[p6,rfl,B6,λcA Ce H7 ncA hcA gC lC B7 k7=>f1 _ _ ?_]];clear f1;let pp:p≠p6:=Ne.symm (B5.ne np6);let s57:af H5 H7:=λb o e=>k7 _ _ (jk e np6) (by rw[e6 b$ jk e np6];exact e);let s7:=s5.trans s57;let B7p:ar H7 p:=B5.same s57;let cp:cA≠p:=by obtain⟨_,_,_,_,_,hb⟩:=B7p.ob;exact jE hcA hb (by intro z;cases z)
 let P7:=(P3.mono T35).mono (af.tm s57);let hta7:=af.tm s57 _ _ (T35 _ _ hta);clear B6 B7 e6 k7 e5 e4 B4 B5;show cR _ _ _ [δ$ .ref a,δ$ .ref p,δ$ .ref r,δ$ .str q.1.f,δ$ .ref ta,δ$ .int (M:Int),δ$ .ref cA,ζ,ζ,ζ,ζ,ζ,ζ,ζ,ζ,ζ,ζ] H7;refine ah λF1 f1=>?_;let cont:∀(r ta:ε) (qs:List Qd) (nl:List Nat) (zs:List V) (q:Qd) (i:Nat) (is:List Int) (M:Nat) (C:aF) (HH:Hp),Pg HH r qs nl zs->qs[i]?=δ q->HH ta=δ (.tup$ is.map HW)->nl[i]?=δ is.length->is.length=q.2.length->(∀z∈is,dG z)->HH cA=δ (.dK C)->_K.GT C->C.length<=14->M<=300->F1 [δ$ .ref a,δ$ .ref p,δ$ .ref r,δ$ .str q.1.f,δ$ .ref ta,δ$ .int (M:Int),δ$ .ref cA,ζ,ζ,ζ,ζ,ζ,ζ,ζ,ζ,ζ,ζ] HH:=by
  clear P7 hta7 hcA gC lC hq hni hil his hM P3 hta;intro r ta qs nl zs q i is M C HH P0 hq hta hni hil his hcA gC lC hM;refine f1 _ _ ?_;clear f1;let hqm:q∈qs:=hJ hq;let hdi:(qs.map ks)[i]?=δ q.1:=by rw[ir,hq];rfl
  refine ah λF1 f1=>#[_,rfl,r,qs.map ks,zs,rfl,P0.at',P0.dv,by rw[Φ];let:=P0.l8;omega,λd hd=>?_,λv H2 tr s2=>f1 _ _ ?_]
  .obtain⟨c,hc,rfl⟩:=cJ.mp hd;exact(P0.q c hc).ok
  clear f1;obtain⟨_,p2,xs,rfl,hp2,htr⟩:=tr;let P2:=P0.mono (af.tm s2);let PS:=P2.ps hp2 htr;obtain⟨kk,o,hkk,hx⟩:=AC (Ej P2.q P2.nd) C (m:=(M:Int)) Hz 15 q.pl is ([],[]) 0 M (cJ.mpr #[q,hqm,rfl]) Hz;obtain⟨hfind,_⟩:=sI hqm P2.nd;let res:dM [] (ba M (qs.map Qd.mk) C 16 q.1.f is [] 0) o:=xE (vI P2.q) hfind hx (fx _);let told:∀{H9:Hp},Kp H2 H9->Ps H9 nA p2 (qs.map ks) nl xs (qs.map Qd.mk)/\H9 ta=δ (.tup$ is.map HW)/\H9 cA=δ (.dK C):=λk=>#[PS.mono k.tm,k.tm _ _$ s2 _ _ hta,k _ _ yE$ s2 _ _ hcA];show cR (dn _ _) _ _ [δ$ .ref a,δ$ .ref p,δ$ .ref r,δ$ .str q.1.f,δ$ .ref ta,δ$ .int (M:Int),δ$ .ref cA,δ$ .ref p2,ζ,ζ,ζ,ζ,ζ,ζ,ζ,ζ,ζ] H2;refine ah λF1 f1=>#[_,rfl,_,rfl,_,rfl,_,rfl,_,rfl,C,qs.map Qd.pl,r,ta,cA,q.1.f,q.pl,is,kk,(M:Int),o,rfl,P2.pr,P2.fit,hfind,s2 _ _ hta,his,hil.symm,s2 _ _ hcA,gC,Hz,Hz,Hz,hx,hkk,λb L' t' H3 rr wA gA eo hrr hwA gL lL hlg s3=>#[rr,_,rfl,aC.of hrr,rfl,_,_,rfl,_,_,rfl,_,_,rfl,_,_,rfl,_,_,rfl,rfl,f1 _ _ ?_],λw H3 rr v2 v3 v4 v5 eo hrr s3=>#[rr,_,rfl,aC.of hrr,rfl,_,_,rfl,_,_,rfl,_,_,rfl,_,_,rfl,_,_,rfl,rfl,f1 _ _ ?_]]
  .clear f1;subst eo;obtain⟨ys,hgA,hLg⟩:=hlg;obtain⟨ew1,ew2⟩:=FI hx rfl #[rfl,rfl];obtain⟨T3a,T3b,T3c⟩:=told (Kp.of_same s3);show cR (dn _ _) _ _ [δ$ .ref a,δ$ .ref p,δ$ .ref r,δ$ .str q.1.f,δ$ .ref ta,δ$ .int (M:Int),δ$ .ref cA,δ$ .ref p2,δ$ .str "told",δ$ .int b,δ$ .ref wA,δ$ .int (t':Int),δ$ .ref gA,ζ,ζ,ζ,ζ] H3;refine ah λF1 f1=>#[_,rfl,_,rfl,_,rfl,_,rfl,_,rfl,M,p2,ta,cA,i,C,q.1,qs.map ks,nl,xs,qs.map Qd.mk,is,rfl,Hz,T3a,hdi,hni,T3b,his,T3c,gC,λu sk a2 _L rf H4 er cv ok dp sz hrf k4=>f1 _ _ ?_,λw4 rf H4 ew hrf k4=>?_]
   rotate_left
   .rcases ew with ⟨er,_⟩ | ⟨er,_⟩
    .rw[er]at res;exact res.elim
    .rw[er]at res;exact res.elim
   clear f1;rw[er]at res;obtain⟨rfl,e2,e3,eg⟩:=res;rw[List.nil_append]at eg;obtain⟨T4a,T4b,T4c⟩:=told ((Kp.of_same s3).trans k4);refine ah λF1 f1=>(jq hrf rfl #[_,rfl,rfl,_,rfl,aH Hw #[_,rfl,_,rfl,_,rfl,_,rfl,_,rfl,M,p2,ta,cA,i,C,q.1,qs.map ks,nl,xs,qs.map Qd.mk,is,rfl,Hz,T4a,hdi,hni,T4b,his,T4c,gC,λu2 sk2 a3 L3 rf2 H5 er2 cv2 ok2 dp2 bK hrf2 k5=>#[_,rfl,?_],λw5 rf2 H5 ew hrf2 k5=>?_]])
   rotate_left
   .rcases ew with ⟨er2,_⟩ | ⟨er2,_⟩
    .rw[er]at er2;cases er2
    .rw[er]at er2;cases er2
   rw[er]at er2;injection er2 with z1 z2 z3 z4;subst z1;subst z2;let hrf5:=k5.tm _ _ hrf;let cv5:=KQ k5.tm cv;let tb:∀{rx:ε} {ux:V},H5 rx=δ (.tup [.str "told",ux])->xX H5 q.1.f is sk a2 ux->iH K H5 (.tp$ aE [bo "told",.tp$ C9 q.1.f is sk a2]) (.ref rx) []:=λh1 h2=>aN.at (jD h1$ jm rfl jM$ jm rfl (Db h2 ok) jA);refine#[aE [bo "told",.tp$ C9 q.1.f is sk a2],?_,tb hrf2 cv2,tb hrf5 cv5,_,rfl,aH rfl$ f1 _ _ ?_]
   .let:=An (f:=q.1.f) (is:=is) (a:=a2) ok dp;show max 0 (max ((C9 q.1.f is sk a2).dep+1) 0) < 101;omega
   clear f1;let k35:=(Kp.of_same s3).trans (k4.trans k5);refine ah λF1 f1=>#[_,rfl,rfl,_,rfl,aH Hw$ f1 _ _ ?_];clear f1;refine ah λF1 f1=>(jq hrf5 iV #[q.1.f,is,sk,a2,u,rfl,cv5,ok,Hz,Hz,λl ls H6 nl6 hl hls s6=>f1 _ _ ?_]);clear f1;let lls:=hls.len;let hsz:sk.log.length=sk.size:=qM ok;refine ah λF1 f1=>λwd nwd=>f1 _ _ ?_;clear f1;let s67:af H6 (aj H6 wd$ .dK []):=je nwd;let e7:aj H6 wd (.dK []) wd=δ (.dK []):=jc;generalize aj H6 wd (.dK [])=H7 at s67 e7;let lw:l≠wd:=jk hl nwd;show cR _ _ _ [δ$ .ref a,δ$ .ref p,δ$ .ref r,δ$ .str q.1.f,δ$ .ref ta,δ$ .int (M:Int),δ$ .ref cA,δ$ .ref p2,δ$ .str "told",δ$ .int a2,δ$ .ref wA,δ$ .int (t':Int),δ$ .ref gA,δ$ .ref rf,δ$ .ref l,δ$ .ref wd,ζ] H7;refine ah λF1 f1=>gu λJ j=>#[_,rfl,l,rfl,#[_,aG.of$ s67 _ _ hl],j _ _ ?_];clear j;refine QR (K:=K) (xs:=ls) (Gz [δ$ .ref a,δ$ .ref p,δ$ .ref r,δ$ .str q.1.f,δ$ .ref ta,δ$ .int (M:Int),δ$ .ref cA,δ$ .ref p2,δ$ .str "told",δ$ .int a2,δ$ .ref wA,δ$ .int (t':Int),δ$ .ref gA,δ$ .ref rf,δ$ .ref l,δ$ .ref wd] wd sk.log H7) #[ζ,rfl,e7,β _,aA.refl] (λj σ Hx _ h=>?_) ?_ (λσ Hx h=>f1 _ _ ?_)
   .obtain⟨_,_,_,_,k8⟩:=h;exact aG.of$ k8 _ _ lw$ s67 _ _ hl
   .clear f1;intro E hE j x σ H8 hxj fin Gq kq h;obtain⟨o16,rfl,w1,w2,k8⟩:=h;refine kq ?_;clear kq;let jl:j < ls.length:=(τ.mp hxj).1;let tm78:ai H7 H8:=λb xs e=>k8 _ _ (jE e e7 (by intro z;cases z)) e;obtain⟨tt,htt,hTx⟩:=q8 (show aN H6 (aE$ sk.log.map iI) .non ls from hls) j x hxj;rw[ir]at htt;cases hgj:sk.log[j]? with
    |none=>rw[hgj]at htt;cases htt
    |some e=>
    rw[hgj]at htt;cases htt;obtain⟨pe,we,re,rfl,hpe,alt⟩:=Av ((hTx.mono$ af.tm s67).mono tm78);let es:=uL hgj [];show iN _ _ _ E [δ$ .ref a,δ$ .ref p,δ$ .ref r,δ$ .str q.1.f,δ$ .ref ta,δ$ .int (M:Int),δ$ .ref cA,δ$ .ref p2,δ$ .str "told",δ$ .int a2,δ$ .ref wA,δ$ .int (t':Int),δ$ .ref gA,δ$ .ref rf,δ$ .ref l,δ$ .ref wd,δ$ .ref pe] H8;refine nO λG1 yT yF=>(jq hpe hG #[rfl,_,rfl,?_]);rcases alt with ⟨nw,ew⟩ | ⟨c,z,rfl,rfl,rfl⟩
    .rw[decide_eq_false (λz=>nw (by injection z))];exact yF _$ fin _ _ #[_,rfl,by rw[es,ew];exact w1,by rw[es,ew];omega,k8]
    .let pl:=zN (lR (sk.log.take j) []) (.inl c) (.int z);refine yT _$ jq hpe GG #[_,rfl,jq hpe iV #[wd,_,rfl,dU.k (k:=.inl c) w1 Hz,fin _ _ #[_,rfl,by rw[es];exact jc,by rw[es];show(ax _ _ _).length<=_;omega,λb o nb e=>by rw[ji nb];exact k8 _ _ nb e]]]
   .obtain⟨o16,rfl,w1,w2,k8⟩:=h;rw[lls,List.take_length]at w1;let tm68:ai H6 Hx:=λb xs e=>k8 _ _ (jE (s67 _ _ e) e7 (by intro z;cases z)) (s67 _ _ e);let s68:∀b o,b≠wd->H6 b=δ o->Hx b=δ o:=λb o nb e=>k8 _ _ nb (s67 _ _ e);obtain⟨c1,g1,e1',ss1,rfl,q2,q3,q4,q5⟩:=KQ (af.tm s6) cv5;let wA6:H6 wA=δ (.dK L'.1):=s6 _ _ ((k4.trans k5) _ _ yE hwA);let gA6:H6 gA=δ (.lst ys):=s6 _ _ ((k4.trans k5) _ _ Bf hgA);let nwd1:wA≠wd:=jk wA6 nwd;let nwd2:gA≠wd:=jk gA6 nwd;let hLg6:=(hLg.1.mono ((k4.trans k5).tm)).mono (af.tm s6);rw[eg]at hLg6 ew1 ew2;refine(jq (tm68 _ _$ s6 _ _ hrf5) iV #[c1,_,_,_,rfl,rfl,aC.of$ tm68 _ _ q2,G7,_,rfl,rfl,_,rfl,bH (decide_eq_true rfl) ?_]);refine#[_,rfl,_,rfl,l,gA,ls,ys,aE$ sk.log.map iI,rfl,rfl,s68 _ _ lw hl,s68 _ _ nwd2 gA6,vo _,?_,hls.mono tm68,hLg6.mono tm68,_,rfl,bH rfl ?_]
    .let:=Zs sk.log;omega
    refine#[_,rfl,l,_,rfl,.inl$ aG.of$ s68 _ _ lw hl,_,rfl,rfl,_,rfl,bH (decide_eq_true ?_) ?_]
    .rw[lls,ew2]
    refine#[_,rfl,_,rfl,wd,wA,_,rfl,rfl,w1,?_,λp hp=>?_,qq _]
    .rw[<- ew1];exact s68 _ _ nwd1 wA6
    .rw[<- ew1]at hp;obtain⟨z,ez,_⟩:=gL p hp;exact#[z,ez]
  .clear f1;obtain⟨T3a,T3b,T3c⟩:=told (Kp.of_same s3);let ewN:w≠"told":=by rcases eo with ⟨_,rfl⟩ | ⟨_,rfl⟩<;>decide+kernel
   let er:ba M (qs.map Qd.mk) C 16 q.1.f is [] 0= .long/\w="long"∨ba M (qs.map Qd.mk) C 16 q.1.f is [] 0= .deep/\w="deep":=by
    cases hrn:ba M (qs.map Qd.mk) C 16 q.1.f is [] 0 with
    |ok s' a' L' t'=>rw[hrn]at res;rcases eo with ⟨rfl,_⟩ | ⟨rfl,_⟩<;>exact res.elim
    |long=>rw[hrn]at res;rcases eo with ⟨rfl,rfl⟩ | ⟨rfl,_⟩;exact .inl #[rfl,rfl];exact res.elim
    |deep=>rw[hrn]at res;rcases eo with ⟨rfl,_⟩ | ⟨rfl,rfl⟩;exact res.elim;exact .inr #[rfl,rfl]
   let one:∀{w4:π},(ba M (qs.map Qd.mk) C 16 q.1.f is [] 0= .long/\w4="long"∨ba M (qs.map Qd.mk) C 16 q.1.f is [] 0= .deep/\w4="deep")->w4=w:=λh=>by rcases h with ⟨h1,rfl⟩ | ⟨h1,rfl⟩<;>rcases er with ⟨h2,rfl⟩ | ⟨h2,rfl⟩<;>first |rfl | (rw[h1]at h2;cases h2)
   let noT:∀{s' a' L' t'},ba M (qs.map Qd.mk) C 16 q.1.f is [] 0≠ .ok s' a' L' t':=λh=>by rcases er with ⟨h2,_⟩ | ⟨h2,_⟩<;>(rw[h]at h2;cases h2)
   show cR (dn _ _) _ _ [δ$ .ref a,δ$ .ref p,δ$ .ref r,δ$ .str q.1.f,δ$ .ref ta,δ$ .int (M:Int),δ$ .ref cA,δ$ .ref p2,δ$ .str w,δ v2,δ v3,δ v4,δ v5,ζ,ζ,ζ,ζ] H3;refine ah λF1 f1=>#[_,rfl,_,rfl,_,rfl,_,rfl,_,rfl,M,p2,ta,cA,i,C,q.1,qs.map ks,nl,xs,qs.map Qd.mk,is,rfl,Hz,T3a,hdi,hni,T3b,his,T3c,gC,λu sk a2 _L rf H4 er' cv ok dp sz hrf k4=>(noT er').elim,λw4 rf H4 ew hrf k4=>f1 _ _ ?_];clear f1;let:=one ew;subst this;obtain⟨T4a,T4b,T4c⟩:=told ((Kp.of_same s3).trans k4);refine ah λF1 f1=>(jq hrf rfl #[_,rfl,rfl,_,rfl,aH Hy #[_,rfl,_,rfl,_,rfl,_,rfl,_,rfl,M,p2,ta,cA,i,C,q.1,qs.map ks,nl,xs,qs.map Qd.mk,is,rfl,Hz,T4a,hdi,hni,T4b,his,T4c,gC,λu2 sk2 a3 L3 rf2 H5 er2 cv2 ok2 dp2 bK hrf2 k5=>(noT er2).elim,λw5 rf2 H5 ew5 hrf2 k5=>#[_,rfl,?_]]]);let:=one ew5;subst this;let tb:∀{rx:ε},H5 rx=δ (.tup [.str w5,.non])->iH K H5 (.tp$ aE [bo w5,.lf .non]) (.ref rx) []:=λh1=>aN.at (jD h1$ jm rfl jM$ jm rfl #[rfl,rfl] jA);refine#[aE [bo w5,.lf .non],(by show max 0 (max 0 0) < 101;decide),tb hrf2,tb$ k5.tm _ _ hrf,_,rfl,aH rfl$ f1 _ _ ?_];clear f1;refine ah λF1 f1=>#[_,rfl,rfl,_,rfl,bH ?_$ qq _];rw[decide_eq_false (λz=>ewN (by injection z))];rfl
 clear f1;refine nO λG1 yT yF=>#[_,rfl,p,16,rfl,B7p,HA,HA,λd8 H8 d80 d81 B8 e8=>#[rfl,_,rfl,?_]];let k78:aA p H7 H8:=aA.of_eq e8;let T78:ai H7 H8:=k78.tm B7p;by_cases h0:d8=0
 .rw[h0,decide_eq_true (rfl:HW 0=HW 0)];refine yT _ ?_;clear yT yF;refine ah λF2 f2=>#[_,rfl,p,3,rfl,B8,HA,HA,λd9 H9 d90 d91 B9 e9=>#[_,_,rfl,rfl,f2 _ _ ?_]];clear f2;let k79:aA p H7 H9:=k78.trans (aA.of_eq e9);let s9:af H H9:=λb o e=>k79 _ _ (jk e np) (s7 _ _ e);let hcA9:H9 cA=δ (.dK Ce):=k79 _ _ cp hcA;refine#[_,rfl,a,ns,3,rfl,s9.seq hS,HA,HA,λp10 H10 np10 B10 e10=>#[_,rfl,p10,cA,Ce,rfl,B10,by rw[e10 cA$ jk hcA9 np10];exact hcA9,gC,lC,λt2 r2 v2 v3 d xs2 C' H11 ht2 hr2 hD2 hN2 hPa2 hCa2 hcA2 gC2 lC2 k11=>#[t2,_,rfl,aC.of ht2,rfl,_,_,rfl,_,_,rfl,_,_,rfl,rfl,?_]]];obtain⟨qs2,q2,i2,ta2,is2,P11,hq2,rfl,rfl,hta2,hni2,hil2,his2⟩:=yJ hr2 hD2 (by show 1<=8;decide) hN2 hPa2 hCa2;obtain⟨M2,eM2⟩:∃M2:Nat,(300:Int) - d9=(M2:Int):=#[(300 - d9).toNat,Hz];rw[eM2];exact cont r2 ta2 qs2 [1] xs2 q2 i2 is2 M2 C' H11 P11 hq2 hta2 hni2 hil2 his2 hcA2 gC2 lC2 Hz
 .rw[decide_eq_false (λz=>h0 (by injection z))];exact yF _$ cont r ta qs nl zs q i is M Ce H8 (P7.mono T78) hq (T78 _ _ hta7) hni hil his (k78 _ _ cp hcA) gC Hz Hz
@[elab_as_elim] theorem Hq{P:List η->Prop}(u:List η)(h:u.length=1)(q:∀a,P [a]):P u:=by
 cases u with
 |nil=>cases h
 |cons a r=>
  cases r with
  |nil=>exact q a
  |cons _ _=>cases h
theorem _root_._L.aK.b1{K:Ω}{st:ey}{p:List π}(F:aK K x q st f g)(h:∀(kV d b:η) (A:Option ε) (c C a:η),bindArgs (HU x q (bM st) (bf st) (ae st) .none kV d b A c C) #[[a],[]]=pure (p.zip [a]):=by intros;rfl)(e:p.length=1:=by rfl):ay K g p []:=F.binds λkV d b A c C u H=>Hq u (H.trans e) λa=>h kV d b A c C a
@[elab_as_elim] theorem Hr{P:List η->Prop}(u:List η)(h:u.length=2)(q:∀a b,P [a,b]):P u:=by
 cases u with
 |nil=>cases h
 |cons a r=>
  cases r with
  |nil=>cases h
  |cons b R=>
   cases R with
   |nil=>exact q a b
   |cons _ _=>cases h
theorem _root_._L.aK.b2{K:Ω}{st:ey}{p:List π}(F:aK K x q st f i)(h:∀(kV d g:η) (A:Option ε) (c C a b:η),bindArgs (HU x q (bM st) (bf st) (ae st) .none kV d g A c C) #[[a,b],[]]=pure (p.zip [a,b]):=by intros;rfl)(e:p.length=2:=by rfl):ay K i p []:=F.binds λkV d g A c C u H=>Hr u (H.trans e) λa b=>h kV d g A c C a b
@[elab_as_elim] theorem Hs{P:List η->Prop}(u:List η)(h:u.length=3)(q:∀a b c,P [a,b,c]):P u:=by
 cases u with
 |nil=>cases h
 |cons a r=>
  cases r with
  |nil=>cases h
  |cons b R=>
   cases R with
   |nil=>cases h
   |cons c d=>
    cases d with
    |nil=>exact q a b c
    |cons _ _=>cases h
theorem _root_._L.aK.b3{K:Ω}{st:ey}{p:List π}(F:aK K x q st f j)(h:∀(kV d g:η) (A:Option ε) (C i a b c:η),bindArgs (HU x q (bM st) (bf st) (ae st) .none kV d g A C i) #[[a,b,c],[]]=pure (p.zip [a,b,c]):=by intros;rfl)(e:p.length=3:=by rfl):ay K j p []:=F.binds λkV d g A C i u H=>Hs u (H.trans e) λa b c=>h kV d g A C i a b c
@[elab_as_elim] theorem Ht{P:List η->Prop}(u:List η)(h:u.length=4)(q:∀a b c d,P [a,b,c,d]):P u:=by
 cases u with
 |nil=>cases h
 |cons a r=>
  cases r with
  |nil=>cases h
  |cons b R=>
   cases R with
   |nil=>cases h
   |cons c e=>
    cases e with
    |nil=>cases h
    |cons d f=>
     cases f with
     |nil=>exact q a b c d
     |cons _ _=>cases h
theorem _root_._L.aK.b4{K:Ω}{st:ey}{p:List π}(F:aK K x q st f j)(h:∀(kV D g:η) (A:Option ε) (C i a b c d:η),bindArgs (HU x q (bM st) (bf st) (ae st) .none kV D g A C i) #[[a,b,c,d],[]]=pure (p.zip [a,b,c,d]):=by intros;rfl)(e:p.length=4:=by rfl):ay K j p []:=F.binds λkV D g A C i u H=>Ht u (H.trans e) λa b c d=>h kV D g A C i a b c d
@[elab_as_elim] theorem Hu{P:List η->Prop}(u:List η)(h:u.length=5)(q:∀a b c d e,P [a,b,c,d,e]):P u:=by
 cases u with
 |nil=>cases h
 |cons a r=>
  cases r with
  |nil=>cases h
  |cons b R=>
   cases R with
   |nil=>cases h
   |cons c f=>
    cases f with
    |nil=>cases h
    |cons d g=>
     cases g with
     |nil=>cases h
     |cons e i=>
      cases i with
      |nil=>exact q a b c d e
      |cons _ _=>cases h
theorem _root_._L.aK.b5{K:Ω}{st:ey}{p:List π}(F:aK K x q st f j)(h:∀(kV D g:η) (A:Option ε) (C i a b c d e:η),bindArgs (HU x q (bM st) (bf st) (ae st) .none kV D g A C i) #[[a,b,c,d,e],[]]=pure (p.zip [a,b,c,d,e]):=by intros;rfl)(e:p.length=5:=by rfl):ay K j p []:=F.binds λkV D g A C i u H=>Hu u (H.trans e) λa b c d e=>h kV D g A C i a b c d e
def eO(K:Ω)(p q:π)(st:ey)(f:ε):Prop:=∃(o:η) (O:Option ε) (kV d a:η) (A:Option ε) (c C:η) (s:Array (Option η)),K.lookup f=δ #[o,O,.func$ HU p q (bM st) (bf st) (ae st) .none kV d a A c C,s]/\codeIn K c q=μ/\rs K (.ref f)=μ
def cq(K:Ω)(p:π)(st:ey)(f:ε):Prop:=nsIn K Ψ p=δ (δ$ .ref f)/\eO K p p st f
section
variable {K:Ω}{py q:π}{st:ey}{f:ε}{oc:η}{od:Option ε}{kV dc pm:η}{an:Option ε}{cd ct:η}{sl:Array (Option η)}
theorem GK(l:K.lookup f=δ #[oc,od,.func$ HU py q (bM st) (bf st) (ae st) .none kV dc pm an cd ct,sl])(c:codeIn K cd q=μ)(k:rs K (.ref f)=μ):eO K py q st f:=#[_,_,_,_,_,_,_,_,_,l,c,k]
theorem Gn(a:nsIn K Ψ py=δ (δ$ .ref f))(l:K.lookup f=δ #[oc,od,.func$ HU py py (bM st) (bf st) (ae st) .none kV dc pm an cd ct,sl])(c:codeIn K cd py=μ)(k:rs K (.ref f)=μ):cq K py st f:=#[a,GK l c k]
theorem eO.go(h:eO K py q st f):∃F,aK K py q st f F/\rs K (.ref f)=μ:=by obtain⟨oc,od,kV,dc,pm,an,cd,ct,sl,l,c,k⟩:=h;exact#[_,p8 l c k,k]
theorem cq.go{mg:π->Option η}(t:cq K py st f)(X:K.In h)(G:h.Ns Ψ mg):∃a,aK K py py st f a/\rs K (.ref f)=μ/\mg py=δ (.ref f):=by obtain⟨a,F,k⟩:=t.2.go;exact#[a,F,k,OQ X G t.1]
end
theorem Ai{l:HL}{w:dg}{K:Ω}{mg:π->Option η}(X:K.In h)(G:h.Ns Ψ mg)(i3:mg "law"=δ (.ref fa))
             
  (t2:cq K "names_in" eh f0)
  (t3:cq K "own_terms" BU i4)
  (t4:cq K "used_behind_terms" tw fUb)
  (t5:cq K "used_ahead_of" xg f1)
  (t7:cq K "used_ahead" xf fUa)
  (t8:cq K "bodies_in" BQ j0)
  (t':cq K "many_cuts" sT j1)
  (j2:cq K "deed_of" sQ l0)
  (l1:cq K "place_of_give" lu f2)
  (l2:cq K "place_of_set" sV l3)
  (l4:cq K "part_made" sU l5)
  (l6:cq K "made" nY l7)
  (l8:cq K "_law_box" BR l')
  (uu:cq K "_law_take" tj n1)
  (n2:cq K "_law_number" i' n3)
  (n4:cq K "_law_names" ie n5)
  (n6:cq K "_law_term" n9 n7)
  (n':cq K "_law_spot" sW o1)
  (o2:cq K "_law_statement" sX fSt)
  (o3:cq K "_law_body" nW o4)
  (o5:cq K "_law_any" BP o6)
  (dQ:cq K "_law_op" F' o7)
  (o8:cq K "_law_inner" mZ o9)
  (o':cq K "_law_looped" gV p0)
  (p1:cq K "_law_ticking" fh p2)
  (p3:cq K "_law_busy" sN p4)
  (p6:cq K "_law_case" nX p9)
  (p':cq K "joined" i8 q0)
  (q1:cq K "worth" lv q2)
  (q3:cq K "named" i9 q4)
  (q5:cq K "begun" mW q6)
  (q7:cq K "deeper" i5 q')
  (r0:cq K "part_of" lr r1)
  (r2:cq K "cut_at" mY r3)
  (r4:cq K "held_at" i7 r5)
  (r6:cq K "worths" gW r7)
  (r8:cq K "deed_at" iZ r')
  (s0:cq K "found_in" h9 s1)
  (s2:cq K "end_of" i6 s3)
  (s4:cq K "first_of" hZ s5)
  (s6:cq K "onward" j' s7)
  (s8:cq K "run" BW s9)
  (s':cq K "_law_cells" mX u0)
  (u1:cq K "_law_worth" Fc u2)
  (u3:cq K "_law_turn" nk u4)
  (u8:cq K "_law_looped_run" Ed fWl)
  (u9:cq K "_law_deed_run" Eb fWd)
  (u':cq K "_law_body_run" Ea fWb)
  (v2:cq K "_law_def_run" Ec v3)
  (v4:cq K "_law_plain" F8 v5)
  (v6:cq K "_law_told" tq v7)
  (v8:cq K "_law_log" wY v9)
  (v':cq K "_law_long" sS w0)
  (tZ:cq K "law" ni fZ)
  (w1:nsIn K Ψ "NOUGHT"=δ (δ$ .ref q)) (w2:K.lookup q=δ #[.type "tuple",odN,.seq (ι [.str "num" rN0,.int 0 rN1]) nN,slN]) (w3:nsIn K Ψ "Cutting"=δ (δ$ .ref C)) (v1:nsIn K Ψ "TOP"=δ (δ$ .int 1000000000000000000 W6)) (vD:nsIn K Ψ "DEEPEST"=δ (δ$ .int 15 tD)) (vR:nsIn K Ψ "BookRun"=δ (δ$ .ref c)) (vT:nsIn K Ψ "Turns"=δ (δ$ .ref c0))
  (w4:nsIn K Ψ "TooLong"=δ (δ$ .ref x))
  (w5:nsIn K Ψ "TooDeep"=δ (δ$ .ref p))
  (w6:K.lookup x=δ #[W7,W8,.cls W9,W']) (t0:typeIn K (.ref x)=δ (.type "type")) (m6:mroIn K x (.type "BaseException")=δ μ) (k3:rs K (.ref x)=μ)
  (w7:K.lookup p=δ #[Y',Z',.cls cdxD,slxD]) (t1:typeIn K (.ref p)=δ (.type "type")) (m7:mroIn K p (.type "BaseException")=δ μ) (k4:rs K (.ref p)=μ)
  (w8:mroIn K x (.ref x)=δ μ) (w9:mroIn K p (.ref x)=δ ν) (w':mroIn K p (.ref p)=δ μ)
  (e0:excIn K x oI "ValueError.__new__"=μ) (e1:excIn K p oI "ValueError.__new__"=μ)
  (X':pG K x) (a1:pG K p)
  (rk:RK K c) (x0:Mk K c f3) (tm:y9 K c0 "__init__" f4) (m8:cj K c "take_turn" f5) (m9:cj K c "number_in" f6) (m2:cj K c "chain_of" x1) (m':cj K c "what_of" x2)
  (ck:CK K C) (mk:Mk K C f7) (a2:cj K C "place_of_body" f8) (x3:cj K C "place_of" x4) (x5:cj K C "place_of_cut" x6) (x7:cj K C "ways_of" x8)
  (x9:eO K "__init__" "Cutting.__init__" sR f7)
  (x':eO K "place_of_body" "Cutting.place_of_body" wV f8)
  (y0:eO K "place_of" "Cutting.place_of" wZ x4)
  (y1:eO K "place_of_cut" "Cutting.place_of_cut" wW x6)
  (y2:eO K "ways_of" "Cutting.ways_of" xh x8)
  (y3:eO K "__init__" "Turns.__init__" sY f4)
  (y5:eO K "take_turn" "Turns.take_turn" nj f5)
  (y':eO K "number_in" "Turns.number_in" sZ f6)
  (z7:eO K "__init__" "BookRun.__init__" sM f3)
  (z8:eO K "chain_of" "BookRun.chain_of" wT x1)
  (z':eO K "what_of" "BookRun.what_of" wU x2)
  (z2:nsIn K Ψ "len"=δ ζ)
  (z3:nsIn K Ψ "int"=δ ζ)
  (I:nsIn K Ψ "range"=δ ζ)
  (z0:nsIn K Ψ "list"=δ ζ)
  (j:nsIn K Ψ "reversed"=δ ζ)
  (J:nsIn K Ψ "tuple"=δ ζ)
  (r:nsIn K Ψ "sorted"=δ ζ)
  (z4:nsIn K Ψ "set"=δ ζ)
  (z5:nsIn K Ψ "zip"=δ ζ)
  (z1:nsIn K Ψ "dict"=δ ζ)
  (z6:nsIn K Ψ "max"=δ ζ)
  :∃fd:bm,(∀(s:θ) (v:η),BindsTo s fd #[[v],[]] [("_law_script",v)])/\∀base:fv,K.In base->base.Ns Ψ mg->ak l.prog w K mg base aD 219 fa fd ["_law_script"] (mj K):=by
 let e:=i3.symm.trans (OQ X G tZ.1);cases e;obtain⟨A',o,L,M⟩:=t2.go X G;obtain⟨dOw,a3,B1,B2⟩:=t3.go X G;obtain⟨dUb,a4,kUb,B3⟩:=t4.go X G;obtain⟨dUo,O,k5,m3⟩:=t5.go X G;obtain⟨dUa,a',kUa,B4⟩:=t7.go X G;obtain⟨dBi,b0,B5,B6⟩:=t8.go X G;obtain⟨dMc,F0,k6,b7⟩:=t'.go X G;obtain⟨dDe,b9,B7,B8⟩:=j2.go X G;obtain⟨dPg,Q,k7,b'⟩:=l1.go X G;obtain⟨dPs,c1,B9,B'⟩:=l2.go X G;obtain⟨dPm,c2,C',D'⟩:=l4.go X G;obtain⟨dMa,c3,E1,E2⟩:=l6.go X G;obtain⟨dBx,c4,E3,E4⟩:=l8.go X G;obtain⟨dTk,F,k,m⟩:=uu.go X G;obtain⟨dNu,t,R,S⟩:=n2.go X G;obtain⟨dNm,T,k1,m4⟩:=n4.go X G;obtain⟨dTm,U,k8,m5⟩:=n6.go X G;obtain⟨dPo,c5,E5,E6⟩:=n'.go X G;obtain⟨dSt,c6,kSt,E7⟩:=o2.go X G;obtain⟨dBo,F1,E8,c9⟩:=o3.go X G;obtain⟨dAn,c',E9,E'⟩:=o5.go X G;obtain⟨dOp,u,V,Y⟩:=dQ.go X G;obtain⟨dIn,d0,H0,H1⟩:=o8.go X G;obtain⟨dLo,d1,H2,H3⟩:=o'.go X G;obtain⟨dTi,d2,H4,H5⟩:=p1.go X G;obtain⟨dBu,d3,H6,H7⟩:=p3.go X G;obtain⟨dCa,d4,H8,H9⟩:=p6.go X G;obtain⟨dJo,d5,H',I1⟩:=p'.go X G;obtain⟨dWo,y,k2,m0⟩:=q1.go X G;obtain⟨dNd,F2,k9,d6⟩:=q3.go X G;obtain⟨dBe,d7,I2,I3⟩:=q5.go X G;obtain⟨dDp,d8,I4,I5⟩:=q7.go X G;obtain⟨dPf,d9,I6,I7⟩:=r0.go X G;obtain⟨dCu,A,k0,m1⟩:=r2.go X G;obtain⟨dHe,F3,k',d'⟩:=r4.go X G;obtain⟨dWs,e2,I',J0⟩:=r6.go X G;obtain⟨dDa,e3,K1,K3⟩:=r8.go X G;obtain⟨dFo,e4,K4,K5⟩:=s0.go X G;obtain⟨dEn,F4,e5,e6⟩:=s2.go X G;obtain⟨dFi,e7,L0,L1⟩:=s4.go X G;obtain⟨dOn,e8,L3,L4⟩:=s6.go X G;obtain⟨dRu,e9,L5,L6⟩:=s8.go X G;obtain⟨dCe,e',L7,L8⟩:=s'.go X G;obtain⟨dLw,F5,L',f9⟩:=u1.go X G;obtain⟨dTu,f',N1,N2⟩:=u3.go X G;obtain⟨dWl,g0,kWl,N3⟩:=u8.go X G;obtain⟨dWd,g1,kWd,N'⟩:=u9.go X G;obtain⟨dWb,g2,kWb,O'⟩:=u'.go X G;obtain⟨dWf,F6,P0,g4⟩:=v2.go X G;obtain⟨dLp,g5,P1,P4⟩:=v4.go X G;obtain⟨dTo,g6,P7,Q'⟩:=v6.go X G;obtain⟨dLg,F7,R1,g7⟩:=v8.go X G;obtain⟨dLn,g8,R3,R4⟩:=v'.go X G;obtain⟨dmI,g',kmI⟩:=x9.go;obtain⟨dmB,F9,kmB⟩:=x'.go;obtain⟨dmO,h0,kmO⟩:=y0.go;obtain⟨dmC,h1,kmC⟩:=y1.go;obtain⟨dmW,h2,kmW⟩:=y2.go;obtain⟨dTI,h3,kTI⟩:=y3.go;obtain⟨dTT,h4,kTT⟩:=y5.go;obtain⟨dTN,h5,kTN⟩:=y'.go;obtain⟨dRI,h6,kRI⟩:=z7.go;obtain⟨dRC,a0,kRC⟩:=z8.go;obtain⟨dRW,h7,kRW⟩:=z'.go;obtain⟨ocZ,odZ,R5,R6,R7,R8,R',S0,slZ,lZ,cZ,kZ⟩:=tZ.2;let FZ:=p8 (st:=ni) lZ cZ kZ;let a:=Mw X G z2;let f:=Mw X G z3;let b:=Mw X G I;let B:=Mw X G z0;let N:=Mw X G j;let n:=Mw X G J;let d:=Mw X G r;let D:=Mw X G z4;let E:=Mw X G z5;let i:=Mw X G z1;let n0:=Mw X G z6;let h8:mK K q:=λH=>.inr #[_,_,_,w2,Z,Z,bK,(.cons #[_,Z] (.cons #[_,Z] .nil))];refine#[HU "law" "law" (bM ni) (bf ni) (ae ni) .none R5 R6 R7 R8 R' S0,λs v=>.of_eq Z,λbase _ _=>?_];let g:ak l.prog w K mg base aD 1 n1 _ _ aW:=wn F;let S1:ak l.prog w K mg base aD 1 l' _ _ (oj K):=Bk c4 a f;let G0:ak l.prog w K mg base aD 2 n3 _ _ gK:=ZZ t #[g,F.b2,k,m];let G3:ak l.prog w K mg base aD 2 n5 _ _ eG:=sd T g F.b2 k m b;let G5:ak l.prog w K mg base aD 6 n7 _ _ (cV 4):=y4 (P:=l.prog) (w:=w) (base:=base) U U.b3 m5 #[g,F.b2,k,m] #[G0,t.b1,R,S] a 4;let S2:ak l.prog w K mg base aD 7 o1 _ _ ip:=wm c5 #[g,F.b2,k,m] #[G5,U.b3,k8,m5];let SS:=Eo (P:=l.prog) (w:=w) (base:=base) c6 F1 #[g,F.b2,k,m] #[G5,U.b3,k8,m5] #[S2,c5.b2,E5,E6] c6.b5 E7 F1.b5 c9 a n b;let S3:ak l.prog w K mg base aD 21 o4 _ _ (gB 6):=(SS 6).2;let S4:ak l.prog w K mg base aD 22 o6 _ _ oi:=Bh c' #[g,F.b2,k,m] #[G3,T.b2,k1,m4] #[S3,F1.b5,E8,c9] a b n f;let G1:ak l.prog w K mg base aD 2 o7 _ _ mn:=DT u #[g,F.b2,k,m];let S5:ak l.prog w K mg base aD 3 o9 _ _ (dj 2):=r9 d0 #[g,F.b2,k,m] #[G1,u.b3,V,Y];let S6:ak l.prog w K mg base aD 3 p0 _ _ (dj 1):=Z2 d1 #[g,F.b2,k,m] #[G1,u.b3,V,Y] f n;let S7:ak l.prog w K mg base aD 3 p2 _ _ (dj 1):=YL d2 #[g,F.b2,k,m] #[G1,u.b3,V,Y] f n;let S8:ak l.prog w K mg base aD 4 p4 _ _ lE:=vV d3 #[g,F.b2,k,m] #[G1,u.b3,V,Y] #[G3,T.b2,k1,m4] #[S6,d1.b4,H2,H3] #[S7,d2.b4,H4,H5] #[S5,d0.b4,H0,H1];let S9:ak l.prog w K mg base aD 23 p9 _ _ lF:=vW d4 #[g,F.b2,k,m] #[G0,t.b1,R,S] #[S8,d3.b1,H6,H7] #[S4,c'.b3,E9,E'] a n;let NS:=yD (P:=l.prog) (w:=w) (base:=base) o o.b1 M D d;let G6:ak l.prog w K mg base aD 7 f0 _ _ (dm 6):=NS 6;let S':ak l.prog w K mg base aD 7 f0 _ _ (on K):=Bp (fN:=f0) (fdN:=A') o #[NS 5,o.b1,L,M] D d;let T0:ak l.prog w K mg base aD 1 i4 _ _ mq:=Bq a3;let US:=EF (P:=l.prog) (w:=w) (base:=base) a' a4 O a'.b2 B4 a4.b2 B3 O.b2 m3 #[T0,a3.b1,B1,B2] #[G6,o.b1,L,M] B D d N;let T1:ak l.prog w K mg base aD 31 f1 _ _ (gi 7):=(US 7).2;let T2:ak l.prog w K mg base aD 10 f1 _ _ (gi 0):=(US 0).2;let T3:ak l.prog w K mg base aD 1 j0 _ _ mf:=Bj b0;let G9:ak l.prog w K mg base aD 2 j1 _ _ gE:=v0 F0 #[T3,b0.b1,B5,B6] B;let T4:ak l.prog w K mg base aD 1 l0 _ _ ik:=vX b9;let T5:ak l.prog w K mg base aD 8 f2 _ _ gg:=se Q #[G6,o.b1,L,M];let T6:ak l.prog w K mg base aD 8 f2 _ _ (oq K):=Br Q #[S',o.b1,L,M];let T7:ak l.prog w K mg base aD 11 l3 _ _ io:=wj c1 #[T2,O.b2,k5,m3];let T8:ak l.prog w K mg base aD 63 f8 _ _ (ms C 8):=GP (P:=l.prog) (w:=w) (base:=base) ck F9 h0 h1 h2 F9.b3 a2 h0.b3 x3 h1.b3 x5 h2.b4 x7 #[G9,F0.b1,k6,b7] #[T1,O.b2,k5,m3] #[T4,b9.b1,B7,B8] #[T5,Q.b1,k7,b'] #[T7,c1.b2,B9,B'] a n N 8 (Im _);let T9:ak l.prog w K mg base aD 3 f7 _ _ (om C):=Bm g' ck #[G9,F0.b1,k6,b7];let T':ak l.prog w K mg base aD 64 l5 _ _ (lM K q):=wf c2 ck mk T9 g'.b2 (OQ X G w3) (OQ X G w1) h8 T8 F9.b3 a2 #[T6,Q.b1,k7,b'] n N;let U0:ak l.prog w K mg base aD 65 l7 _ _ (lI K q):=vZ c3 #[T',c2.b3,C',D'] n;let U1:ak l.prog w K mg base aD 1 q0 _ _ im:=Z5 d5 (OQ X G v1);let G4:ak l.prog w K mg base aD 7 q2 _ _ (cy K 6):=uK (P:=l.prog) (w:=w) (base:=base) y y.b2 m0 #[U1,d5.b3,H',I1] 6;let G2:ak l.prog w K mg base aD 1 r3 _ _ (ij q):=rX A;let G':ak l.prog w K mg base aD 2 r5 _ _ (il q):=Z7 F3 #[G2,A.b2,k0,m1] i E;let U2:ak l.prog w K mg base aD 8 r7 _ _ gj:=Z9 e2 #[G4,y.b2,k2,m0] n;let U3:ak l.prog w K mg base aD 9 r' _ _ (fX q):=oN e3 #[G',F3.b3,k',d'] #[G2,A.b2,k0,m1] #[G4,y.b2,k2,m0] #[U2,e2.b2,I',J0];let U4:ak l.prog w K mg base aD 1 s1 _ _ eE:=rZ e4;let h':ak l.prog w K mg base aD 8 s3 _ _ (mh q):=rY F4 #[G2,A.b2,k0,m1] #[G4,y.b2,k2,m0] n h8;let U5:ak l.prog w K mg base aD 9 s5 _ _ (gc q):=YN e7 #[h',F4.b3,e5,e6] i E;let U6:ak l.prog w K mg base aD 9 s7 _ _ (tX q):=Z8 e8 #[G2,A.b2,k0,m1] #[G',F3.b3,k',d'] #[U4,e4.b1,K4,K5] #[h',F4.b3,e5,e6];let U7:clsIn K x≠ζ:=by
  unfold clsIn;rw[w6];intro z;cases z
 let U8:clsIn K p≠ζ:=by unfold clsIn;rw[w7];intro z;cases z
 let i0:=OQ X G w4;let i1:=OQ X G w5;let U9:XM K mg "TooLong" x:=#[e0,k3,X',t0,i0];let U':XM K mg "TooDeep" p:=#[e1,k4,a1,t1,i1];let i2:ak l.prog w K mg base aD 1 q4 _ _ lJ:=oQ F2;let V0:ak l.prog w K mg base aD 2 r1 _ _ lJ:=oR d9 #[i2,F2.b2,k9,d6];let V1:ak l.prog w K mg base aD 2 q6 _ _ gX:=rV d7 #[i2,F2.b2,k9,d6] a;let V2:ak l.prog w K mg base (eZ l.prog w) 1 q' _ _ (em p):=oO d8 (OQ X G vD) U';let V3:ak l.prog w K mg base aD 1 f4 _ _ (lN c):=wq h3 rk;let V4:ak l.prog w K mg base (eZ l.prog w) 1 f5 _ _ (iq c x):=sf h4 rk U9;let V5:ak l.prog w K mg base aD 1 f6 _ _ (gf c):=wt h5 rk;let V6:ak l.prog w K mg base aD 2 f3 _ _ (lK c):=wg h6 rk V3 h3.b3 (OQ X G vT) tm;let V7:=C7 (P:=l.prog) (w:=w) (base:=base) rk a0 a0.b4 m2 h7 h7.b3 m' #[U5,e7.b2,L0,L1] #[U3,e3.b3,K1,K3] #[U6,e8.b2,L3,L4] V4 h4.b1 m8 V5 h5.b2 m9 (V2) d8.b1 I4 I5 #[V0,d9.b2,I6,I7] n 16;let V8:ak l.prog w K mg base (eZ l.prog w) 45 s9 _ _ (ot x p q):=Bs e9 rk x0 V6 h6.b4 (OQ X G vR) #[V1,d7.b3,I2,I3] V7 a0.b4 m2;let V9:ak l.prog w K mg base aD 3 u0 _ _ gY:=rW e' #[g,F.b2,k,m] #[G0,t.b1,R,S] b;let V':ak l.prog w K mg base aD 9 u2 _ _ (gQ 8):=EZ (P:=l.prog) (w:=w) (base:=base) F5 F5.b2 f9 f n0 8;let W0:ak l.prog w K mg base aD 1 u4 _ _ dw:=sg f';let W1:ak l.prog w K mg base aD 217 v3 _ _ (nF 15):=hV (P:=l.prog) (w:=w) (base:=base) #[V',F5.b2,L',f9] #[W0,f'.b2,N1,N2] g2 g2.b5 O' g0 g0.b5 N3 g1 g1.b5 N' F6 F6.b5 g4 f n i E 15;let W2:ak l.prog w K mg base aD 218 v5 _ _ xG:=DQ g5 #[W1,F6.b5,P0,g4] i;let W3:ak l.prog w K mg base aD 46 v7 _ _ (lO x p q):=wu g6 (V8) e9.b5 L5 L6 #[i0,U7,t0,m6,i1,U8,t1,m7,w8,w9,w'];let W4:ak l.prog w K mg base aD 17 v9 _ _ (gJ 16):=DC (P:=l.prog) (w:=w) (base:=base) F7 F7.b1 g7 16;let W5:ak l.prog w K mg base aD 3 w0 _ _ lH:=vY g8 #[G3,T.b2,k1,m4] #[g,F.b2,k,m] #[G0,t.b1,R,S];exact Bn FZ #[S1,c4.b2,E3,E4] #[g,F.b2,k,m] #[S9,d4.b1,H8,H9] #[V9,e'.b1,L7,L8] #[W5,g8.b2,R3,R4] #[U0,c3.b1,E1,E2] #[W2,g5.b5,P1,P4] #[W3,g6.b5,P7,Q'] #[W4,F7.b1,R1,g7] a
theorem Gp{l:HL}{Y:dg->fv->Prop}{d:DefRec}{K:Params->Ω}(e:l.most=δ 63)(H:d.params.defaults=[])
  (g:∀(w:dg) (h:fv),Y w h->(K w.params).In h)
  (F:∀(w:dg) (mg:π->Option η) (b:ε) (h:fv),(K w.params).In h->h.Ns Ψ mg->mg d.name=δ (.ref b)->
   ∃c:bm,(∀(s:θ) (u:η),BindsTo s c #[[u],[]] [("_law_script",u)])/\∀base:fv,(K w.params).In base->base.Ns Ψ mg->ak l.prog w (K w.params) mg base aD 219 b c ["_law_script"] (mj$ K w.params)):
  PySem.W.WalkO q L m Y l.row.toRowW d [] (λf v=>PySem.call f v):=
 _L.xQ (n:=63) (k:=219) (x:="_law_script") (CX:=λ_=>aD) (sp:=λw=>mj (K w.params)) e HA H #[Z,HA,HA] g F (λ_ _ a N i _ j=>#[a,N,Z,j,i,λ_=>Z]) λ_ _ _ _ _ z=>z
end _K
structure PySem.W.Fast:Prop where(tw13537269809406504454 tw7333963871114763885 tw391303967633961633 tw12511442406554158044 tw16023888298427102137 tw13042810687167646012 tw2077484610534837256 tw16629858709015677754 tw14695886393939805317 tw4074131363083472962 tw10485710080188452844 tw12309441806385364723 tw326800913355109718 tw2248702918044981518 tw15695301031753861817 tw3552152978729529400 tw14004654625825320916 tw13507919176138871842 tw10829487679394988527 tw2251002374713914190 tw17835056365898767977 tw14688609157099072364 tw10536814496536306423 tw10159498424396006066 tw13995461813906993322 tw13445533508434502029 tw6194195358214976865 tw10794722508496625214 tw10123280387059368161 tw1611504533977793301 tw11040882053671207309 tw3374358027750272205 tw1371282958525250846 tw9743948900019008326 tw7700659863139197356 tw8176979878964554353 tw1122247726985686054 tw2262448496073428663 tw14878064521944734799 tw2784056248747620694 tw4178602363668437228 tw9820353496093317058 tw590480778370304277 tw13756861125650322278 tw6063168053694000572 tw15673162628921360464 tw11806614728879304475 tw12387859711074293249 tw16732247219438151066 tw5817233169558982482 tw17623127301153712306 tw9531743827613982837 tw17458147849844987885 tw4404173073804925388 tw9049414936449988446 tw7835700364372614817 tw10281573275366121984 tw11179001243213510814 tw1023705564079508249 tw194826393004281363 tw12364902281928480269 tw30339796456740345 tw13299857842513214042 tw12437758095269117422 tw3620755207232065614 tw8391859451577612561 tw14969290614129880277 tw16023085373197642888 tw13837936803816461309 tw2839608406986184479 tw16046907410424188216 tw12822654006921351156 tw6977626052060742596 tw13453371227593531966 tw257766570871987927 tw5988700564481535533 tw14956013970716682044 tw15939903509388781271 tw12595515416412331854 tw17213234299211534250 tw5893069108829353345 tw1603688863202809487 tw15212608011440638605 tw574311634732266626 tw11947800576625866373 tw6335004548219220734 tw3939102973455622065 tw5572502031815793576 tw4333236718232109030 tw468017311313124299 tw17114374948661523168 tw2587704913896828532 tw11326332327892782051 tw11827252161199926772 tw11887039665957640159 tw9951258955469768817 tw13038229108149873714 tw15162716654601190039 tw13554868913827289362 tw3323022248009940985 tw5464060365307659894 tw2986007202263303846 tw2387674035268593735 tw14015078421624019077 tw16167164870339668391 tw9562524460785707259 tw15360638143286337039 tw3192013300432163453 tw15248045111003135329 tw14402464213606297260 tw9568062825900649719 tw5030473027540207208 tw4701336110656347752 tw13961460204502052503 tw6120931060731177914 tw3438274264275852138 tw18309841025096268056 tw6022211469330002416 tw17373349741730614352 tw200697768057644927 tw11276947104019197754 tw2308572341215530702 tw9213272535765668766 tw759732902115002335 tw6643071809294880560 tw14745292262594214302 tw11893043356122284192 tw5996431662070734655 tw7511949962697249771 tw13118523668574244375 tw12511349214390939632 tw8548706697526116034 tw15770637756449773701 tw3307359278197448849 tw7175812851345241341 tw5533093235517140470 tw349122653512813381 tw9566251186378103275 tw16908531161833317143 tw1626203056050492804 tw9136785623396711365 tw17247461933956030189 tw8360939910831016402 tw16081981269770862915 tw10306436193224904946 tw9905886777142126850 tw14740035314695264828 tw13695587370893771785 tw14702839079688339993 tw3423764327949491591 tw14838211710245410277 tw13390918024066821397 tw11667736790717141448 tw12753179008466398330 tw1891051178833410276 tw4047897600481961045 tw8210087396651297348 tw9568758728572936937 tw4217044436677560595 tw12896529767317141971 tw16163748247056531572 tw16312204682580467661 tw327054358731750667 tw10057617689805545549 tw15103063922069252031 tw10019442610223199577 tw5645006888536362294 tw4169750016932768796 tw4371997318672416415 tw1783644738551321450 tw1663780171492842642 tw11769482744093045873 tw10445507741484521856 tw15350383624856217191 tw7979817926417951160 tw6005782221082680061 tw4036650341386900960 tw13236601282655560009 tw5637451033171818902 tw9085036337444328174 tw4802870994960095281 tw9707841468214621763 tw5569249250018674784 tw6317254976631815676 tw2794685847174123647 tw17831261851893843162 tw9293891809212112174 tw16798972270727219451 tw7295162847538601012 tw8420789456473446370 tw10370182409290751134 tw3416679779901916358 tw14291897465118538252 tw13233675288068721491 tw3151863057605287945 tw9605234960692048570 tw17903882120571021750 tw5799141995376815682 tw17900775983270684048 tw10938597665868741035 tw6218150085279206093 tw4467670620485756748 tw18228254297502447091 tw7369819420165757680 tw16693950535090731556 tw4955129484709034742 tw5899679674935644312 tw3204505362198144598 tw16361374420986580877 tw6778039428506098751 tw7233709454401950454 tw6521864941186872298 tw5390394568086263178 tw11592125309961081954 tw929910491946293241 tw1878208678341926530 tw14451594772595073562 tw11837993505090167874 tw12986801756609286319 tw2092463037764894212 tw16885578361494685121 tw11302412859993208560 tw644926229461302053 tw16725825486439227712 tw14112484914850727335 tw6048088098642462724 tw844993172678537039 tw10041196744460988678 tw12469328523732195799 tw8044356678468781140 tw13259811498777116242 tw7068939385046465015 tw15924263585389656783 tw5532924040959574680 tw4903871827472841048 tw8304080982797968531 tw2692474498177597234 tw17312103981913112614 tw1262102640102887413 tw7334536252673477316 tw5106587882665798418 tw15462118315333382101 tw11492949157703667267 tw105951148207763881 tw7495643639671130751 tw7208560275162328574 tw4817424672783636378 tw16170675112800474878 tw16742690625590114802 tw12077461872127788015 tw13656462781240317460 tw8096618137314445306 tw7721326252745753272 tw17039336504638958180 tw9325742602943041287 tw8527247058874776509 tw7336646103181372370 tw16351537625638824887 tw16156987186416278449 tw14561428071694028746 tw10584624276522047288 tw10329153954097179075 tw5644493573448999716 tw8906969680067209519 tw10653685522578121294 tw17650365089149387620 tw18071157939820143581 tw17094184613371349554 tw10899376187189833714 tw6172106986789904885 tw5058247039390748462 tw302799506717024434 tw14415365204719236388 tw1377153183809346203 tw5649568139182718403 tw2792634424924993373 tw16515655522740147977 tw7149621755393406765 tw3733666187279491512 tw17372326265394307479 tw15646666486525251958 tw14828396974600942106 tw9053398770062205333 tw5308365072971474823 tw3491189141996738256 tw274688147846603293 tw2634598777095254617 tw2205503473613145915 tw18414378168733573552 tw17075532909489808689 tw1687710192884155875 tw15808058175366206764 tw14581944976965779307 tw14095219104963025020 tw13441827902799178720 tw12724093549821200685 tw10550560241947383258 tw12471290330041737688 tw9982120897432296866 tw9607291507240872449 tw9348220142951946796 tw9320848069424565436 tw931030008044020236 tw9033280225489690977 tw8789054998534909876 tw8357585314306124781 tw8050397028593732048 tw7965509674329259973 tw7337844281186759354 tw6499802939456105430 tw6437297665247962867 tw3530217817099731951 tw2978068152925414743 tw2735102935611310227 tw1887473652207315106 tw1833320414087375087 tw18095981897388356380 tw17503702225655809557 tw17281133332293177524 tw14817808534272045295 tw13957372756663493564 tw11833283687736764445 tw11782920994878026222 tw1164268368972457172 tw11293074358397056106 tw10008229334352632779 tw17998697418747739048 tw3771068168307470470 tw6917933738582284897 tw8679501595255047213 tw3441119214363607156 tw17317138011026741449:True)
open PySem PySem.W PyProof.Rows PySem.W.X
theorem _K.EH {q : ψ} {loose : List PySem.Str} {XP : (PySem.Str → Option η) → fv → Prop} {K : Params → Ω} {as : List ε} {n t : Nat} {r : RowW} {d : DefRec} {kwd : List (PySem.Str × PySem.Expr)} {run : η → List η → Sem η}
    (e : ∀ P, as = (K P).map (·.1)) (h : WalkO q loose XP (InK K) r d kwd run) : WalkX q loose XP (obsZ as) (valZ K n t) r d kwd run :=
  fun w s₀ s₁ mg mb G Y a o pm cd doc dV kV h1 h2 h3 h4 h5 h6 args vals as' L => h w s₀ s₁ mg mb G (InK.keeps w _ _ (z_facts e Y).2.1 L.keeps) a o pm cd doc dV kV h1 h2 h3 h4 h5 h6 args vals as'
set_option maxRecDepth 100000 in
set_option maxHeartbeats 0 in
theorem PySem.Challenge.cw_againbook_k23_whole_run_is_plain_holds : PySem.Challenge.rw_againbook_k23_whole_run_is_plain.Holds := by
  w_on; o_law; z_head; (case hw => w_witness2)
  refine _K.EH (fun _ => by rfl)$ _K.Gp (l := PySem.Challenge.rw_againbook_k23_whole_run_is_plain) rfl rfl (fun w h Y => Y) ?F
  case F =>
    intro w mg fa h KX G hmg
    apply _K.Ai KX G hmg
    iterate 54 (apply _K.Gn;iterate 4 k_is)
    iterate 20 k_is
    iterate 2 k_exc
    iterate 2 (constructor<;>k_is)
    refine ⟨⟨?_,?_,?_,?_⟩,?_,?_,?_,?_,?_⟩;iterate 4 k_is
    iterate 5 (unfold _L.bP;k_is)
    iterate 2 (constructor;iterate 4 k_is)
    iterate 4 (constructor;iterate 3 k_is)
    refine ⟨⟨?_,?_,?_,?_⟩,?_,?_⟩;iterate 4 k_is
    iterate 2 (unfold _L.bP;k_is)
    constructor;iterate 4 k_is
    iterate 4 (constructor;iterate 3 k_is)
    iterate 11 (apply _K.GK;iterate 3 k_is)
    iterate 11 k_is
