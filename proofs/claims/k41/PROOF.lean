import PyProof.Rows.All
import Wide.All
import OpenK.AllK
import Wide.FinOn
import Lean
import PyProof.EqAt
import PyProof.EqKinds
import PyProof.TupleCall
import PySem.Challenge.RW_againbook_k41_from_a_book_of_no_cells
set_option Elab.async false
set_option linter.all false
set_option maxRecDepth 100000
set_option genSizeOf false
set_option compiler.extract_closed false
set_option bootstrap.genMatcherCode false
open Option renaming some->δ,none->θ,map_eq_some_iff->cv,isSome_iff_exists->ti
open List renaming length->ο,toArray->ε,getElem?_eq_some_iff->ξ,mem_singleton->χ,mem_cons->Ξ,mem_append->bm,mem_map->dg,range->dw,lookup->hJ,mem_append_right->ir,mem_iff_getElem->iu,getElem?_eq_getElem->ks,replicate->lq,mem_append_left->mu,nodup_cons->nk,pairwise_cons->rc,cons->ry,length->rz,mem_range->tf
open PySem renaming Addr->ζ,Value->η,Shared->ι,wpAny->π,Str->ρ,sizeLine->τ,model->υ,Program->ψ,starEach->Δ,mainGlobals->Ψ,World->bF,Around->bS,Stmt->bU,FuncData->cc,strKind->cJ,Heap->de,Expr->dr,Builtin->dO,backTo->fy,Obj->hG,Scope->ic,codeAny->kz,holding->mB,sizeLine->mF
open Bool renaming true->μ,false->ν,eq_false_iff->mS
open Or renaming inl->ω,inr->fJ
open PySem.Value renaming ref->Θ,none->Ω,type->fr,int->kw,str->mT,bool->sn
open PySem.Builtin.SmallTypes renaming nextOf->Φ,ownedTupleIsFree->bx,ownedTupleHandOut->mI
open PySem.W renaming Frag->β,keepIn->gb,methodObj->oS,takerIn->rm,OpenLaw->ro,fnOf->tz
open PySem.Obj renaming mapSeq->γ,mapFields->ge,putSet->mL
open Array renaming getElem?_eq_some_iff->ab,toList->mU
open PySem.Builtin.Tuple renaming tupleExact->ef,tupleItemsOf->pz
open PySem.Builtin.List renaming listSameRef->eT,listTooLong->fz,listExtendWith->gs,listLengthHint->ls,listSubscript?->rb,listAllItems->ri
open PySem.Heap renaming SameBut->fx,ExtBut->nI
open PySem.Builtin.Slice renaming slicePlaces->im,sliceAdjust->ly,sliceApplied->pq
open List.Pairwise renaming nil->iv
open PySem.F renaming slot_zip_getattribute->lu,called_tuple->nz
local macro_rules|`(tactic|erw[$t:term])=>if t.raw[0].getId.getPrefix== `F then `(tactic|(refine $t;intro)) else `(tactic|refine $t)
local macro_rules|`(tactic|rwa[$t:term])=>`(tactic|exact $t)
local macro_rules|`(tactic|let $d:letDecl)=>`(tactic|have $d:letDecl)
local macro_rules|`(↑$a)=>`(some (.ref $a))
local macro_rules|`(tactic|let ⟨$x,*⟩:=$t)=>do{let y←x.getElems.mapM fun|`($i:ident)=>`(Lean.Parser.Tactic.rcasesPatLo|$i:ident)|_=>`(Lean.Parser.Tactic.rcasesPatLo|_);`(tactic|obtain ⟨$y,*⟩:=$t)}
local macro_rules|`(-$n:ident)=>`(($n).heap.objs.size)
local macro_rules|`(∅)=>`(λ_ _=>rfl)
local macro_rules|`(($t:term :))=>`(by simpa using $t)
local macro_rules|`(‹$h›)=>`({$(Lean.mkIdent `s) with heap:=$h})
abbrev xL:=@List
abbrev ym:=@Option
def gR:0≤mF:=by decide
def iT:1≤mF:=by decide
def ci:2≤mF:=by decide
def gU:3≤mF:=by decide
def oF:4≤mF:=by decide
set_option maxHeartbeats 4000000
open PySem.W (keepIn Frag nsIn kitOne fnOf mg_of codeIn findIn mroIn isFn mg_none_of kia_one typeIn emptyDict clsIn instObj hasDictIn kitAny specialIn callWith_K excIn lookIn plainGet notCls tailIn)
noncomputable section
def NP{p:Prop}(h:p:=by decide):p:=h
def NO{p:Prop}(h:p:=by omega):p:=h
def N09{p:Prop}(h:p:=by omega+splitDisjunctions):p:=h
def NN{p:Prop}(h:p:=by simp):p:=h
def NM{p:Prop}(h:p:=by decide +kernel):p:=h
def NK{p:Prop}(h:p:=by rfl):p:=h
def BT{p:Prop}(h:p:=by intro z;cases z):p:=h
def Ch{p:Prop}(h:p:=by first |exact .inl Z |exact .inr Z):p:=h
def Cv{p:Prop}(h:p:=by intro _;rfl):p:=h
def Z{α:Sort u}{a:α}:a=a:=rfl
def Wb{p:Prop}(h:p:=by first|decide|rfl):p:=h
def Wx{p:Prop}(h:p:=by first |exact .inl Z |exact .inr Z |assumption):p:=h
local macro_rules|`(↥$p)=>`(autoParam $p Wb._auto_1)
open PySem renaming wpAny_bind->Om,wpAny_pure->Op,wpAny_holding->OV,wpAny_field->O0,wpAny_call_entry->O7,wpAny_callSpecial?_slot->Pa,wpAny_newObj_type->Pd,builtinLookup_eq_fast->Pl,boot_len->Pm,wpAny_setField->Pp,wpAny_seqItems->Pu,wpAny_mono->Px,wpAny_Call_Name_kw->Py,typeLookup_type->P5,codeAny_builtin->P6,mem_of_lookup->P9,isSubtype_type->Rm,wpAny_setState_of->Ro,wpAny_specialOf->Rq,wpAny_typeOf->Rt,wpAny_rule->Ry,plainId_quiet->RG,wpAny_isInstance->RL,sizeLine_eq->RO,wpAny_setField_rec->RS,wpAny_passesOwn->RT,wpAny_standAt->RU,wpAny_askSetting->Sa,codeAny_mono->Sb,wpAny_setEntries_of->Sf,wpAny_newList->Sj,wpAny_attempt->Sl,wpAny_execs_nil->Sm,wpAny_pyIter_tuple->Sq,wpAny_newTuple->Sw,tupleKind_room_in1->Tb,wpAny_truthy_bool->Tp,wpAny_pyIter_list->Tq,wpAny_of_eq->Ts,fits_of_scanBound->Tu,entryFor_of_tree->TR,wpAny_updateSeq->TY,wpAny_fieldsOf->Ua,isSubtype_stop->Uc,entryFor_alias->Ud,call_meets->Um,wpAny_sequenceKey->Uu,wpAny_pyIter_slot->Uv,wpAny_execs_cons->UG,noFill_tuple_add->UH,codeAny_of_tree->UZ,wpAny_runValue->U9,wpAny_loadPart->U',wpAny_listPart->Va,wpAny_call->Vb,wpAny_bindName->Vc,wpAny_onRaise->Vk,wpAny_comprehension_free->Vl,seq_tuple_add->Vm,wpAny_pyNext_list_item->Vw,seqIndex_neg->Vy,concat_meets->VA,callType_new->VC,wpAny_pyNext_list_end->VL,wpAny_isTrue_Compare1->VM,wpAny_updateSeq_pair->VR,wpAny_loadName_local->VS,wpAny_letGo->VT,seqIndex_of->VU,codeAny_extend_loopS->VW,wpAny_loadName_cell->V3,wpAny_load->Wf,wpAny_Name->Wg,wpAny_storeSet_of->Wk,wpAny_pyIter_enum->Wl,wpAny_assign_Name->Wm,wpAny_Assign_Name->Wn,slot_list_setitem->Wo,merged_length_le->Wz
open List renaming getElem?_eq_getElem->On,length_map->Oq,length_append->Ot,size_toArray->Ov,getElem?_map->OL,mem_cons_self->ON,mem_append_right->OS,map_append->OU,mem_of_getElem?->OX,mem_cons_of_mem->OY,length_take->OZ,length_cons->O1,append_nil->O2,getD_eq_getElem?_getD->O4,not_mem_nil->O5,append_assoc->Pb,take_length->Pg,getElem?_eq_none->Pk,mem_of_mem_take->Pw,lookup_cons->PH,take_add_one->PQ,map_cons->PZ,mem_append_left->P0,length_drop->Ri,map_map->Rk,take_of_length_le->Rp,getElem?_append_right->Rs,getElem?_append_left->Rx,take_sublist->RB,getElem?_set_ne->RC,mem_cons->RF,getElem_cons_drop->RJ,forIn_cons->RN,length_singleton->RP,take_succ->RV,getElem_mem->RW,mem_append->Sd,find?_cons->Se,length_range->Sn,getElem?_set_self->So,getElem?_reverse->Sv,map_take->Sz,any_cons->SA,forIn_nil->SR,filter_append->SU,reverse_cons->SX,getElem?_inj->SY,append_cancel_right->Ta,all_eq_true->Tf,of_mem_zip->TB,length_set->TC,take_append_drop->TK,perm_append_comm->TM,length_replicate->TN,length_filter_le->TQ,nodup_nil->TW,filterMap_cons->T4,mem_singleton->T6,map_inj_right->T7,getElem?_drop->T8,eraseIdx_eq_take_drop_succ->Uh,ext_getElem->Uk,nil_append->Uq,length_zip->Ur,length_nil->Us,length_eraseIdx_of_lt->UD,drop_zero->UE,pairwise_iff_getElem->UL,getElem?_zip_eq_some->UM,drop_eq_getElem_cons->UN,all_cons->UV,getElem?_replicate->U0,filter_cons_of_pos->U1,filter_cons_of_neg->U2,append_cancel_left->U3,drop_eq_nil_of_le->U6,mem_of_mem_drop->Vj,length_reverse->Vp,forIn_toArray->Vt,ext_getElem?->VE,any_eq_false->VF,zipIdx_cons->VN,append_inj'->VO,any_eq_true->VP,zipIdx_nil->VY,nodup_cons->VZ,mem_filter->V0,take_take->V8,map_drop->Wj,map_set->Wr,map_nil->Ws
open PySem.Heap renaming get?_push_of_some->Oo,lt_size->Ox,get?_push_size->Oy,get?_update_other->OP,get?_update_self->O9,size_push->Pn,size_update->Ul,get?_update_ne->Vq
open Nat renaming le_refl->Ou,zero_le->OA,ne_of_lt->OH,le_trans->OK,lt_of_lt_of_le->OM,ne_of_gt->Pq,lt_irrefl->Pr,lt_of_le_of_lt->PR,le_succ->PY,lt_succ_self->P8,succ_le_succ->Rj,min_eq_left->Rz,lt_succ_of_lt->RD,le_of_lt->RE,le_add_right->RY,zero_add->Ss,lt_of_succ_lt->Su,le_max_right->Sx,not_lt_zero->SJ,le_max_left->SK,sub_zero->SQ,le_of_not_lt->Tk,sub_self->Tw,lt_or_ge->Tx,le_of_eq->Tz,min_le_left->TJ,add_sub_cancel'->Vr,add_le_add_left->Vs,le_add_left->V6,max_assoc->Wp,add_zero->WL
open PySem.F renaming plainAttrs_list->OF,type_list_append->OQ,slot_list_append->OR,slot_tuple_iterator_next->PJ,slot_zip_next->PV,type_list_extend->Rc,slot_list_extend->Rg,args_tuple_iterator_next_1->R0,plain_list_iadd->R4,args_zip_next_1->R6,entry_tuple_iterator_next->Sc,entry_zip_next->Si,args_object_init_2->SI,args_tuple_add_2->SV,entry_tuple_add->SW,slot_tuple_add->Tc,plainAttrs_str->Td,type_str_join->Th,slot_str_join->Ti,slot_dict_get->Tj,plain_proto_collect->Ui,entry_proto_collect->Uj,plain_extend_loop->Up,plain_tuple_new->UA,entry_list_iadd->UB,args_dict_get_3->UC,entry_dict_get->UK,slot_set_iter->UT,plain_set_new->UU,args_list_extend_2->VH,entry_list_extend->VQ,slot_list_extend->V1
open Bool renaming false_ne_true->OG,false_eq_true->OJ,and_eq_true->PU,not_true->SE,eq_iff_iff->TF,and_false->TX,or_false->UW,not_eq_true'->VI,eq_false_iff->VJ,false_and->We,true_or->Ww
open Array renaming length_toList->OT,getElem?_toList->Ra,getElem?_eq_getElem->Rv,getElem?_eq_none->To,size_append->Uf,toList_push->Vv,size_map->V2
open PySem.Obj renaming data_mapFields->O6,isFreed_of_fields->PM,cls_mapFields->Sr
open PySem.PassesOwn renaming never->O8,leaving->U5
open PyProof.Rows renaming callWith_type1->Pf,boot_tuple->P',slot_tuple_getitem->Ru,listUpdate_at->SM,boot_sorted->SO,seqEpoch_at->Tt,entry_list_sort->T3,slot_list_sort->Ub,args_list_sort->Ue,plain_sorted->Uw,entry_sorted->Ux,args_sorted1->Uy,kind_sorted->UP,list_sort_plain->UX,get?_update_seq->UY,size_push'->Vd,boot_reversed->Vn,subscriptTail_builtinR->Vx,listItems_at->Vz,collect_list->VB,boot_int->VX,Subscript_->Wi,tupleItemsOf_->Y',iadd_int->Z'
open Int renaming toNat_natCast->Ph,emod_lt_of_pos->Pj,emod_nonneg->Pz,eq_ofNat_of_zero_le->U7,toNat_of_nonneg->Vu,ediv_nonneg->V'
open Option.some renaming inj->Po
open PySem.Around renaming under_plainId->Pt
open PySem.AutoSeq1 renaming wpAny_loadPart'->Rb
open List.Perm renaming refl->Rh,append_left->Te,append->Vf
open PySem.Heap.SameBut renaming update->Rl,refl->UO
open PySem.Calls renaming spliced_cons->Rr,spliced_nil->RQ,call_function_entry->RX,callWith_builtin->Tn,Name_function_global->Uz,evalArgs_plain->Vg
open PySem.W renaming mg_none_of->RI,methodCall_KW->Tg,plainGet_of->TU,mg_of->TZ,callWith_K->Uo,cellsFrom_some->UJ,callWith_K0->U4,looks_mroIn->VV
open PyProof.Rows.F renaming plain_set_update_loop->RM,entry_set_update_loop->S0
open List.Sublist renaming refl->RZ
open PySem.Value renaming isStrOf_shape->SH
open PySem.W.KFB renaming if_not->Tv
open Option renaming getD_none->Ug,isNone_some->Vh,isNone_none->Vi,isSome_map->Vo
open PySem.Heap.IsSliceOf renaming new->Ut
open PySem.SeqAt.EqAt renaming str_int->UQ,int_str->UR,tuple_int->Wc,str_str->Wt,of_refs->Wu,int_int->Wv
open PySem.Heap.DictOf renaming new->U8
open PySem.IsL renaming isList->Ve
open StateT renaming run_pure->VD
open PyProof.Rows.IsTup renaming new->VG
open PySem.SeqAt.RcAt renaming lists_lengths->V4,lists->V5,tuples->WA
open PySem.W.Looks renaming of_pure->V7,here->WB
open PySem.ItemsOf renaming nil->V9
open PySem.Meets renaming of_wp->Wq
open PySem.EqMixed renaming ne_str_int->WC,ne_str_bool->WE,ne_int_str->WF,ne_bool_str->WG,eq_str_int->WH,eq_str_bool->WI,eq_int_str->WJ,eq_bool_str->WK
open PySem.Within renaming cons->WM
open PySem.EqNone renaming ne_str_none->WN,ne_none_str->WO,ne_none_none->WP,ne_none_int->WQ,ne_none_bool->WR,ne_int_none->WS,ne_bool_none->WT,eq_str_none->WU,eq_none_str->WV,eq_none_none->WW,eq_none_int->WX,eq_none_bool->WY,eq_int_none->WZ,eq_bool_none->X'
def Oz:=@decide_eq_false
def OB:=@if_pos
def OD:=@if_neg
def OE:=@decide_eq_true
def O3:=@Ne.symm
def Pe:=@of_decide_eq_true
def PL:=@congrArg
def PX:=@if_false
def P7:=@bne_self_eq_false
def SG:=@of_decide_eq_false
def SN:=@if_true
def TH:=@or_false
def T5:=@beq_self_eq_true
def UF:=@Iff.rfl
def Wa:=@PySem.Heap.IsTupleIter.at
local macro_rules|`(#[$x,*])=>`(⟨$x,*⟩)
set_option hygiene false
local macro_rules|`(command|#print $_:ident)=>`(variable {prog:ψ}{w:bF}{A:bS}{E:η->ι->Prop}{s:ι})
set_option hygiene true
local macro_rules|`(#[])=>do{let i:=Lean.mkIdent;`($(i `_K.Ev) $(i `H0) $(i `p) $(i `wl) $(i `ys) $(i `Hb) $(i `σ))}
local macro_rules|`(tactic|omega)=>`(tactic|lia)
namespace _L
open PySem PySem.Spec PyProof.Rows
abbrev cf:=Sum Int ρ
def ma:cf->η->Bool
 | .inl k,v=>Value.isInt k v
 | .inr x,v=>Value.isStrOf x v
def Mu(w:bF):cf->Int
 | .inl k=>hashInt k
 | .inr x=>hashStr w x
def j8:∀{k:cf} {v:η},ma k v=μ->(∃i t,k=Sum.inl i/\v=kw i t)∨(∃x t,k=Sum.inr x/\v=mT x t)
 | .inl i,v,h=>by let⟨t,e⟩:=Value.isInt_shape (k:=i) (v:=v) h;rwa[.inl #[i,t,Z,e]]
 | .inr x,v,h=>by let⟨t,e⟩:=SH (x:=x) (v:=v) h;rwa[.inr #[x,t,Z,e]]
def tw(i:Int)(t:Tok):ma (.inl i) (.int i t)=μ:=by simp [ma,Value.isInt]
def tE(x:ρ)(t:Tok):ma (.inr x) (.str x t)=μ:=by simp [ma,Value.isStrOf]
def El(a b:Int):decide ((Sum.inl a:cf)=Sum.inl b)=(a==b):=by
 by_cases e:a=b
 .subst e;simp
 .let h:¬(Sum.inl a:cf)=Sum.inl b:=λq=>e (Sum.inl.inj q);rw[Oz h];exact(beq_eq_false_iff_ne.mpr e).symm
def Eo(a b:ρ):decide ((Sum.inr a:cf)=Sum.inr b)=decide (a=b):=by
 by_cases e:a=b
 .subst e;simp
 .let h:¬(Sum.inr a:cf)=Sum.inr b:=λq=>e (Sum.inr.inj q);rw[Oz h,Oz e]
def Em(a:Int)(b:ρ):decide ((Sum.inl a:cf)=Sum.inr b)=ν:=Oz (λq=>nomatch q)
def En(a:ρ)(b:Int):decide ((Sum.inr a:cf)=Sum.inl b)=ν:=Oz (λq=>nomatch q)
def bf(p:ψ)(w:bF):PySem.KeyKind p w cf where
 is:=ma
 hash:=Mu w
 inj:=λv a b d c=>by
  rcases j8 d with ⟨i,t,rfl,rfl⟩ | ⟨x,t,rfl,rfl⟩
  .rcases j8 c with ⟨j,u,rfl,e⟩ | ⟨y,u,rfl,e⟩
   .injection e with E _;rw[E]
   .rwa[nomatch e]
  .rcases j8 c with ⟨j,u,rfl,e⟩ | ⟨y,u,rfl,e⟩
   .rwa[nomatch e]
   .injection e with E _;rw[E]
 byValue:=λk v h=>by rcases j8 h with ⟨i,t,rfl,rfl⟩ | ⟨x,t,rfl,rfl⟩<;>rfl
 pyHash:=λH h=>by
  rcases j8 H with ⟨i,t,rfl,rfl⟩ | ⟨x,t,rfl,rfl⟩
  .rwa[wpAny_pyHash_int h]
  .rwa[wpAny_pyHash_str h]
 eqBool:=λf H h=>by
  rcases j8 f with ⟨i,t,rfl,rfl⟩ | ⟨x,t,rfl,rfl⟩
  .rcases j8 H with ⟨j,u,rfl,rfl⟩ | ⟨y,u,rfl,rfl⟩
   .rw[El]at h;rwa[wpAny_eqBool_int h]
   .rw[Em]at h;rwa[UR i t y u _ _ _ _ h]
  .rcases j8 H with ⟨j,u,rfl,rfl⟩ | ⟨y,u,rfl,rfl⟩
   .rw[En]at h;rwa[UQ x t j u _ _ _ _ h]
   .rw[Eo]at h;rwa[wpAny_eqBool_str h]
 «strs»:=λk x t v h=>by
  rcases j8 h with ⟨i,u,rfl,e⟩ | ⟨y,u,rfl,e⟩
  .rwa[nomatch e]
  .injection e with E _;subst E;cases v<;>rfl
def Yz(p:ψ)(w:bF)(i:Int)(t:Tok):(bf p w).is (.inl i) (.int i t)=μ:=tw i t
def YA(p:ψ)(w:bF)(x:ρ)(t:Tok):(bf p w).is (.inr x) (.str x t)=μ:=tE x t
end _L
namespace _L
open PySem PySem.Spec PyProof.Rows
inductive V where
 |non |bl (b:Bool) |int (i:Int) |str (x:ρ) |byt (b:Array UInt8) |flt (b:UInt64) |ref (a:ζ) |ty (n:String)
 deriving DecidableEq
set_option genInjectivity false
def aK:V->η->Prop
 | .non,u=>u=Ω
 | .bl b,u=>u=sn b
 | .int i,u=>∃t,u=kw i t
 | .str x,u=>∃t,u=mT x t
 | .byt b,u=>∃t,u=Value.bytes b t
 | .flt b,u=>∃t,u=Value.float b t
 | .ref a,u=>u=Θ a
 | .ty n,u=>u=fr n
abbrev aG:xL V->xL η->Prop:=Paired aK
def aG.length(r:aG x u):ο x=ο u:=Paired.length r
theorem aG.get:∀{X:xL V} {U:xL η} {i:Nat} {x:V},aG X U->X[i]?=δ x->∃u,U[i]?=δ u/\aK x u
 |_,_,_,_,.nil,e=>by simp at e
 |_,_,0,_,.cons r _,e=>by simp at e;subst e;exact#[_,Z,r]
 |_,_,i+1,x,.cons _ t,e=>by let⟨u,h,H⟩:=aG.get (i:=i) (x:=x) t (e:);exact#[u,by simpa using h,H]
theorem aG.set(r:aK x u):∀{X:xL V} {U:xL η} (i:Nat),aG X U->aG (X.set i x) (U.set i u)
 |_,_,_,.nil=>.nil
 |_,_,0,.cons _ t=>.cons r t
 |_,_,i+1,.cons q t=>.cons q (aG.set r i t)
theorem aG.append{x y:xL V}{u w:xL η}(h:aG x u)(s:aG y w):aG (x++y) (u++w):=by
 induction h with
 |nil=>rwa[s]
 |cons r _ f=>rwa[.cons r f]
theorem aG.take:∀{x:xL V} {u:xL η} (n:Nat),aG x u->aG (x.take n) (u.take n)
 |_,_,0,_ |_,_,_+1,.nil=>.nil
 |_,_,n+1,.cons r t=>.cons r (aG.take n t)
theorem aG.drop:∀{x:xL V} {u:xL η} (n:Nat),aG x u->aG (x.drop n) (u.drop n)
 |_,_,0,r=>r
 |_,_,_+1,.nil=>.nil
 |_,_,n+1,.cons _ t=>aG.drop n t
def ff:ym V->ym η->Prop
 |some v,δ u=>aK v u
 |none,θ=>True
 |_,_=>False
def KV{a:Type}:xL (a×V)->xL (a×η)->Prop:=Paired λ(p:a×V) (q:a×η)=>p.1=q.1/\aK p.2 q.2
def kV:cf->V
 | .inl i=>.int i
 | .inr x=>.str x
inductive HO where
 |lst (xs:xL V)
 |tup (xs:xL V)
 |dK (kvs:xL (cf×V)) |dT (kvs:xL (xL cf×V))
 |set (S:Int->Bool) (n:Nat)
 |ins (C dx:ζ) (fs:xL (ρ×V))
 |own (x:ζ)
 |xd (fs:xL (ρ×V))
 |met (f x:ζ)
 |rng (lo hi:Int)
 |frz (o:hG) (u:HO)
 |tbl (ps:Array η)
 |ext (φ:de->Prop)
abbrev Hp:=ζ->ym HO
def af(H:Hp)(a:ζ)(o:HO):Hp:=λb=>if b=a then δ o else H b
def jc:af H a o a=δ o:=by unfold af;rw[OB Z]
def jh(h:b≠a):af H a o b=H b:=by unfold af;rw[OD h]
def jM{H:Hp}(h:H a=δ o)(c:H b=δ u)(d:o≠u):a≠b:=by intro e;subst e;rw[h]at c;rwa[d (Po c)]
def jk{H:Hp}(h:H a=δ o)(c:H b=θ):a≠b:=by intro e;subst e;rw[h]at c;cases c
section
variable (P:ψ)(w:bF)
def a6(H:Hp)(h:de)(a:ζ):HO->Prop
 | .lst X=>ο X<=τ/\∃(i:xL η) (n:Nat),aG X i/\h.get? a=δ { cls:=.type "list",data:=.seq i.toArray n }
 | .tup X=>ο X<=τ/\∃i:xL η,aG X i/\IsTup h a i.toArray
 | .dK k=>ο k<=τ/\(a==sysModules)=ν/\∃c,KV k c/\h.DictOf (bf P w) a c
 | .dT k=>ο k<=τ/\(a==sysModules)=ν/\∃X:xL (xL cf×ζ×η),
   Paired (λ(p:xL cf×V) (q:xL cf×ζ×η)=>p.1=q.1/\H q.2.1=δ (.tup$ p.1.map kV)/\aK p.2 q.2.2) k X/\
   ∃o e E,h.get? a=δ o/\o.ExactDict/\o.data= .dict e E/\e.toList=X.map (entryOfKey$ tupleKind$ bf P w)/\(X.map (·.1)).Nodup
 | .set S n=>h.SetOf (intKind P w) a S n
 | .ins C d F=>H d=δ (.own a)/\ο F<=1000/\d≠a/\h.get? a=δ (instObj C d)/\
   ∃m,h.Ns1 d m/\(∀f,ff (F.lookup f)$ m f)/\PySem.Within m (F.map (·.1))
 | .own _=>∃o,h.get? a=δ o
 | .xd F=>∃m,h.Ns1 a m/\∀f,ff (F.lookup f) (m f)
 | .rng lo l=>∃t u v,h.get? a=δ { cls:=.type "range",data:=.fields (ε [.int lo t,.int l u,.int 1 v]) }
 | .frz o u=>h.get? a=δ o/\a6 H h a u
 | .tbl r=>h.get? a=δ { cls:=.none,data:=.fields r }
 | .met f x=>h.get? a=δ (oS (.ref f) (.ref x))
 | .ext b=>b h/\(∃o,h.get? a=δ o)/\∀g j:de,b g->(∀o,g.get? a=δ o->j.get? a=δ o)->b j
def gD(H:Hp)(h:de):Prop:=∀a o,H a=δ o->a6 P w H h a o
end
section
variable {P:ψ}{w:bF}{H H':Hp}{h h':de}{a:ζ}{o:HO}
def a6.lt(x:a6 P w H h a o):a < h.objs.size:=by
 cases o with
 |lst X=>let⟨_,_,_,_,e⟩:=x;rwa[Ox e]
 |tup X=>let⟨_,_,_,p⟩:=x;rwa[p.lt]
 |dK k |dT k=>let⟨_,_,_,_,o,_,_,e,_⟩:=x;rwa[Ox e]
 |set S n=>let⟨o,_,_,_,e,_⟩:=x;rwa[Ox e]
 |ins C d F=>let⟨_,_,_,e,_⟩:=x;rwa[Ox e]
 |own y=>let⟨_,e⟩:=x;rwa[Ox e]
 |xd F=>obtain⟨_,⟨_,_,_,e,_⟩,_⟩:=x;rwa[Ox e]
 |rng lo b=>let⟨_,_,_,e⟩:=x;rwa[Ox e]
 |frz O u=>let⟨e,_⟩:=x;rwa[Ox e]
 |tbl c |met f y=>rwa[Ox (show h.get? a=δ _ from x)]
 |ext g=>obtain⟨_,⟨_,e⟩,_⟩:=x;rwa[Ox e]
theorem Paired.mapP{c d:Type}{F G:c->d->Prop}{l:xL c}{L:xL d}(h:Paired F l L)(f:∀a b,F a b->G a b):Paired G l L:=by
 induction h with
 |nil=>rwa[.nil]
 |cons r _ t=>rwa[.cons (f _ _ r) t]
def a6.stay(x:a6 P w H h a o)(k:∀b u,(b=a∨H b=δ (.own a))->h.get? b=δ u->h'.get? b=δ u)
  (s:∀b,H b=δ (.own a)->H' b=δ (.own a)) (A:∀b X,H b=δ (.tup X)->H' b=δ (.tup X)):a6 P w H' h' a o:=by
 induction o with
 |lst X=>let⟨z,i,n,r,e⟩:=x;exact#[z,i,n,r,k _ _ (.inl Z) e]
 |tup X=>let⟨z,i,r,O,e,c⟩:=x;exact#[z,i,r,O,k _ _ (.inl Z) e,c]
 |dK K=>let⟨z,y,V,r,O,E,g,e,c⟩:=x;exact#[z,y,V,r,O,E,g,k _ _ (.inl Z) e,c]
 |dT K=>let⟨z,y,X,r,O,E,g,e,c⟩:=x;exact#[z,y,X,Paired.mapP r λp q z=>#[z.1,A _ _ z.2.1,z.2.2],O,E,g,k _ _ (.inl Z) e,c]
 |set S n=>let⟨O,E,g,t,e,c⟩:=x;exact#[O,E,g,t,k _ _ (.inl Z) e,c]
 |ins C D F=>obtain⟨d,z,N,e,m,⟨j,E,g,B,c⟩,r⟩:=x;exact#[s _ d,z,N,k _ _ (.inl Z) e,m,#[j,E,g,k _ _ (.inr d) B,c],r]
 |own y=>let⟨O,e⟩:=x;exact#[O,k _ _ (.inl Z) e]
 |xd F=>obtain⟨m,⟨j,E,g,e,c⟩,r⟩:=x;exact#[m,#[j,E,g,k _ _ (.inl Z) e,c],r]
 |rng lo G=>let⟨t,u,v,e⟩:=x;exact#[t,u,v,k _ _ (.inl Z) e]
 |frz O u I=>let⟨e,q⟩:=x;exact#[k _ _ (.inl Z) e,I q]
 |tbl l=>have e:h.get? a=δ { cls:=.none,data:=.fields l }:=x;show h'.get? a=δ { cls:=.none,data:=.fields l };rwa[k a _ (.inl Z) e]
 |met f y=>have e:h.get? a=δ (oS (.ref f)$ .ref y):=x;show h'.get? a=δ (oS (.ref f)$ .ref y);rwa[k a _ (.inl Z) e]
 |ext J=>obtain⟨p,⟨o,e⟩,st⟩:=x;exact#[st _ _ p λo q=>k _ _ (.inl Z) q,#[o,k _ _ (.inl Z) e],st]
def gD.lt(x:gD P w H h)(e:H a=δ o):a < h.objs.size:=(x a o e).lt
def gD.fresh(x:gD P w H h)(e:h.objs.size<=a):H a=θ:=by
 cases q:H a with
 |none=>rfl
 |some u=>rwa[absurd (OM (x.lt q) e) (Pr _)]
def gD.kept(x:gD P w H h)(k:∀b u,h.get? b=δ u->h'.get? b=δ u):gD P w H h':=λa o e=>
 (x a o e).stay (λb u _ q=>k b u q) (λ_ q=>q) λ_ _ q=>q
def gD.laid(x:gD P w H h)(k:∀b u,h.get? b=δ u->h'.get? b=δ u)(g:h.objs.size<=a)(n:a6 P w (af H a o) h' a o):gD P w (af H a o) h':=λb u e=>by
 let d:=x.fresh g;by_cases f:b=a
 .subst f;rw[jc]at e;cases e;rwa[n]
 .rw[jh f]at e;exact(x b u e).stay (λc v _ q=>k c v q) (λc q=>by rw[jh$ jk q d];rwa[q]) λc X q=>by rw[jh$ jk q d];rwa[q]
end
def Rd(H:Hp)(a:ζ)(u:HO):Prop:=H a=δ u∨∃o,H a=δ (.frz o u)
def Rd.ok{P:ψ}(r:Rd H a u)(x:gD P w H h):a6 P w H h a u:=by
 rcases r with r | ⟨o,r⟩
 .rwa[x a u r]
 .let⟨_,q⟩:=x a _ r;rwa[q]
def Hj:ym HO->Prop
 |some (.lst _) |some (.dK _) |some (.dT _) |some (.set _ _) |some (.ins _ _ _) |some (.ext _)=>True
 |_=>False
section
variable {P:ψ}{w:bF}{H:Hp}{h h':de}{x e:ζ}{o':HO}
def gD.write(o:gD P w H h)(m:Hj (H x))(i:e=x∨H e=δ (.own x))(k:∀b u,b≠e->h.get? b=δ u->h'.get? b=δ u)(f:∃u,h'.get? e=δ u)
  (g:a6 P w (af H x o') h' x o'):gD P w (af H x o') h':=λb u q=>by
 let n:∀c y,H c=δ (.own y)->c≠x:=λc y r z=>by subst z;rw[r]at m;rwa[m]
 let N:∀c X,H c=δ (.tup X)->c≠x:=λc X r z=>by subst z;rw[r]at m;rwa[m]
 by_cases d:b=x
 .subst d;rw[jc]at q;cases q;rwa[g]
 .rw[jh d]at q;by_cases a:b=e
  .let Q:H b=δ (.own x):=by
    rcases i with z |z
    .rwa[absurd (a.trans z) d]
    .rw[a];rwa[z]
   rw[q]at Q;cases Q;let⟨v,j⟩:=f;exact#[v,by rw[a];rwa[j]]
  .refine(o b u q).stay (λc v hc r=>k c v ?_ r) (λc r=>by rw[jh$ n c b r];rwa[r]) λc X r=>by rw[jh$ N c X r];exact r
   rcases hc with rfl |hc
   .rwa[a]
   .rintro rfl;rcases i with z |z
    .rwa[n c b hc z]
    .rw[hc]at z;cases z;rwa[d Z]
end
structure Un(fs ex:xL ζ)(H H':Hp)(h h':de):Prop where
 keep:∀b o,h.get? b=δ o->H b=θ->b∉fs->b∉ex->h'.get? b=δ o
 slot:∀b o,h.get? b=δ o->H b=θ->b∈fs->b∉ex->∃sl,h'.get? b=δ { o with slots:=sl }
 free:∀b o,h.get? b=δ o->H b=θ->b∉ex->H' b=θ
 there:∀b o,h.get? b=δ o->b∉ex->∃o',h'.get? b=δ o'
 tups:∀b xs,H b=δ (.tup xs)->H' b=δ (.tup xs)
 frzs:∀b o u,H b=δ (.frz o u)->H' b=δ (.frz o u)
 tbls:∀b ps,H b=δ (.tbl ps)->∃more,H' b=δ (.tbl$ ps++more)
section
variable {fs fs' ex ex':xL ζ}{H H1 H2:Hp}{h h1 h2 h':de}{a x e:ζ}{o:HO}
def Un.any(u:Un fs ex H H1 h h1)(q:h.get? b=δ O)(n:H b=θ)(c:b∉ex):∃s,h1.get? b=δ { O with slots:=s }:=by
 by_cases d:b∈fs
 .rwa[u.slot b O q n d c]
 .exact#[O.slots,u.keep b O q n d c]
def Un.kept(k:∀b u,h.get? b=δ u->h'.get? b=δ u):Un fs ex H H h h':=
 #[λb O q _ _ _=>k b O q,λb O q _ _ _=>#[O.slots,k b O q],λ_ _ _ n _=>n,λb O q _=>#[O,k b O q],λ_ _ q=>q,λ_ _ _ q=>q,λ_ p q=>#[(ε []),by rw[q];simp]]
def Un.refl:Un fs ex H H h h:=Un.kept λ_ _ q=>q
def Un.laid(k:∀b u,h.get? b=δ u->h'.get? b=δ u)(d:h.objs.size<=a)(c:H a=θ):Un fs ex H (af H a o) h h' where
 keep:=λb u q _ _ _=>k b u q
 slot:=λb u q _ _ _=>#[u.slots,k b u q]
 free:=λb u q n _=>by rw[jh$ OH$ OM (Ox q) d];rwa[n]
 there:=λb u q _=>#[u,k b u q]
 tups:=λb X q=>by rw[jh$ jk q c];rwa[q]
 frzs:=λb u X q=>by rw[jh$ jk q c];rwa[q]
 tbls:=λb p q=>#[(ε []),by rw[jh$ jk q c,q];simp]
def Un.write(m:Hj (H x))(j:e=x∨H e=δ (.own x))(k:∀b u,b≠e->h.get? b=δ u->h'.get? b=δ u)(d:∃u,h'.get? e=δ u):Un fs ex H (af H x o) h h':=by
 let g:∀b,H b=θ->b≠x:=λb n z=>by subst z;rw[n]at m;rwa[m]
 let i:∀b,H b=θ->b≠e:=λb n z=>by
  subst z;rcases j with r |r
  .rwa[g b n r]
  .rw[n]at r;cases r
 let f:∀b u,H b=δ u->¬Hj (δ u)->b≠x:=λb u q N z=>by subst z;rw[q]at m;rwa[N m]
 refine#[λb u q n _ _=>k b u (i b n) q,λb u q n _ _=>#[u.slots,k b u (i b n) q],λb u q n _=>by rw[jh$ g b n];exact n,λb u q _=>?_,
  λb X q=>by rw[jh$ f b _ q λz=>z];rwa[q],λb u X q=>by rw[jh$ f b _ q λz=>z];rwa[q],λb p q=>#[(ε []),by rw[jh$ f b _ q λz=>z,q];simp]]
 by_cases c:b=e
 .subst c;rwa[d]
 .exact#[u,k b u c q]
end
def LW(h:de)(H:Hp):xL ζ:=(dw h.objs.size).filter λa=>(H a).isSome
def mv(h:de)(H:Hp):de:=PySem.W.hideAll h (LW h H)
def sZ(h:de)(H:Hp):(mv h H).objs.size=h.objs.size:=PySem.W.hideAll_size _ _
def vZ{h:de}{H:Hp}(e:h.get? b=δ o)(n:H b=θ):(mv h H).get? b=δ o:=
 PySem.W.hideAll_get _ e λa=>by let q:(H b).isSome=μ:=(List.mem_filter.mp a).2;rw[n]at q;simp at q
def Be(e:(mv h H).get? b=δ o):h.get? b=δ o/\H b=θ:=by
 let E:h.get? b=δ o:=PySem.W.of_hideAll (LW h H) e;erw[#[E,?_]];cases q:H b with
 |none=>rfl
 |some x=>have a:b∈LW h H:=List.mem_filter.mpr #[tf.mpr$ Ox E,by simp [q]];let z:(mv h H).get? b=θ:=PySem.W.hideAll_none (LW h H) a;rw[z]at e;cases e
end _L
open _L.V renaming str->tT,int->vr,ref->xm
namespace _L
open PySem PySem.Spec PyProof.Rows
structure Mod(K:β)(mg:ρ->ym η)(base:de):Prop where
 kin:K.In base
 glob:base.Ns Ψ mg
 blt:∃mb,base.Ns builtinsNs mb/\∀x:ρ,x≠"__name__"->mb x=bootBuiltins x
 nolimit:base.NoLimit
structure Cx where
 prog:ψ
 w:bF
 K:β
 mg:ρ->ym η
 base:de
 A:bS
 N:xL ρ
 s₀:ι
 H₀:Hp
 env:Env
 outer:xL Env
 stack:xL Env
 ex:xL ζ
 fn:ρ->Bool
 calm:Bool
 pn:xL (ζ×hG)
 xe:η->ι->Prop
def l7(l:xL Env):xL ζ:=l.filterMap (·.frame)
abbrev Cx.fs(X:Cx):xL ζ:=l7 X.outer
def LK(s:ic)(x:ρ):Prop:=s.names.lookup x=δ .local∨s.names.lookup x=δ .cell∨s.names.lookup x=δ .free
def uT(s:ic)(x:ρ):Prop:=s.names.lookup x=δ .local∨s.names.lookup x=δ .cell
def Ma(e:Env)(h:de)(m:ρ->ym η)(x:ρ)(u:η):Prop:=
 (e.kindOf x=δ .local/\m x=δ u)∨((e.kindOf x=δ .cell∨e.kindOf x=δ .free)/\∃c,e.cells.lookup x=δ c/\h.IsCell c (δ u))
structure Cx.Ok(X:Cx):Prop where
 mod:Mod X.K X.mg X.base
 kind:X.env.scope.kind= .function
 glob:X.env.globals=Ψ
 blt:X.env.builtins=builtinsNs
 above:X.s₀.heap.objs.size<=X.env.locals
 inj:∀x y c,X.env.cells.lookup x=δ c->X.env.cells.lookup y=δ c->x=y
 has:∀x,(X.env.kindOf x=δ .cell∨X.env.kindOf x=δ .free)->∃c,X.env.cells.lookup x=δ c
 cab:∀x c,X.fn x=μ->X.env.cells.lookup x=δ c->X.s₀.heap.objs.size<=c
 hd:X.calm=μ->X.A.handled=θ
 frames:X.A.frames=δ X.stack
 stk:X.stack=X.outer∨(X.stack=X.env::X.outer/\X.env.frame=δ X.env.locals)
 exf:∀b∈X.ex,b≠X.env.locals/\∀x c,X.env.cells.lookup x=δ c->c≠b
 bs:∀b o,X.base.get? b=δ o->X.s₀.heap.get? b=δ o/\X.H₀ b=θ
 bsz:X.base.objs.size<=X.s₀.heap.objs.size
 noex:∀b o,X.base.get? b=δ o->b∉X.ex
 exfs:∀b∈X.ex,b∉X.fs
 funs:X.s₀.heap.FunFrames X.base X.outer
 frf:∀b∈X.fs,X.H₀ b=θ
structure ax(X:Cx)(pins:xL (ζ×hG))(σ:xL (ym V))(H:Hp)(s:ι):Prop where
 ok:X.Ok
 os:s.os=X.s₀.os
 bare:AllBare s.gens
 base:Un X.fs X.ex X.H₀ H X.s₀.heap s.heap
 loc:∃m,s.heap.Ns X.env.locals m/\∀(i:Nat) (x:ρ) (v:V),X.N[i]?=δ x->σ[i]?=δ (δ v)->LK X.env.scope x->∃u,aK v u/\Ma X.env s.heap m x u
 cell:∀x c,X.env.cells.lookup x=δ c->∃v,s.heap.IsCell c v
 free:H X.env.locals=θ
 freeC:∀x c,X.env.cells.lookup x=δ c->H c=θ
 pin:∀p∈X.pn++pins,s.heap.get? p.1=δ p.2/\H p.1=θ/\p.1≠X.env.locals/\p.1∉X.fs/\∀v,p.2.data≠ .cell v
 hok:gD X.prog X.w H s.heap
 len:ο σ=ο X.N
section
variable {X:Cx}{pins:xL (ζ×hG)}{σ:xL (ym V)}{H H':Hp}{s:ι}{h':de}
def Cx.Ok.nofr(O:X.Ok)(e:X.base.get? b=δ o):b∉X.fs:=λh=>by let:=(O.funs.mem h).1;rw[e]at this;cases this
def ax.bs(I:ax X pins σ H s):∀b o,X.base.get? b=δ o->s.heap.get? b=δ o/\H b=θ:=λb o e=>
 #[I.base.keep b o (I.ok.bs b o e).1 (I.ok.bs b o e).2 (I.ok.nofr e)$ I.ok.noex b o e,I.base.free b o (I.ok.bs b o e).1 (I.ok.bs b o e).2$ I.ok.noex b o e]
def ax.bk(I:ax X pins σ H s):∀b o,X.base.get? b=δ o->s.heap.get? b=δ o:=λb o e=>(I.bs b o e).1
def ax.mod(I:ax X pins σ H s):Mod X.K X.mg X.base:=I.ok.mod
def ax.kIn(I:ax X pins σ H s):X.K.In s.heap:=I.ok.mod.kin.keeps I.bk
def ax.lt(I:ax X pins σ H s):X.env.locals < -s:=by let⟨_,h,_⟩:=I.loc;rwa[h.lt]
def ax.sz(I:ax X pins σ H s):X.s₀.heap.objs.size<=-s:=OK I.ok.above (RE I.lt)
def ax.nofs(I:ax X pins σ H s)(h:-s<=a):a∉X.fs:=λb=>by let⟨_,o,c,_⟩:=I.ok.funs.mem b;rwa[absurd (OM (Ox c)$ OK I.sz h)$ Pr _]
def ax.cne(I:ax X pins σ H s):∀x c,X.env.cells.lookup x=δ c->c≠X.env.locals:=λx c e z=>by let⟨v,o,b,d⟩:=I.cell x c e;obtain⟨m,⟨O,E,f,h,a,_⟩,_⟩:=I.loc;rw[z,h]at b;cases b;rw[a]at d;cases d
def ax.funs(I:ax X pins σ H s):s.heap.FunFrames X.base X.outer:=by
 let all:∀(l:xL Env),(∀b∈l7 l,b∈X.fs)->X.s₀.heap.FunFrames X.base l->s.heap.FunFrames X.base l:=by
  intro l;induction l with
  |nil=>intro _ _;trivial
  |cons E r i=>intro d f;obtain⟨g,⟨L,o,h,j,k,m⟩,n⟩:=f;let a:L∈X.fs:=d L (by unfold l7;rw[List.filterMap_cons,h];rwa[List.mem_cons_self]);let⟨S,e⟩:=I.base.slot L o k (I.ok.frf L a) a λz=>I.ok.exfs L z a;exact#[g,#[L,_,h,j,e,m],i (λb c=>d b (by unfold l7;rw[List.filterMap_cons,h];rwa[List.mem_cons_of_mem _ c])) n]
 rwa[all X.outer (λ_ c=>c) I.ok.funs]
def ax.stack(I:ax X pins σ H s):s.heap.FunFrames X.base X.stack:=by
 rcases I.ok.stk with e | ⟨e,h⟩
 .rw[e];rwa[I.funs]
 .rw[e];let⟨m,a,_⟩:=I.loc;erw[.cons (by rw[I.ok.kind];decide) h a ?_ I.funs];rwa[Heap.get?_none_of_le$ OK I.ok.bsz I.ok.above]
def ax.stkSub(I:ax X pins σ H s):∀b∈l7 X.stack,b∈X.env.locals::X.fs:=λb h=>by
 rcases I.ok.stk with e | ⟨e,a⟩
 .rw[e]at h;rwa[OY _ h]
 .rw[e]at h;unfold l7 at h;rw[T4,a]at h;rwa[h]
def ax.stkFree(I:ax X pins σ H s):∀b∈l7 X.stack,H b=θ:=λb hb=>by
 rcases Ξ.mp (I.stkSub b hb) with e |hb
 .rw[e];rwa[I.free]
 .let⟨_,o,h,_⟩:=I.ok.funs.mem hb;rwa[I.base.free b o h (I.ok.frf b hb) λz=>I.ok.exfs b z hb]
def ax.step{g':Array GenState}{d':Drawn}{ch:xL ζ}(I:ax X pins σ H s)
  (a:∀b∈ch,(b∈X.ex∨X.s₀.heap.objs.size<=b)/\b≠X.env.locals/\(∀x c,X.env.cells.lookup x=δ c->c≠b)/\∀p∈X.pn++pins,p.1≠b)
  (K:∀b o,b≠X.env.locals->b∉X.fs->b∉ch->s.heap.get? b=δ o->H b=θ->h'.get? b=δ o)
  (S:∀b o,b≠X.env.locals->b∈X.fs->b∉ch->s.heap.get? b=δ o->H b=θ->∃J,h'.get? b=δ { o with slots:=J }) (f:∀b o,b∉ch->s.heap.get? b=δ o->H b=θ->H' b=θ)
  (t:∀b o,b∉ch->s.heap.get? b=δ o->∃O,h'.get? b=δ O)
  (T:∀b j,H b=δ (.tup j)->H' b=δ (.tup j)) (F:∀b o u,H b=δ (.frz o u)->H' b=δ (.frz o u)) (B:∀b P,H b=δ (.tbl P)->∃M,H' b=δ (.tbl$ P++M))
  (ns:∀m,s.heap.Ns X.env.locals m->h'.Ns X.env.locals m) (L:gD X.prog X.w H' h') (hg:AllBare g'):
  ax X pins σ H' { s with heap:=h',gens:=g',drawn:=d',toks:=t' }:=by
 let D:∀b o,X.s₀.heap.get? b=δ o->b≠X.env.locals:=λb o e=>OH (OM (Ox e) I.ok.above);let g:∀b o,X.s₀.heap.get? b=δ o->b∉X.ex->b∉ch:=λb o e h y=>by
  rcases(a b y).1 with z |z
  .rwa[h z]
  .rwa[absurd (OM (Ox e) z)$ Pr _]
 let C:∀x c,X.env.cells.lookup x=δ c->∀v,s.heap.IsCell c v->h'.IsCell c v:=λx c e v #[o,A,Q]=>by
  let N:c∉ch:=λz=>(a c z).2.2.1 x c e Z;by_cases U:c∈X.fs
  .let⟨J,q⟩:=S c o (I.cne x c e) U N A (I.freeC x c e);exact#[_,q,Q]
  .exact#[o,K c o (I.cne x c e) U N A$ I.freeC x c e,Q]
 erw[#[I.ok,I.os,hg,#[λb o e n y h=>?_,λb o e n y h=>?_,λb o e n h=>?_,λb o e h=>?_,λb j e=>T b j (I.base.tups b j e),λb o j e=>F b o j (I.base.frzs b o j e),λb P e=>?_],?_,λx c e=>?_,?_,λx c e=>?_,λp W=>?_,L,I.len]]
 .rwa[K b o (D b o e) y (g b o e h) (I.base.keep b o e n y h)$ I.base.free b o e n h]
 .let⟨J,E⟩:=I.base.slot b o e n y h;let⟨R,G⟩:=S b _ (D b o e) y (g b o e h) E (I.base.free b o e n h);exact#[R,G]
 .let⟨O,E⟩:=I.base.there b o e h;rwa[f b O (g b o e h) E$ I.base.free b o e n h]
 .let⟨O,E⟩:=I.base.there b o e h;rwa[t b O (g b o e h) E]
 .let⟨m1,E⟩:=I.base.tbls b P e;let⟨m2,G⟩:=B b _ E;exact#[m1++m2,by rw[G,Array.append_assoc]]
 .let⟨m,hn,hl⟩:=I.loc;erw[#[m,ns m hn,λi x v E G e3=>?_]];let⟨u,r,l⟩:=hl i x v E G e3;erw[#[u,r,?_]];rcases l with l | ⟨k,c,e,z⟩
  .rwa[.inl l]
  .rwa[.inr #[k,c,e,C x c e _ z]]
 .let⟨v,z⟩:=I.cell x c e;exact#[v,C x c e v z]
 .obtain⟨m,⟨o,_,_,A,_⟩,_⟩:=I.loc;rwa[f _ o (λz=>(a _ z).2.1 Z) A I.free]
 .let⟨v,o,A,Q⟩:=I.cell x c e;rwa[f c o (λz=>(a c z).2.2.1 x c e Z) A$ I.freeC x c e]
 .let⟨e,n,Y,nf,d⟩:=I.pin p W;let N:p.1∉ch:=λz=>(a p.1 z).2.2.2 p W Z;exact#[K p.1 p.2 Y nf N e n,f p.1 p.2 N e n,Y,nf,d]
def ax.un{t':Nat}(I:ax X pins σ H s)(u:Un X.fs [] H H' s.heap h')(a:gD X.prog X.w H' h'):ax X pins σ H' { s with heap:=h',toks:=t' }:=by
 obtain⟨m,⟨o,j,k,f,r⟩,_⟩:=id I.loc;let⟨S,g⟩:=u.any f I.free NN;exact I.step (g':=s.gens) (d':=s.drawn) (ch:=[]) (λ_ z=>nomatch z) (λb o _ c _ e n=>u.keep b o e n c NN) (λb o _ c _ e n=>u.slot b o e n c NN) (λb o _ e n=>u.free b o e n NN) (λb o _ e=>u.there b o e NN) u.tups u.frzs u.tbls (λM i=>by
  let⟨O,E,d,h,R⟩:=i;rw[f]at h;cases h;exact#[_,E,d,g,R]) a I.bare
def ax.call{g':Array GenState}{t':Nat}{d':Drawn}{ch:xL ζ}(I:ax X pins σ H s)(u:Un (l7 X.stack) ch H H' s.heap h')(f:gD X.prog X.w H' h')(k:AllBare g')
  (a:∀b∈ch,(b∈X.ex∨X.s₀.heap.objs.size<=b)/\b≠X.env.locals/\(∀x c,X.env.cells.lookup x=δ c->c≠b)/\∀p∈X.pn++pins,p.1≠b):
  ax X pins σ H' { s with heap:=h',gens:=g',drawn:=d',toks:=t' }:=by
 obtain⟨m,⟨o,t,v,j,r⟩,_⟩:=id I.loc;let⟨S,g⟩:=u.any j I.free λz=>(a _ z).2.1 Z;exact I.step (ch:=ch) a (λb o g l h e n=>u.keep b o e n (λz=>(Ξ.mp$ I.stkSub b z).elim g l) h) (λb o _ _ h e n=>u.any e n h) (λb o h e n=>u.free b o e n h) (λb o h e=>u.there b o e h) u.tups u.frzs u.tbls (λM q=>by
  let⟨O,E,i,d,R⟩:=q;rw[j]at d;cases d;exact#[_,E,i,g,R]) f k
def ax.turned{t':Nat}{it:ζ}(I:ax X pins σ H s)(k:∀b o,b≠it->s.heap.get? b=δ o->h'.get? b=δ o)(d:H it=θ)(a:it≠X.env.locals)
  (f:it∈X.ex∨X.s₀.heap.objs.size<=it) (g:∀x c,X.env.cells.lookup x=δ c->c≠it) (i:∀p∈X.pn++pins,p.1≠it):ax X pins σ H { s with heap:=h',toks:=t' }:=by
 let N:∀b u,H b=δ u->b≠it:=λb u e z=>by rw[z,d]at e;cases e
 refine I.step (g':=s.gens) (d':=s.drawn) (ch:=[it]) (λb j=>?_) (λb o _ _ h e _=>k b o (λz=>h (by simp [z])) e) (λb o _ _ h e _=>#[o.slots,k b o (λz=>h (by simp [z])) e]) (λ_ _ _ _ n=>n)
  (λb o h e=>#[o,k b o (λz=>h (by simp [z])) e]) (λ_ _ e=>e) (λ_ _ _ e=>e) (λb P e=>#[(ε []),by rw[e];simp]) (λm l=>?_) (λb u e=>?_) I.bare
 .let e:b=it:=by simpa using j
  subst e;exact#[f,a,g,i]
 .let⟨o,E,t,w,r⟩:=l;exact#[o,E,t,k _ o (O3 a) w,r]
 .erw[(I.hok b u e).stay (λc v h q=>k c v ?_ q) (λ_ q=>q) λ_ _ q=>q];rcases h with z |z
  .rw[z];rwa[N b u e]
  .rwa[N c _ z]
def ax.tok(I:ax X pins σ H s)(t:Nat):ax X pins σ H { s with toks:=t }:=I.un (h':=s.heap) (t':=t) Un.refl I.hok
def ax.kept{t':Nat}(I:ax X pins σ H s)(k:∀b u,s.heap.get? b=δ u->h'.get? b=δ u):ax X pins σ H { s with heap:=h',toks:=t' }:=I.un (Un.kept k) (I.hok.kept k)
def ax.laid{a:ζ}{o:HO}{t':Nat}(I:ax X pins σ H s)(k:∀b u,s.heap.get? b=δ u->h'.get? b=δ u)(h:-s<=a)(n:a6 X.prog X.w (af H a o) h' a o):
  ax X pins σ (af H a o) { s with heap:=h',toks:=t' }:=I.un (Un.laid k h$ I.hok.fresh h) (I.hok.laid k h n)
def ax.write{x e:ζ}{o:HO}{t':Nat}(I:ax X pins σ H s)(m:Hj (H x))(a:e=x∨H e=δ (.own x))(k:∀b u,b≠e->s.heap.get? b=δ u->h'.get? b=δ u)(h:∃u,h'.get? e=δ u)
  (n:a6 X.prog X.w (af H x o) h' x o):ax X pins σ (af H x o) { s with heap:=h',toks:=t' }:=I.un (Un.write m a k h) (I.hok.write m a k h n)
def ax.pins_of{pins':xL (ζ×hG)}(I:ax X pins σ H s)(h:∀p∈pins',s.heap.get? p.1=δ p.2/\H p.1=θ/\p.1≠X.env.locals/\p.1∉X.fs/\∀v,p.2.data≠ .cell v):ax X pins' σ H s:=
 #[I.ok,I.os,I.bare,I.base,I.loc,I.cell,I.free,I.freeC,λp a=>(bm.mp a).elim (λz=>I.pin p (P0 _ z)) (h p),I.hok,I.len]
def XZ{N:xL ρ}(h:N.Nodup){i j:Nat}{x:ρ}(a:N[i]?=δ x)(b:N[j]?=δ x):i=j:=by let⟨c,e⟩:=ξ.mp a;let⟨d,E⟩:=ξ.mp b;exact(List.getElem_inj h).mp (e.trans E.symm)
def QS{v:V}{Q:Unit->ι->Prop}(I:ax X pins σ H s)(hN:X.N.Nodup)(L:X.N[i]?=δ x)(l:uT X.env.scope x)(r:aK v u)
  (h:∀s',ax X pins (σ.set i$ δ v) H s'->(∃a,fx a s.heap s'.heap/\(a=X.env.locals∨X.env.cells.lookup x=δ a))->Q () s') (hf:autoParam (X.fn x=μ∨X.env.scope.names.lookup x=δ .local) Wx._auto_1):π M A (storeName X.env x u) Q E s:=by
 let⟨m,hn,hl⟩:=id I.loc;let O:(X.env.scope.kind== .class||(X.env.scope.kind== .module&&X.env.locals != X.env.globals))=ν:=by rw[I.ok.kind];rfl
 let D:i < ο σ:=by rw[I.len];exact(ξ.mp L).1
 let F:=I.cne;let t:∀{a:ζ} {h':de},(∃o,s.heap.get? a=δ o/\H a=θ)->fx a s.heap h'->gD X.prog X.w H h':=λ{a h'} ha f b ob e=>by
  let⟨_,_,B⟩:=ha;erw[(I.hok b ob e).stay (λc W hc q=>(f.2 c ?_).trans q) (λ_ q=>q) λ_ _ q=>q];rintro rfl;rcases hc with rfl |hc
  .rw[B]at e;cases e
  .rw[B]at hc;cases hc
 rcases l with hk |hk
 .erw[wpAny_storeName_local hk hn (λh' h0 f=>?_) O];let⟨oL,_,_,h1,_⟩:=id hn;refine h _ #[I.ok,I.os,I.bare,#[λb o e n G l=>?_,λb o e n G l=>?_,I.base.free,λb o e l=>?_,I.base.tups,I.base.frzs,I.base.tbls],#[_,h0,λj y v' g C e3=>?_],λy c e=>?_,I.free,I.freeC,λp hp=>?_,t #[oL,h1,I.free] f,by simpa using I.len] #[_,f,.inl Z]
  .exact(f.2 b$ OH$ OM (Ox e) I.ok.above).trans (I.base.keep b o e n G l)
  .let⟨sl,g⟩:=I.base.slot b o e n G l;exact#[sl,(f.2 b$ OH$ OM (Ox e) I.ok.above).trans g]
  .let⟨o',g⟩:=I.base.there b o e l;exact#[o',(f.2 b$ OH$ OM (Ox e) I.ok.above).trans g]
  .by_cases J:j=i
   .subst J;rw[L]at g;cases g;rw[So D]at C;cases C;exact#[u,r,.inl #[hk,NN]]
   .rw[RC$ O3 J]at C;let⟨u',r',q⟩:=hl j y v' g C e3;erw[#[u',r',?_]];rcases q with ⟨k,e⟩ | ⟨k,c,e,z⟩
    .erw[.inl #[k,?_]];let:y≠x:=λe=>J (XZ hN g$ e▸L);simp [this,e]
    .rwa[.inr #[k,c,e,z.sameBut f$ F y c e]]
  .let⟨W,z⟩:=I.cell y c e;exact#[W,z.sameBut f$ F y c e]
  .let⟨e,n,U,nf,d⟩:=I.pin p hp;exact#[(f.2 p.1 U).trans e,n,U,nf,d]
 .let K:X.fn x=μ:=by
   rcases hf with z |z
   .rwa[z]
   .rw[z]at hk;cases hk
  let⟨c,hc⟩:=I.ok.has x (.inl hk);let⟨W,z⟩:=I.cell x c hc;erw[wpAny_storeName_cell I.ok.kind hk hc z (λh' P f=>?_)];let⟨oc,R,S⟩:=id z;erw[h ‹h'› #[I.ok,I.os,I.bare,#[λb o e n G l=>?_,λb o e n G l=>?_,I.base.free,λb o e l=>?_,I.base.tups,I.base.frzs,I.base.tbls],#[m,hn.sameBut f$ O3$ F x c hc,λj y v' g C e3=>?_],λy Y e=>?_,I.free,I.freeC,λp hp=>?_,t #[oc,R,I.freeC x c hc] f,by simpa using I.len] #[c,f,.inr hc]]
  .exact(f.2 b$ OH$ OM (Ox e)$ I.ok.cab x c K hc).trans (I.base.keep b o e n G l)
  .let⟨sl,g⟩:=I.base.slot b o e n G l;exact#[sl,(f.2 b$ OH$ OM (Ox e)$ I.ok.cab x c K hc).trans g]
  .let⟨o',g⟩:=I.base.there b o e l;exact#[o',(f.2 b$ OH$ OM (Ox e)$ I.ok.cab x c K hc).trans g]
  .by_cases J:j=i
   .subst J;rw[L]at g;cases g;rw[So D]at C;cases C;exact#[u,r,.inr #[.inl hk,c,hc,P]]
   .rw[RC$ O3 J]at C;let⟨u',r',q⟩:=hl j y v' g C e3;erw[#[u',r',?_]];rcases q with q | ⟨k,Y,e,z'⟩
    .rwa[.inl q]
    .erw[.inr #[k,Y,e,z'.sameBut f ?_]];rintro rfl;rwa[J$ XZ hN g$ I.ok.inj _ _ _ e hc▸L]
  .by_cases T:Y=c
   .subst T;exact#[_,P]
   .let⟨w2,z2⟩:=I.cell y Y e;exact#[w2,z2.sameBut f T]
  .let⟨e,n,U,nf,d⟩:=I.pin p hp;erw[#[(f.2 p.1 ?_).trans e,n,U,nf,d]];intro q;rw[q,R]at e;let q':oc=p.2:=Po e;rwa[d W (by rw[<- q'];rwa[S])]
def zH{Q:Unit->ι->Prop}(I:ax X pins σ H s)(a:X.N.Nodup)(b:X.N[i]?=δ x)(c:uT X.env.scope x)(r:aK v u)
  (h:∀S,ax X pins (σ.set i$ δ v) H S->Q () S) (d:autoParam (X.fn x=μ∨X.env.scope.names.lookup x=δ .local) Wx._auto_1):π M A (storeName X.env x u) Q E s:=
 QS I a b c r (λS e _=>h S e) d
def ax.call'{S:ι}{ch:xL ζ}(I:ax X pins σ H s)(d:S.os=s.os)(u:Un (l7 X.stack) ch H H' s.heap S.heap)(h:gD X.prog X.w H' S.heap)(f:AllBare S.gens)
  (a:∀b∈ch,(b∈X.ex∨X.s₀.heap.objs.size<=b)/\b≠X.env.locals/\(∀x c,X.env.cells.lookup x=δ c->c≠b)/\∀p∈X.pn++pins,p.1≠b):ax X pins σ H' S:=by
 let⟨h',g',d',t',o⟩:=S;let e:o=s.os:=d;subst e;rwa[I.call (g':=g') (t':=t') (d':=d') u h f a]
end
abbrev XK:=η->ym ζ->Hp->Prop
abbrev St:=xL (ym V)
abbrev VK:=V->Hp->Prop
abbrev TE:=St->Hp->VK->Prop
abbrev TT:=St->Hp->(Bool->Hp->Prop)->Prop
abbrev TA:=St->Hp->(xL V->Hp->Prop)->Prop
structure bp where
 nx:St->Hp->Prop
 rt:VK
 bk:St->Hp->Prop:=λ_ _=>False
 ct:St->Hp->Prop:=λ_ _=>False
abbrev TS:=bp->St->Hp->Prop
inductive EP(X:Cx)(a:xL (ζ×hG))(d:St)(Q:VK)(u:η)(c:ι):Prop
 |mk(v b:_)(_:ax X a d b c)(_:aK v u)(_:Q v b)
inductive TP(X:Cx)(a:xL (ζ×hG))(e:St)(Q:Bool->Hp->Prop)(b:Bool)(d:ι):Prop
 |mk(c:_)(_:ax X a e c d)(_:Q b c)
inductive AP(X:Cx)(a:xL (ζ×hG))(f:St)(Q:xL V->Hp->Prop)(d:xL η)(c:ι):Prop
 |mk(e b:_)(_:ax X a f b c)(_:aG e d)(_:Q e b)
def SP(X:Cx)(p:xL (ζ×hG))(D:bp)(f:Flow)(s:ι):Prop:=
 match f with
 | .next=>∃a H,ax X p a H s/\D.nx a H
 | .brk=>∃a H,ax X p a H s/\D.bk a H
 | .cont=>∃a H,ax X p a H s/\D.ct a H
 | .ret u=>∃v a H,ax X p a H s/\aK v u/\D.rt v H
def PE(X:Cx)(e:dr)(t:TE):Prop:=
 ∀(p:xL (ζ×hG)) (s:ι) (a:St) (H:Hp) (Q:VK),ax X p a H s->t a H Q->π (υ X.prog X.w) X.A (eval e X.env) (EP X p a Q) X.xe s
def PT(X:Cx)(e:dr)(t:TT):Prop:=
 ∀(p:xL (ζ×hG)) (s:ι) (a:St) (H:Hp) (Q:Bool->Hp->Prop),ax X p a H s->t a H Q->π (υ X.prog X.w) X.A (isTrue e X.env$ eval e X.env) (TP X p a Q) X.xe s
def PW(X:Cx)(e:dr)(t:TT):Prop:=
 ∀(W:Sem η) (p:xL (ζ×hG)) (s:ι) (a:St) (H:Hp) (Q:Bool->Hp->Prop),ax X p a H s->t a H Q->π (υ X.prog X.w) X.A (isTrue e X.env W) (TP X p a Q) X.xe s
def PW.pt{X:Cx}{e:dr}{t:TT}(h:PW X e t):PT X e t:=h _
def PA(X:Cx)(e:xL dr)(t:TA):Prop:=
 ∀(P:Pos) (p:xL (ζ×hG)) (s:ι) (a:St) (H:Hp) (Q:xL V->Hp->Prop),ax X p a H s->t a H Q->π (υ X.prog X.w) X.A (spliced$ fy P$ Δ e X.env) (AP X p a Q) X.xe s
def PS(X:Cx)(st:bU)(t:TS):Prop:=
 ∀(p:xL (ζ×hG)) (s:ι) (a:St) (H:Hp) (D:bp),ax X p a H s->t D a H->π (υ X.prog X.w) X.A (exec st X.env) (SP X p D) X.xe s
def nG(X:Cx)(st:xL bU)(t:TS):Prop:=
 ∀(p:xL (ζ×hG)) (s:ι) (a:St) (H:Hp) (D:bp),ax X p a H s->t D a H->π (υ X.prog X.w) X.A (execs st X.env) (SP X p D) X.xe s
def a8{b:Type}{t:Sem b}{Q q:b->ι->Prop}{M:Model}{A:bS}{E:η->ι->Prop}{s:ι}(h:π M A t Q E s)(H:∀a s,Q a s->q a s):π M A t q E s:=Px h H λ_ _ x=>x
section
variable {X:Cx}
inductive bj(i:Nat)(a:St)(H:Hp)(Q:VK):Prop
 |mk(v:_)(_:a[i]?=δ (δ v))(_:Q v H)
def tC(v:V):TE:=λ_ H Q=>Q v H
def FF(j:X.N[i]?=δ x)(k:LK X.env.scope x)(b:↥((x==("__debug__":ρ))=ν))(d:↥((x==("__classdict__":ρ))=ν)):PE X (.Name x n) (bj i):=by
 intro p s o H Q I h;let⟨v,e,h⟩:=h;let⟨m,q,t⟩:=I.loc;let⟨u,r,l⟩:=t i x v j e k;let f:EP X p o Q u s:=#[v,H,I,r,h];rcases l with ⟨hk,w⟩ | ⟨hk,c,g,a⟩
 .rwa[Wg (VS I.ok.kind hk q w f) b]
 .rcases hk with hk |hk
  .rwa[Wg (V3 I.ok.kind hk g a f) b]
  .rwa[Wg (wpAny_loadName_free I.ok.kind hk g a f d) b]
def jf{i j p}:PE X (.Constant (.int i) j p) (tC$ .int i):=λ_ _ _ H _ I h=>wpAny_Constant_int #[.int i,H,I.tok _,#[_,Z],h]
def IH{b j p}:PE X (.Constant (.bool b) j p) (tC$ .bl b):=λ_ _ _ H _ I h=>Constant_bool #[.bl b,H,I,Z,h]
def kl{j p}:PE X (.Constant .none j p) (tC .non):=λ_ _ _ H _ I h=>Constant_none #[.non,H,I,Z,h]
def jm{x j p}:PE X (.Constant (.str x) j p) (tC$ .str x):=λ_ _ _ H _ I h=>Calls.Constant_str #[.str x,H,I.tok _,#[_,Z],h]
def Gl(X:Cx)(x:ρ):Prop:=X.env.kindOf x=δ .globalImplicit
def qe{Q:η->ι->Prop}(I:ax X p e H s)(a:Gl X x)(b:X.mg x=δ u)(h:Q u s)
  (c:↥((x==("__debug__":ρ))=ν)):π (υ X.prog X.w) X.A (eval (.Name x d) X.env) Q E s:=
 Uz I.ok.kind a (Calls.loadGlobal_global (by rw[I.ok.glob];rwa[I.mod.glob.keeps I.bk]) b h) c
def zQ{Q:η->ι->Prop}(I:ax X p j H s)(a:Gl X x)(b:X.mg x=θ)(c:bootBuiltins x=δ u)(h:Q u s)
  (d:↥(x≠"__name__")) (e:↥((x==("__debug__":ρ))=ν)):π (υ X.prog X.w) X.A (eval (.Name x f) X.env) Q E s:=by
 let⟨m,g,i⟩:=I.mod.blt;rwa[Uz I.ok.kind a (Calls.loadGlobal_builtin (by rw[I.ok.glob];rwa[I.mod.glob.keeps I.bk]) b (by rw[I.ok.blt];rwa[g.keeps I.bk]) ((i x d).trans c) h) e]
def Je{v:V}(a:Gl X x)(b:X.mg x=δ u)(r:aK v u)(c:↥((x==("__debug__":ρ))=ν)):PE X (.Name x p) (tC v):=
 λ_ _ _ H _ I h=>qe I a b #[v,H,I,r,h] c
variable {a b:dr}{ta tb:TE}{pos:Pos}
def PC(X:Cx)(o:CmpOp)(a b:dr)(t:TE):Prop:=
 ∀(p:xL (ζ×hG)) (s:ι) (d:St) (H:Hp) (Q:VK),ax X p d H s->t d H Q->
  π (υ X.prog X.w) X.A (eval a X.env) (λv S=>π (υ X.prog X.w) X.A (eval b X.env) (λu c=>π (υ X.prog X.w) X.A (compareOp o v u) (EP X p d Q) X.xe c) X.xe S) X.xe s
def MQ(ta:TE):TE:=λc H Q=>ta c H λx h=>Q (.bl$ decide$ x= .non) h
def aK.none_iff(r:aK x v):(v==Ω)=decide (x= .non):=by
 cases x with
 |non |bl _=>cases r;rfl
 |int _ |str _ |byt _ |flt _=>let⟨t,rfl⟩:=r;rfl
 |ref _ |ty _=>cases r;rfl
def xj{j p}(c:PE X a ta):PC X .Is a (.Constant .none j p) (MQ ta):=by intro P s d H Q I h;erw[a8 (c P s d H _ I h) λv S z=>?_];let⟨x,e,i,r,q⟩:=z;rwa[Constant_none$ is_none_gen #[.bl _,e,i,by rw[r.none_iff];rfl,q]]
inductive Nk(Q:Bool->Hp->Prop)(x:V)(a:Hp):Prop
 |mk(c:_)(_:x= .bl c)(_:Q c a)
def tB(t:TE):TT:=λc H Q=>t c H (Nk Q)
def YR(h:PC X o a b t)(e:behindInMarks o b=ν:=by first |exact n _ NP NP |rfl):PT X (.Compare a [o] [b] pos) (tB t):=by intro p s f H Q I g;erw[VM (a8 (h p s f H _ I g) λv S e=>a8 e λu m i=>a8 i λc w z=>?_) e];let⟨x,j,k,r,l⟩:=z;let⟨d,rfl,q⟩:=l;cases r;rwa[Tp #[j,k,q]]
variable {tA tB':TT}{rest:xL dr}
def ML(t u:TT):TT:=λd H Q=>t d H λc h=>if c=μ then u d h Q else Q ν h
def NA(t u:TT):TT:=λd H Q=>t d H λc h=>if c=μ then Q μ h else u d h Q
def zN(d:PT X a tA):PW X (.BoolOp .And [a] pos) tA:=by
 intro w p s f H Q I h;erw[isTrue_and$ a8 (d p s f H Q I h) λc S e=>?_];cases c with
 |true=>rwa[isTrue_and_nil e]
 |false=>rwa[e]
def JI(d:PT X a tA):PW X (.BoolOp .Or [a] pos) tA:=by
 intro w p s f H Q I h;erw[isTrue_or$ a8 (d p s f H Q I h) λc S e=>?_];cases c with
 |false=>rwa[isTrue_or_nil e]
 |true=>rwa[e]
def qv(f:PT X a tA)(g:PW X (.BoolOp .And (b::rest) pos) tB'):PW X (.BoolOp .And (a::b::rest) pos) (ML tA tB'):=by
 intro w p s d H Q I h;erw[isTrue_and$ a8 (f p s d H _ I h) λc S z=>?_];let⟨e,i,q⟩:=z;cases c with
 |true=>rwa[g w p S d e Q i q]
 |false=>exact#[e,i,q]
def QL(f:PT X a tA)(g:PW X (.BoolOp .Or (b::rest) pos) tB'):PW X (.BoolOp .Or (a::b::rest) pos) (NA tA tB'):=by
 intro w p s d H Q I h;erw[isTrue_or$ a8 (f p s d H _ I h) λc S z=>?_];let⟨e,i,q⟩:=z;cases c with
 |true=>exact#[e,i,q]
 |false=>rwa[g w p S d e Q i q]
inductive yA(b:TE)(d:St)(Q:VK)(x:V)(a:Hp):Prop
 |mk(c:_)(_:x= .bl c)(_:if c=μ then b d a Q else Q (.bl ν) a)
def Ll(ta tb:TE):TE:=λc H Q=>ta c H (yA tb c Q)
def FE(h:PE X a t):PE X (.BoolOp o [a] pos) t:=λp s c H Q I d=>BoolOp_one (h p s c H Q I d)
def Fx(f:PE X a ta)(g:PE X (.BoolOp .And (b::rest) pos) tb):PE X (.BoolOp .And (a::b::rest) pos) (Ll ta tb):=by
 intro p s d H Q I h;erw[BoolOp_and$ a8 (f p s d H _ I h) λv S z=>?_];let⟨x,e,i,r,q⟩:=z;let⟨c,rfl,q⟩:=q;cases r;erw[Tp ?_];cases c with
 |true=>rwa[g p S d e Q i q]
 |false=>exact#[.bl ν,e,i,Z,q]
def Nz(t:TT)(ta tb:TE):TE:=λd H Q=>t d H λc h=>if c=μ then ta d h Q else tb d h Q
def kL(g:PT X c tA)(j:PE X a ta)(k:PE X b tb):PE X (.IfExp c a b pos) (Nz tA ta tb):=by
 intro p s e H Q I h;erw[wpAny_IfExp$ a8 (g p s e H _ I h) λd S z=>?_];let⟨f,i,q⟩:=z;cases d with
 |true=>rwa[j p S e f Q i q]
 |false=>rwa[k p S e f Q i q]
end
def aL(K:β)(H:Hp)(a:ζ)(x:xL V):Prop:=
 Rd H a (.lst x)∨
  ∃(o:hG) (i:Array η) (n:Nat),K.lookup a=δ o/\o.cls= .type "list"/\o.dict=θ/\o.data= .seq i n/\i.size<=τ/\aG x i.toList
def aF(K:β)(H:Hp)(a:ζ)(x:xL V):Prop:=
 Rd H a (.tup x)∨
  ∃(o:hG) (i:Array η) (n:Nat),K.lookup a=δ o/\o.cls= .type "tuple"/\o.data= .seq i n/\i.size<=τ/\aG x i.toList
def Mj:η->ym V
 | .none=>δ .non
 | .bool b=>δ (.bl b)
 | .int i _=>δ (.int i)
 | .str x _=>δ (.str x)
 | .bytes b _=>δ (.byt b)
 | .float b _=>δ (.flt b)
 | .ref a=>↑a
 | .type n=>δ (.ty n)
 |_=>θ
def aK.abs(r:aK x u):Mj u=δ x:=by
 cases x with
 |non |bl _=>cases r;rfl
 |int _ |str _ |byt _ |flt _=>let⟨t,rfl⟩:=r;rfl
 |ref _ |ty _=>cases r;rfl
def aK.inj{x:V}(r:aK x u)(q:aK y u):x=y:=Po (r.abs.symm.trans q.abs)
theorem aG.inj{x y:xL V}{u:xL η}(h:aG x u)(k:aG y u):x=y:=by
 induction h generalizing y with
 |nil=>cases k;rfl
 |cons r _ f=>cases k with
  |cons R T=>rw[r.inj R,f T]
section
variable {X:Cx}{pins:xL (ζ×hG)}{σ:St}{H:Hp}{s:ι}{a:ζ}{xs ys:xL V}
def aL.of{K:β}(h:H a=δ (.lst xs)):aL K H a xs:=.inl (.inl h)
def aF.of{K:β}(h:H a=δ (.tup xs)):aF K H a xs:=.inl (.inl h)
def ax.list(I:ax X pins σ H s)(h:aL X.K H a xs):∃i:xL η,aG xs i/\PlainL s.heap a i.toArray/\ο xs<=τ:=by
 rcases h with h | ⟨o,i,n,b,c,d,f,g,r⟩
 .let⟨z,i,n,r,e⟩:=h.ok I.hok;exact#[i,r,#[_,n,e,Z,Z,Z],z]
 .erw[#[i.toList,r,#[o,n,I.kIn a o b,c,d,by simpa using f],?_]];let e:=r.length;simp only[OT]at e;omega
def ax.tuple(I:ax X pins σ H s)(h:aF X.K H a xs):∃i:xL η,aG xs i/\IsTup s.heap a i.toArray/\ο xs<=τ:=by
 rcases h with h | ⟨o,i,n,b,c,d,f,r⟩
 .let⟨z,i,r,p⟩:=h.ok I.hok;exact#[i,r,p,z]
 .erw[#[i.toList,r,#[o,I.kIn a o b,c,n,by simpa using d],?_]];let e:=r.length;simp only[OT]at e;omega
def ax.list_inj(I:ax X pins σ H s)(h:aL X.K H a xs)(c:aL X.K H a ys):xs=ys:=by
 obtain⟨b,r,⟨o,n,e,_,_,d⟩,_⟩:=I.list h;obtain⟨i,R,⟨O,N,E,_,_,D⟩,_⟩:=I.list c;rw[e]at E;cases E;rw[d]at D;injection D with f _;let:b=i:=by simpa using PL mU f
 subst this;rwa[r.inj R]
def ax.tuple_inj(I:ax X pins σ H s)(h:aF X.K H a xs)(c:aF X.K H a ys):xs=ys:=by
 obtain⟨b,r,⟨o,e,_,n,d⟩,_⟩:=I.tuple h;obtain⟨i,R,⟨O,E,_,N,D⟩,_⟩:=I.tuple c;rw[e]at E;cases E;rw[d]at D;injection D with f _;let:b=i:=by simpa using PL mU f
 subst this;rwa[r.inj R]
end
abbrev Cx.wish(X:Cx)(E:η->ι->Prop):Cx:={ X with xe:=E }
abbrev Cx.nox(X:Cx):Cx:=X.wish λ_ _=>False
def Cx.Ok.wish{X:Cx}(o:X.Ok)(E:η->ι->Prop):(X.wish E).Ok:=
 #[o.mod,o.kind,o.glob,o.blt,o.above,o.inj,o.has,o.cab,o.hd,o.frames,o.stk,o.exf,o.bs,o.bsz,o.noex,o.exfs,o.funs,o.frf]
def Cx.Ok.unwish{X:Cx}(o:(X.wish E).Ok):X.Ok:=
 #[o.mod,o.kind,o.glob,o.blt,o.above,o.inj,o.has,o.cab,o.hd,o.frames,o.stk,o.exf,o.bs,o.bsz,o.noex,o.exfs,o.funs,o.frf]
section
variable {X:Cx}{pins:xL (ζ×hG)}{σ:St}{H:Hp}{s:ι}{E:η->ι->Prop}
def ax.wish(I:ax X pins σ H s)(E:η->ι->Prop):ax (X.wish E) pins σ H s:=#[I.ok.wish E,I.os,I.bare,I.base,I.loc,I.cell,I.free,I.freeC,I.pin,I.hok,I.len]
def ax.unwish(I:ax (X.wish E) pins σ H s):ax X pins σ H s:=#[I.ok.unwish,I.os,I.bare,I.base,I.loc,I.cell,I.free,I.freeC,I.pin,I.hok,I.len]
def SP.unwish(h:SP (X.wish E) pins D f c):SP X pins D f c:=by
 cases f with
 |next |brk |cont=>let⟨a,b,I,q⟩:=h;exact#[a,b,I.unwish,q]
 |ret u=>let⟨v,a,b,I,r,q⟩:=h;exact#[v,a,b,I.unwish,r,q]
def nG.nox{st:xL bU}(h:nG X.nox st t):nG X st t:=λpins s σ H D I a=>
 Px (h pins s σ H D (I.wish _) a) (λ_ _ q=>q.unwish) λ_ _ z=>False.elim z
end
section
variable {X:Cx}{st:bU}{rest:xL bU}{t u:TS}{e:dr}{te:TE}{pos:Pos}
def yH:TS:=λD a H=>D.nx a H
def fh(t u:TS):TS:=λD a H=>t { D with nx:=u D } a H
def jp:nG X [] yH:=λ_ _ a H _ I h=>Sm #[a,H,I,h]
def jd(b:PS X st t)(c:nG X rest u):nG X (st::rest) (fh t u):=by
 intro p s d H D I h;erw[UG$ a8 (b p s d H { D with nx:=u D } I h) λf S q=>?_];cases f with
 |next=>let⟨a,g,i,q⟩:=q;rwa[c p S a g D i q]
 |ret v |brk |cont=>rwa[q]
def jg(a:PS X st t):nG X [st] t:=by
 intro p s b H D I h;erw[UG$ a8 (a p s b H D I h) λf S q=>?_];cases f with
 |next=>rwa[Sm q]
 |ret v |brk |cont=>rwa[q]
def ax.quiet(I:ax X p a H s):interactive X.env=ν:=by simp [interactive,I.ok.kind]
def sh(te:TE):TS:=λD a H=>te a H λ_ h=>D.nx a h
def jN(b:PE X e te)(c:↥(swapsWith e θ pos.line X.env=pure ν)):PS X (.Expr e pos) (sh te):=by intro p s a H D I h;rwa[wpAny_Expr_any (a8 (b p s a H _ I h) λv S #[x,d,i,r,q]=>#[a,d,i,q]) I.quiet c]
def iy(te:TE):TS:=λD a H=>te a H D.rt
def jo(b:PE X e te):PS X (.Return (δ e) pos) (iy te):=by intro p s a H D I h;rwa[wpAny_Return_some$ a8 (b p s a H _ I h) λv S #[x,c,i,r,q]=>#[x,a,c,i,r,q]]
def lQ(c:TT)(t u:TS):TS:=λD a H=>c a H λb h=>if b=μ then t D a h else u D a h
def jy{c:dr}{a b:xL bU}{T:TT}(j:PT X c T)(k:nG X a t)(l:nG X b u):PS X (.If c a b pos) (lQ T t u):=by
 intro p s f H D I h;erw[wpAny_If$ a8 (j p s f H _ I h) λd S z=>?_];let⟨g,i,q⟩:=z;cases d with
 |true=>rwa[k p S f g D i q]
 |false=>rwa[l p S f g D i q]
end
abbrev TG:=V->St->Hp->(St->Hp->Prop)->Prop
abbrev Ap:=xL V->St->Hp->(St->Hp->Prop)->Prop
def PG(X:Cx)(T:dr)(t:TG):Prop:=
 ∀(p:xL (ζ×hG)) (s:ι) (b:St) (H:Hp) (v:V) (u:η) (Q:St->Hp->Prop),ax X p b H s->aK v u->t v b H Q->
  π (υ X.prog X.w) X.A (assign T X.env u) (λ_ S=>∃a h,ax X p a h S/\Q a h) X.xe s
def GV(X:Cx)(T:xL dr)(t:Ap):Prop:=
 ∀(p:xL (ζ×hG)) (s:ι) (b:St) (H:Hp) (v:xL V) (u:xL η) (Q:St->Hp->Prop),ax X p b H s->aG v u->t v b H Q->
  π (υ X.prog X.w) X.A (assignInOrder ((assignEach T X.env).map (·.2)) u) (λ_ S=>∃a h,ax X p a h S/\Q a h) X.xe s
abbrev DM:=V->V->V->Hp->(Hp->Prop)->Prop
def Hm(X:Cx)(t:DM):Prop:=
 ∀(p:xL (ζ×hG)) (s:ι) (a:St) (H:Hp) (o i v:V) (O I u:η) (Q:Hp->Prop),ax X p a H s->aK o O->aK i I->aK v u->t o i v H Q->
  π (υ X.prog X.w) X.A (setItem O I u) (λ_ S=>∃h,ax X p a h S/\Q h) X.xe s
abbrev Me:=V->V->Hp->VK->Prop
def M5(X:Cx)(o:Operator)(t:Me):Prop:=
 ∀(p:xL (ζ×hG)) (s:ι) (a:St) (H:Hp) (x y:V) (v u:η) (Q:VK),ax X p a H s->aK x v->aK y u->t x y H Q->
  π (υ X.prog X.w) X.A (inplaceOp o v u) (EP X p a Q) X.xe s
section
variable {X:Cx}{pos:Pos}
def bH(i:Nat):TG:=λv a H Q=>Q (a.set i$ δ v) H
def jx{i:Nat}{x:ρ}(a:X.N.Nodup)(b:X.N[i]?=δ x)(c:uT X.env.scope x)(d:autoParam (X.fn x=μ∨X.env.scope.names.lookup x=δ .local) Wx._auto_1):PG X (.Name x pos) (bH i):=by intro p s f H v u Q I r h;rwa[Wm$ zH I a b c r (λS e=>#[_,H,e,h]) d]
def vV:Ap:=λv a H Q=>v=[]/\Q a H
inductive dZ(t:TG)(u:Ap)(a:xL V)(b:St)(H:Hp)(Q:St->Hp->Prop):Prop
 |mk(v r:_)(_:a=v::r)(_:t v b H λσ' H'=>u r σ' H' Q)
def kB:GV X [] vV:=by intro p s a H v u Q I r h;let⟨e,h⟩:=h;subst e;cases r;rwa[assignInOrder_nil #[a,H,I,h]]
def jC(b:PG X e t)(c:GV X E u)
  (d:↥((assignEach (e::E) X.env).map (·.2)=assign e X.env::(assignEach E X.env).map (·.2))):GV X (e::E) (dZ t u):=by
 intro p s f H V U Q I r h;let⟨v,k,g,h⟩:=h;subst g;cases r with
 |cons r R=>rw[d];erw[assignInOrder_cons$ a8 (b p s f H _ _ _ I r h) λ_ S z=>?_];let⟨a,i,j,q⟩:=z;rwa[c p S a i _ _ Q j R q]
inductive sX(K:β)(n:Nat)(t:Ap)(v:V)(c:St)(H:Hp)(Q:St->Hp->Prop):Prop
 |mk(a b:_)(_:v= .ref a)(_:aF K H a b)(_:ο b=n)(_:t b c H Q)
def zR{n:Nat}(g:X.calm=μ)(h:GV X E t)
  (i:↥((assignEach E X.env).length=n)) (c:↥((assignEach E X.env).findIdx? (·.1)=θ)):PG X (.Tuple E k pos) (sX X.K n t):=by
 intro p s f H v u Q I r d;let⟨a,x,j,l,m,d⟩:=d;subst j;cases r;let⟨q,R,w,B⟩:=I.tuple l;erw[assign_Tuple_tuple (I.ok.hd g) w (by simp [i,<- m,R.length]) c λy z=>?_];let A:ax X p f H ‹y›:=I.kept (t':=s.toks) λb o e=>z b o (OH$ Ox e) e;rwa[h p _ f H x _ Q A (R:) d]
def Ee(T b:TE)(t:DM):TG:=λv a H Q=>T a H λo h=>b a h λi c=>t o i v c λd=>Q a d
def zS{o i:dr}{T c:TE}{t:DM}(d:PE X o T)(e:PE X i c)(f:Hm X t)
  (g:∀v,assign (.Subscript o i pos) X.env v=(do
   let O <- mB [v] (eval o X.env)
   let a <- mB [v,O] (eval i X.env)
   standAt pos
   mB [v,O,a] (setItem O a v)
   release [v,O,a] []):=by intro _;rfl):PG X (.Subscript o i pos) (Ee T c t):=by
 intro p s b H v u Q I r h;rw[g];erw[Om$ OV$ a8 (d p s b H _ I h) λO S z=>?_];let⟨x,j,k,R,q⟩:=z;erw[Om$ OV$ a8 (e p S b j _ k q) λa l z=>?_];let⟨y,m,n,w,A⟩:=z;erw[Om$ RU$ Om$ OV$ a8 (f p l b m x y v O a u _ n R w r A) λ_ E z=>?_];let⟨B,C,D⟩:=z;rwa[wpAny_release #[b,B,C,D]]
def eP(t:TE)(g:TG):TS:=λD a H=>t a H λx h=>g x a h D.nx
def kS{t e:dr}{T:TE}{g:TG}(b:PE X e T)(c:PG X t g)(d:↥(swapsWithSole [t] e pos.line X.env=pure ν))(f:↥(swappedStores [t] e X.env=pure θ))
  (i:↥((assignEach [t] X.env).map (·.2)=[assign t X.env])):PS X (.Assign [t] e pos) (eP T g):=by
 intro p s a H D I h;erw[wpAny_Assign_stores (a8 (b p s a H _ I h) λv S z=>?_) d f];let⟨x,j,k,r,Q⟩:=z;rw[i];rwa[a8 (c p S a j x v _ k r Q) λ_ l q=>q]
def kU{i:Nat}{x:ρ}{e:dr}{t:TE}{p:Pos}(a:X.N.Nodup)(b:X.N[i]?=δ x)(c:uT X.env.scope x)(d:PE X e t)(f:↥(swapsWith e (δ$ .Name x p) pos.line X.env=pure ν))(g:autoParam (X.fn x=μ∨X.env.scope.names.lookup x=δ .local) Wx._auto_1):
  PS X (.Assign [.Name x p] e pos) (eP t$ bH i):=by
 intro P s j H D I h;erw[Wn (a8 (d P s j H _ I h) λv S z=>?_) f];let⟨y,k,l,r,q⟩:=z;rwa[zH l a b c r (λn m=>#[_,k,m,q]) g]
inductive Lm(i:Nat)(a:TE)(b:Me)(D:bp)(c:St)(H:Hp):Prop
 |mk(x:_)(_:c[i]?=δ (δ x))(_:a c H λy H1=>b x y H1 λz H2=>D.nx (c.set i (δ z)) H2)
def FG{i:Nat}(q:X.N.Nodup)(g:X.N[i]?=δ x)(f:uT X.env.scope x)(t:PE X e T)(B:M5 X o C)(E:autoParam (X.fn x=μ∨X.env.scope.names.lookup x=δ .local) Wx._auto_1):
  PS X (.AugAssign (.Name x j) o e pos) (Lm i T C):=by
 intro p s n H D I h;let⟨v,F,h⟩:=h;let⟨m,J,K⟩:=I.loc;let V:LK X.env.scope x:=by rcases f with k |k;rwa[.inl k];rwa[.inr$ .inl k]
 let⟨u,r,l⟩:=K i x v g F V;erw[wpAny_AugAssign_Name ?_];let G:π (υ X.prog X.w) X.A (eval e X.env) (λw S=>π (υ X.prog X.w) X.A (inplaceOp o u w) (λr d=>π (υ X.prog X.w) X.A (storeName X.env x r) (λ_=>SP X p D .next) X.xe d) X.xe S) X.xe s:=by erw[a8 (t p s n H _ I h) λw L a=>?_];let⟨y,M,O,R,Q⟩:=a;erw[a8 (B p L n M v y u w _ O r R Q) λz s2 a=>?_];let⟨zv,P,U,W,Y⟩:=a;rwa[zH U q g f W (λs3 I3=>#[_,P,I3,Y]) E]
 rcases l with ⟨hk,hm⟩ | ⟨hk,c,hc,b⟩
 .rwa[VS I.ok.kind hk J hm G]
 .rcases hk with hk |hk
  .rwa[V3 I.ok.kind hk hc b G]
  .rcases f with k |k
   .let:X.env.scope.names.lookup x=δ .free:=hk;rw[k]at this;cases this
   .let:X.env.scope.names.lookup x=δ .free:=hk;rw[k]at this;cases this
inductive Nc(f:Int->Int->Int)(x y:V)(H:Hp)(Q:VK):Prop
 |mk(i j:_)(_:x= .int i)(_:y= .int j)(_:Q (.int (f i j)) H)
def Ej:M5 X .Add (Nc λi j=>i+j):=by intro p s a H x y v u Q I r R h;let⟨i,j,e,E,q⟩:=h;subst e;subst E;let⟨t,rfl⟩:=r;let⟨T,rfl⟩:=R;rwa[iadd_int #[.int _,H,I.tok _,#[_,Z],q]]
end
section
variable {X:Cx}{pos:Pos}
def yL(c:TT)(t:TS):TS:=λD a H=>∃W:Nat->St->Hp->Prop,(∃m,W m a H)/\∀m a H,W m a H->
 c a H λb h=>if b=μ then ∃N:St->Hp->Prop,(∀d e,N d e->∃M,M < m/\W M d e)/\t { D with nx:=N,ct:=N,bk:=D.nx } a h else D.nx a h
def Jq(o:PassesOwn (υ X.prog X.w) X.A X.env X.xe)(E:PT X c T)(F:nG X B G):PS X (.While c B [] pos) (yL T G):=by
 intro p s J H D I h;obtain⟨W,⟨M,K⟩,t⟩:=h;erw[wpAny_While$ codeAny_whileLoop (λn S=>∃e r,ax X p e r S/\W n e r) ?_ M #[J,H,I,K]];rintro n L ⟨d,u,O,P⟩;erw[RT o$ a8 (E p L d u _ O$ t n d u P) λb R z=>?_];let⟨x,y,q⟩:=z;cases b with
 |true=>
  let⟨N,C,q⟩:=q;rw[OB Z];erw[RT o$ a8 (F p R d x _ y q) λf U Q=>?_];cases f with
  |next |cont=>let⟨a,g,i,j⟩:=Q;let⟨m,k,l⟩:=C a g j;exact#[m,k,a,g,i,l]
  |brk |ret v=>rwa[Q]
 |false=>rw[OD OG];rwa[Sm #[d,x,y,q]]
end
structure It where
 go:Nat->Hp->Prop
 yld:Nat->Hp->V->Hp->Prop
 stop:Nat->Hp->Prop
def gY(X:Cx)(P:xL (ζ×hG))(H:Hp)(b:ζ):Prop:=
 H b=θ/\b≠X.env.locals/\b∉X.fs/\(b∈X.ex∨X.s₀.heap.objs.size<=b)/\(∀x c,X.env.cells.lookup x=δ c->c≠b)/\∀p∈X.pn++P,p.1≠b
def ax.fpOk{X:Cx}{d:Hp}(I:ax X a i H s)(h:-s<=b)(f:d b=θ):gY X a d b:=by
 erw[#[f,Pq$ OM I.lt h,I.nofs h,.inr$ OK I.sz h,λx c e z=>?_,λp g z=>?_]]
 .let⟨v,q⟩:=I.cell x c e;rwa[absurd (OM q.lt (by rw[z];rwa[h]))$ Pr _]
 .rwa[absurd (OM (Ox (I.pin p g).1) (by rw[z];rwa[h]))$ Pr _]
structure oO(P:ψ)(w:bF)(K:β)(tg:dr)(J:It)(fp:xL ζ)(it:ζ)(tn:Nat->de->Prop):Prop where
 mem:it∈fp
 obj:∀i h,tn i h->∀b∈fp,∃o,h.get? b=δ o/\∀v,o.data≠ .cell v
 keep:∀i h h',tn i h->(∀b∈fp,∀o,h.get? b=δ o->h'.get? b=δ o)->tn i h'
 item:∀(X:Cx),X.prog=P->X.w=w->X.K=K->X.calm=μ->∀(i:Nat) (pins:xL (ζ×hG)) (s:ι) (σ:St) (H:Hp) (E:η->ι->Prop),ax X pins σ H s->(∀b∈fp,gY X pins H b)->tn i s.heap->J.go i H->
  π (υ P w) X.A (pyNext$ .ref it) (λr s1=>∃u,r=δ u/\
   π (υ P w) X.A (letOwnedTupleGo tg (.ref it) u) (λ_ s2=>∃x H',ax X pins σ H' s2/\aK x u/\J.yld i H x H'/\tn (i+1) s2.heap/\∀b∈fp,H' b=θ) E s1) E s
 done:∀(X:Cx),X.prog=P->X.w=w->X.K=K->X.calm=μ->∀(i:Nat) (pins:xL (ζ×hG)) (s:ι) (σ:St) (H:Hp) (E:η->ι->Prop),ax X pins σ H s->(∀b∈fp,gY X pins H b)->tn i s.heap->J.stop i H->
  π (υ P w) X.A (pyNext$ .ref it) (λr s1=>r=θ/\ax X pins σ H s1) E s
 self:∀(A:bS) (i:Nat) (s:ι) (Q:η->ι->Prop) (E:η->ι->Prop),tn i s.heap->Q (.ref it) s->π (υ P w) A (pyIter$ .ref it) Q E s
abbrev TI:=St->Hp->(It->Hp->Prop)->Prop
def M4(X:Cx)(p:xL (ζ×hG))(a:St)(T:dr)(R:It->Hp->Prop)(i:η)(s:ι):Prop:=
 ∃(I:ζ) (f:xL ζ) (t:Nat->de->Prop) (J:It) (H:Hp),i= .ref I/\ax X p a H s/\oO X.prog X.w X.K T J f I t/\t 0 s.heap/\(∀b∈f,gY X p H b)/\R J H
def PI(X:Cx)(t iter:dr)(W:TI):Prop:=
 ∀(p:xL (ζ×hG)) (s:ι) (a:St) (H:Hp) (R:It->Hp->Prop),ax X p a H s->W a H R->
  π (υ X.prog X.w) X.A (eval iter X.env) (λv S=>π (υ X.prog X.w) X.A (pyIter v) (M4 X p a t R) X.xe S) X.xe s
def ZF{s : ι}{n : String}{Q : Unit -> ι -> Prop}(a : s.heap.get? i = δ o)(b : o.cls = .type n)(c : o.data = .fields v)
    (d : ["enumerate", "zip", "dict_itemiterator", "dict_reverseitemiterator", "odict_iterator", "itertools.zip_longest", "itertools.pairwise"].contains n = ν) (H : Q () s) : π M A (letOwnedTupleGo t (.ref i) u) Q E s := by
  unfold letOwnedTupleGo;cases t <;> first
    | rwa[Op H]
    | (cases u <;> first
        | rwa[Op H]
        | (refine Om (Wf a ?_)
           rw [b, c];show π M A (if (["enumerate", "zip", "dict_itemiterator", "dict_reverseitemiterator", "odict_iterator", "itertools.zip_longest", "itertools.pairwise"].contains n && v[0]? == δ (rawInt _)) = μ then _ else _) Q E s;rw [OD (by intro h; rw [d, We] at h; cases h)];rwa[Op H]))
def y8(K:β)(a:ζ):It:=
 #[λi H=>∃X x,aL K H a X/\X[i]?=δ x,λi H x h=>h=H/\∀X,aL K H a X->X[i]?=δ x,λi H=>∃X,aL K H a X/\ο X<=i]
def Ai(K:β)(a:ζ):It:=
 #[λi H=>∃X x,aF K H a X/\X[i]?=δ x,λi H x h=>h=H/\∀X,aF K H a X->X[i]?=δ x,λi H=>∃X,aF K H a X/\ο X<=i]
def uS(lo:Int)(n:Nat):It:=#[λi _=>i < n,λi H x h=>h=H/\x= .int (lo+i),λi _=>n<=i]
def uJ{P:ψ}{K:β}(a g:ζ):oO P w K tg (y8 K a) [g] g (λi h=>h.IsListIter g a i) where
 mem:=by simp
 obj:=λi h st b j=>by
  let e:b=g:=by simpa using j
  subst e;let⟨o,e,c,d⟩:=st;exact#[o,e,λv z=>by rw[d]at z;cases z]
 keep:=λi h l st k=>st.at λo e=>k g NN o e
 item:=by intro X q r t L i f s M H E I m st y;subst q r t;let⟨N,x,n,A⟩:=y;let⟨B,R,p,O⟩:=I.list n;let⟨u,Q,T⟩:=R.get A;let⟨F,C,U,D,G,J⟩:=m g NN;erw[Vw st p.isList (x:=u) (Q:) λl S V=>?_];let W:ax X f M H ‹l›:=I.turned (t':=s.toks) (λb o j e=>(V.2 b j).trans e) F C D G J;let⟨o,e,c,d⟩:=id S;exact#[u,Z,ZF (s:=‹l›) e c d NP #[x,H,W,T,#[Z,λys Y=>by rw[I.list_inj Y n];rwa[A]],S,λb j=>(m b j).1]]
 done:=by intro X q r t L i f s M H E I m st y;subst q r t;let⟨N,n,A⟩:=y;let⟨B,R,p,O⟩:=I.list n;let⟨F,C,U,D,G,J⟩:=m g NN;let hl:=R.length;rwa[VL (I.ok.hd L) st p.isList (by simp;omega) λl eb=>#[Z,I.turned (t':=s.toks) (λb o j e=>eb b o j e) F C D G J]]
 self:=λ_ _ _ _ _ st h=>wpAny_pyIter_listiter st h
def Y3{P:ψ}{K:β}(a g:ζ):oO P w K tg (Ai K a) [g] g (λi h=>h.IsTupleIter g a i) where
 mem:=by simp
 obj:=λi h st b j=>by
  let e:b=g:=by simpa using j
  subst e;let⟨o,e,c,d⟩:=st;exact#[o,e,λv z=>by rw[d]at z;cases z]
 keep:=λi h m st k=>st.at λo e=>k g NN o e
 item:=by intro X r t y L i f s M H E I n st A;subst r t y;let⟨N,x,q,B⟩:=A;let⟨l,R,p,O⟩:=I.tuple q;let⟨u,Q,T⟩:=R.get B;let⟨F,C,U,D,G,J⟩:=n g NN;erw[wpAny_pyNext_tuple_item st (show s.heap.IsTuple a l.toArray from p) (x:=u) (Q:) λm S V=>?_];let W:ax X f M H ‹m›:=I.turned (t':=s.toks) (λb o j e=>(V.2 b j).trans e) F C D G J;let⟨o,e,c,d⟩:=id S;exact#[u,Z,ZF (s:=‹m›) e c d NP #[x,H,W,T,#[Z,λys Y=>by rw[I.tuple_inj Y q];rwa[B]],S,λb j=>(n b j).1]]
 done:=by intro X r t y L i f s M H E I n st A;subst r t y;let⟨N,q,B⟩:=A;let⟨l,R,p,O⟩:=I.tuple q;let⟨F,C,U,D,G,J⟩:=n g NN;let hl:=R.length;rwa[wpAny_pyNext_tuple_end (I.ok.hd L) st (show s.heap.IsTuple a l.toArray from p) (by simp;omega) λm eb=>#[Z,I.turned (t':=s.toks) (λb o j e=>eb b o j e) F C D G J]]
 self:=λ_ _ _ _ _ st h=>wpAny_pyIter_tupleiter st h
def Y4{P:ψ}{K:β}(a:ζ)(lo:Int)(n:Nat):oO P w K M (uS lo n) [a] a (λi h=>IsRangeIter h a (lo+(i:Nat)*1) ((n:Int) - (i:Nat)) 1) where
 mem:=by simp
 obj:=λi h st b c=>by
  let e:b=a:=by simpa using c
  subst e;exact#[_,st,λv z=>by
   let B:Data.fields _=Data.cell v:=z;cases B]
 keep:=λi h d st k=>k a NN _ st
 item:=by intro X g j l m i p s A H E I f st q;subst g j l;let⟨F,r,C,u,x,y⟩:=f a NN;let W:=Walks.range (prog:=X.prog) (w:=X.w) (I.ok.hd m) a lo 1 n;erw[W.item i s _ _ q st λv d T D S G=>?_];let⟨t,rfl⟩:=D;let J:ax X p A H { s with heap:=d,toks:=T }:=I.turned (λb o c e=>G b o (c:) e) F r u x y;erw[#[_,Z,ZF (s:={ s with heap:=d,toks:=T }) (n:="range_iterator") S Z Z NP #[.int$ lo+i,H,J,#[t,?_],#[Z,Z],S,λb c=>(f b c).1]]];rw[Int.mul_one]
 done:=by intro X g j l m i p s A H E I f st q;subst g j l;let⟨F,r,C,u,x,y⟩:=f a NN;rwa[wpAny_pyNext_range_end (I.ok.hd m) st (by let:n<=i:=q;omega) λd L=>#[Z,I.turned (t':=s.toks) (λb o c e=>L b o c e) F r u x y]]
 self:=λ_ _ _ _ _ st h=>wpAny_pyIter_rangeiter st h
section
variable {X:Cx}{tg:dr}
inductive v6(K:β)(R:It->Hp->Prop)(x:V)(b:Hp):Prop
 |mk(a:_)(_:x= .ref a)(_:∃xs,aL K b a xs)(_:R (y8 K a) b)
def Dc(K:β)(t:TE):TI:=λa H R=>t a H (v6 K R)
inductive Dg(K:β)(R:It->Hp->Prop)(x:V)(b:Hp):Prop
 |mk(a:_)(_:x= .ref a)(_:∃xs,aF K b a xs)(_:R (Ai K a) b)
def Mt(K:β)(t:TE):TI:=λa H R=>t a H (Dg K R)
def zr(c:PE X l t):PI X tg l (Dc X.K t):=by
 intro P s d H R I h;erw[a8 (c P s d H _ I h) λv S z=>?_];let⟨x,f,i,r,Q⟩:=z;obtain⟨a,e,⟨m,g⟩,q⟩:=Q;subst e;cases r;let⟨j,n,p,u⟩:=i.list g;erw[Tq p.isList ?_];erw[#[-S,[-S],_,_,f,Z,i.kept (t':=S.toks) λb o e=>Oo _ e,uJ a _,#[_,Oy _ Z,Z,Z],λb k=>?_,q]];let e:b=-S:=by simpa using k
 subst e;rwa[i.fpOk (Ou _)$ i.hok.fresh$ Ou _]
def qw(d:PE X l t):PI X tg l (Mt X.K t):=by
 intro P s f H R I h;erw[a8 (d P s f H _ I h) λv S z=>?_];let⟨x,g,i,r,Q⟩:=z;obtain⟨a,e,⟨m,j⟩,q⟩:=Q;subst e;cases r;let⟨c,n,p,u⟩:=i.tuple j;erw[Sq (show S.heap.IsTuple a c.toArray from p) ?_];erw[#[-S,[-S],_,_,g,Z,i.kept (t':=S.toks) λb o e=>Oo _ e,Y3 a _,#[_,Oy _ Z,Z,Z],λb k=>?_,q]];let e:b=-S:=by simpa using k
 subst e;rwa[i.fpOk (Ou _)$ i.hok.fresh$ Ou _]
def X0{R:It->Hp->Prop}{lo:Int}(I:ax X p a H s)(c: -(2 ^ 62)<=lo)(d:lo < 2 ^ 62)(f: -(2 ^ 62)<=h)(g:h < 2 ^ 62)
  (q:R (uS lo (h - lo).toNat) H):π (υ X.prog X.w) X.A (pyIter$ .ref (-s)) (M4 X p a tg R) E { s with heap:=s.heap.push { cls:=.type "range",data:=.fields (ε [.int lo t,.int h u,.int 1 v]) },toks:=T }:=by
 erw[wpAny_pyIter_range (IsRange.new ..) (small_one c d f g) ?_];let i:ax X p a H { s with heap:=s.heap.push { cls:=.type "range",data:=.fields (ε [.int lo t,.int h u,.int 1 v]) },toks:=T }:=I.kept λb o e=>Oo _ e;refine#[(s.heap.push { cls:=.type "range",data:=.fields (ε [.int lo t,.int h u,.int 1 v]) }).objs.size,[(s.heap.push { cls:=.type "range",data:=.fields (ε [.int lo t,.int h u,.int 1 v]) }).objs.size],_,_,H,Z,
  i.kept (t':=T) λb o e=>Oo _ e,Y4 _ lo (h - lo).toNat,?_,λb j=>?_,q]
 .let k:lo+((0:Nat):Int)*1=lo:=by simp
  let l:(((h - lo).toNat:Nat):Int) - ((0:Nat):Int)=Builtin.Range.rangeSize lo h 1:=by rw[rangeSize_one];split<;>omega
  show IsRangeIter _ _ (lo+((0:Nat):Int)*1) ((((h - lo).toNat:Nat):Int) - ((0:Nat):Int)) 1;rw[k,l];rwa[Oy _ Z]
 .let e:b=(s.heap.push { cls:=.type "range",data:=.fields (ε [.int lo t,.int h u,.int 1 v]) }).objs.size:=by simpa using j
  subst e;rwa[i.fpOk (Ou _)$ i.hok.fresh$ Ou _]
inductive wb(R:It->Hp->Prop)(b:xL V)(a:Hp):Prop
 |mk(j:Int)(_:b=[.int j])(_:-(2 ^ 62)<=j)(_:j < 2 ^ 62)(_:R (uS 0 j.toNat) a)
def Ih(t:TA):TI:=λa H R=>t a H (wb R)
inductive wc(R:It->Hp->Prop)(b:xL V)(a:Hp):Prop
 |mk(i j:Int)(_:b=[.int i,.int j])(_:-(2 ^ 62)<=i/\i < 2 ^ 62/\ -(2 ^ 62)<=j/\j < 2 ^ 62)(_:R (uS i (j - i).toNat) a)
def Ii(t:TA):TI:=λa H R=>t a H (wc R)
def zh{a:dr}{T:TA}{p P:Pos}(c:Gl X "range")(d:X.mg "range"=θ)(f:PA X [a] T)(g:↥(Δ [a] X.env=[(ν,eval a X.env)])):PI X tg (.Call (.Name "range" p) [a] [] P) (Ih T):=by
 intro b s i H R I h;erw[Call_$ zQ I c d boot_range$ Pf (a8 (f P b s i H _ I h) λu S z=>?_) g Z];let⟨v,o,k,l,Q⟩:=z;let⟨j,e,Q,m,q⟩:=Q;subst e;cases l with
 |cons r n=>cases n;let⟨t,rfl⟩:=r;rwa[call_range_1$ X0 k NO NO Q m (q:)]
def qL(g:Gl X "range")(k:X.mg "range"=θ)(l:PA X [a,b] T)(m:↥(Δ [a,b] X.env=[(ν,eval a X.env),(ν,eval b X.env)]))(c:↥(Δ [b] X.env=[(ν,eval b X.env)])):
  PI X tg (.Call (.Name "range" p) [a,b] [] d) (Ii T):=by
 intro P s n H R I h;erw[Call_$ zQ I g k boot_range$ Pf (a8 (l d P s n H _ I h) λU S #[V,z,o,u,Q]=>?_) (by rw[m,c]) (by rw[c];rfl)];obtain⟨i,j,e,⟨Q,v,w,x⟩,q⟩:=Q;subst e;cases u with
 |cons r f=>
  cases f with
  |cons y f=>cases f;let⟨t,rfl⟩:=r;let⟨A,rfl⟩:=y;rwa[call_range_2$ X0 o Q v w x q]
def Gu(w:TI)(g:TG)(t:TS):TS:=λD a H=>w a H λJ d=>∃W:Nat->Nat->St->Hp->Prop,(∃m,W 0 m a d)/\∀i m a H,W i m a H->
 (J.stop i H/\D.nx a H)∨(J.go i H/\∃N:St->Hp->Prop,(∀b h,N b h->∃M,M < m/\W (i+1) M b h)/\∀x h,J.yld i H x h->g x a h λc e=>t { D with nx:=N,ct:=N,bk:=D.nx } c e)
def my(f:xL ζ)(h:de):xL (ζ×hG):=f.filterMap λb=>(h.get? b).map λo=>(b,o)
def zi{h:de}(H:b∈f)(e:h.get? b=δ o):(b,o)∈my f h:=List.mem_filterMap.mpr #[b,H,by rw[e];rfl]
def tQ(H:p∈my f h):p.1∈f/\h.get? p.1=δ p.2:=by
 let⟨b,a,e⟩:=List.mem_filterMap.mp H;cases q:h.get? b with
 |none=>rw[q]at e;cases e
 |some o=>rw[q]at e;let E:(b,o)=p:=Po e;subst E;exact#[a,q]
def ax.pinned(I:ax X a c H s)(g:∀b∈f,gY X a H b)(i:∀b∈f,∃o,s.heap.get? b=δ o/\∀v,o.data≠ .cell v):ax X (a++my f s.heap) c H s:=
 I.pins_of λp j=>(bm.mp j).elim (λz=>I.pin p (OS _ z)) λz=>by let⟨h,e⟩:=tQ z;let⟨F,k,l,_⟩:=g p.1 h;let⟨o,E,d⟩:=i p.1 h;rw[e]at E;cases E;exact#[e,F,k,l,d]
def ax.unpinned(I:ax X (a++c) b H s):ax X a b H s:=I.pins_of λp h=>I.pin p (OS _$ P0 _ h)
def km{iter:dr}{B:xL bU}{wi:TI}{g:TG}{tb:TS}{P:Pos}(C:PassesOwn (υ X.prog X.w) X.A X.env X.xe)(hc:X.calm=μ)(hi:PI X tg iter wi)(hg:PG X tg g)(c:nG X B tb)
  (hs:∀x,foldedSetIterable iter X.env x=pure x:=by intro _;rfl):PS X (.For tg iter B [] P) (Gu wi g tb):=by
 intro p s σ H D I h;erw[wpAny_For (a8 (hi p s σ H _ I h) λv s1 h1=>a8 h1 λi0 s2 h2=>?_) hs];obtain⟨it,F,tn,J,H2,e,I2,T,O,f2,W,⟨m0,w0⟩,E⟩:=h2;subst e;let S:∀{t:Hp},(∀b∈F,t b=θ)->∀b∈F,gY X p t b:=λhn b c=>#[hn b c,(f2 b c).2];erw[codeAny_forLoop_any (λn s'=>∃i j t,ax X p j t s'/\tn i s'.heap/\(∀b∈F,t b=θ)/\W i n j t) ?_ m0 #[0,σ,H2,I2,O,λb c=>(f2 b c).1,w0]];rintro n s3 ⟨i,k,M,I3,G,K,w3⟩;rcases E i n k M w3 with ⟨stop,qn⟩ | ⟨go,N,hN,step⟩
 .erw[RT C$ a8 (T.done X Z Z Z hc i p s3 k M X.xe I3 (S K) G stop) λr s4 z=>?_];let⟨R,I4⟩:=z;subst R;rwa[Sm #[k,M,I4,qn]]
 .erw[RT C$ a8 (T.item X Z Z Z hc i p s3 k M X.xe I3 (S K) G go) λr s4 z=>?_];let⟨u,R,h4⟩:=z;subst R;erw[RT C$ a8 h4 λ_ s5 z=>?_];let⟨x,H5,I5,r5,y5,y,U⟩:=z;let V:=I5.pinned (S U) (T.obj _ _ y);erw[RT C$ a8 (hg _ s5 k H5 x u _ V r5$ step x H5 y5) λ_ s6 z=>?_];let⟨Y,H6,I6,q6⟩:=z;erw[RT C$ a8 (c _ s6 Y H6 _ I6 q6) λf s7 Q=>?_];let again:∀{a:St} {l:Hp},ax X (p++my F s5.heap) a l s7->N a l->∃m,m < n/\∃i j t,ax X p j t s7/\tn i s7.heap/\(∀b∈F,t b=θ)/\W i m j t:=λ{a l} q L=>by let⟨m',hm,w7⟩:=hN a l L;erw[#[m',hm,i+1,a,l,q.unpinned,T.keep _ _ _ y λb c o e=>(q.pin (b,o)$ OS _$ OS _$ zi c e).1,λb c=>?_,w7]];let⟨o,e,d⟩:=T.obj _ _ y b c;exact(q.pin (b,o)$ OS _$ OS _$ zi c e).2.1
  cases f with
  |next |cont=>let⟨a,l,q,L⟩:=Q;rwa[again q L]
  |brk=>let⟨a,l,q,Q⟩:=Q;exact#[a,l,q.unpinned,Q]
  |ret v=>let⟨x7,a,l,q,r7,Q⟩:=Q;exact#[x7,a,l,q.unpinned,r7,Q]
end
def vP{K:β}{a:ζ}{X:xL V}{g:TG}{t:TS}{D:bp}{b:St}{H:Hp}(Pv:Nat->St->Hp->Prop)(k:Pv 0 b H)(l:∀i b H,i<=ο X->Pv i b H->aL K H a X)
  (n:∀i x b H,X[i]?=δ x->Pv i b H->g x b H λc j=>t { D with nx:=Pv (i+1),ct:=Pv (i+1),bk:=D.nx } c j) (o:∀b H,Pv X.length b H->D.nx b H):
  ∃W:Nat->Nat->St->Hp->Prop,(∃m,W 0 m b H)/\∀i m b H,W i m b H->
   ((y8 K a).stop i H/\D.nx b H)∨((y8 K a).go i H/\∃N:St->Hp->Prop,(∀d h,N d h->∃M,M < m/\W (i+1) M d h)/\∀x h,(y8 K a).yld i H x h->g x b h λc j=>t { D with nx:=N,ct:=N,bk:=D.nx } c j):=by
 erw[#[λi m b H=>m=ο X - i/\i<=ο X/\Pv i b H,#[X.length,NN,OA _,k],?_]];rintro i m b H ⟨rfl,r,p⟩;let q:=l i b H r p;by_cases f:i < ο X
 .erw[.inr #[#[X,X[i],q,by simp [f]],Pv$ i+1,λd h P=>#[ο X - (i+1),N09,Z,f,P],λx h y=>?_]];let⟨e,y⟩:=y;subst e;rwa[n i x b _ (y X q) p]
 .let e:i=ο X:=by omega
  subst e;rwa[.inl #[#[X,q,Ou _],o b H p]]
def AN{K:β}{a:ζ}{X:xL V}{g:TG}{t:TS}{D:bp}{b:St}{H:Hp}(Pv:Nat->St->Hp->Prop)(k:Pv 0 b H)(l:∀i b H,i<=ο X->Pv i b H->aF K H a X)
  (n:∀i x b H,X[i]?=δ x->Pv i b H->g x b H λc j=>t { D with nx:=Pv (i+1),ct:=Pv (i+1),bk:=D.nx } c j) (o:∀b H,Pv X.length b H->D.nx b H):
  ∃W:Nat->Nat->St->Hp->Prop,(∃m,W 0 m b H)/\∀i m b H,W i m b H->
   ((Ai K a).stop i H/\D.nx b H)∨((Ai K a).go i H/\∃N:St->Hp->Prop,(∀d h,N d h->∃M,M < m/\W (i+1) M d h)/\∀x h,(Ai K a).yld i H x h->g x b h λc j=>t { D with nx:=N,ct:=N,bk:=D.nx } c j):=by
 erw[#[λi m b H=>m=ο X - i/\i<=ο X/\Pv i b H,#[X.length,NN,OA _,k],?_]];rintro i m b H ⟨rfl,r,p⟩;let q:=l i b H r p;by_cases f:i < ο X
 .erw[.inr #[#[X,X[i],q,by simp [f]],Pv$ i+1,λd h P=>#[ο X - (i+1),NO,Z,f,P],λx h y=>?_]];let⟨e,y⟩:=y;subst e;rwa[n i x b _ (y X q) p]
 .let e:i=ο X:=by omega
  subst e;rwa[.inl #[#[X,q,Ou _],o b H p]]
def QT{lo:Int}{n:Nat}{g:TG}{t:TS}{D:bp}{a:St}{H:Hp}(Pv:Nat->St->Hp->Prop)(j:Pv 0 a H)
  (k:∀i a H,i < n->Pv i a H->g (.int$ lo+i) a H λb f=>t { D with nx:=Pv (i+1),ct:=Pv (i+1),bk:=D.nx } b f) (l:∀a H,Pv n a H->D.nx a H):
  ∃W:Nat->Nat->St->Hp->Prop,(∃m,W 0 m a H)/\∀i m a H,W i m a H->
   ((uS lo n).stop i H/\D.nx a H)∨((uS lo n).go i H/\∃N:St->Hp->Prop,(∀c h,N c h->∃M,M < m/\W (i+1) M c h)/\∀x h,(uS lo n).yld i H x h->g x a h λb f=>t { D with nx:=N,ct:=N,bk:=D.nx } b f):=by
 erw[#[λi m a H=>m=n - i/\i<=n/\Pv i a H,#[n,NN,OA _,j],?_]];rintro i m a H ⟨rfl,o,p⟩;by_cases d:i < n
 .erw[.inr #[d,Pv$ i+1,λc h P=>#[n - (i+1),N09,Z,d,P],λx h y=>?_]];let⟨e,y⟩:=y;subst e y;rwa[k i a _ d p]
 .let e:i=n:=by omega
  subst e;rwa[.inl #[Ou _,l a H p]]
abbrev R2:=V->V->Hp->VK->Prop
def fq(X:Cx)(f:η->η->Sem η)(r:R2):Prop:=
 ∀(p:xL (ζ×hG)) (s:ι) (a:St) (H:Hp) (x y:V) (v u:η) (Q:VK),ax X p a H s->aK x v->aK y u->r x y H Q->
  π (υ X.prog X.w) X.A (f v u) (EP X p a Q) X.xe s
def Mh(X:Cx)(f:η->Sem η)(r:V->Hp->VK->Prop):Prop:=
 ∀(p:xL (ζ×hG)) (s:ι) (a:St) (H:Hp) (x:V) (v:η) (Q:VK),ax X p a H s->aK x v->r x H Q->
  π (υ X.prog X.w) X.A (f v) (EP X p a Q) X.xe s
def fo(X:Cx)(f:η)(r:xL V->Hp->VK->Prop):Prop:=
 ∀(p:xL (ζ×hG)) (s:ι) (a:St) (H:Hp) (x:xL V) (u:xL η) (Q:VK),ax X p a H s->aG x u->r x H Q->
  π (υ X.prog X.w) X.A (call f u) (EP X p a Q) X.xe s
def Mg(X:Cx)(r:V->Hp->(Bool->Hp->Prop)->Prop):Prop:=
 ∀(p:xL (ζ×hG)) (s:ι) (a:St) (H:Hp) (x:V) (v:η) (Q:Bool->Hp->Prop),ax X p a H s->aK x v->r x H Q->
  π (υ X.prog X.w) X.A (truthy v) (TP X p a Q) X.xe s
def fc(r:R2)(t T:TE):TE:=λa H Q=>t a H λx h=>T a h λy b=>r x y b Q
def NB(r:V->Hp->VK->Prop)(t:TE):TE:=λa H Q=>t a H λx h=>r x h Q
inductive rI(C:Int->Int->Prop)(g:Int->Int->V)(x y:V)(H:Hp)(Q:VK):Prop
 |mk(i j:_)(_:x= .int i)(_:y= .int j)(_:C i j)(_:Q (g i j) H)
inductive Ad(g:Int->Int->V)(x y:V)(H:Hp)(Q:VK):Prop
 |mk(i j:_)(_:x= .int i)(_:y= .int j)(_:Q (g i j) H)
inductive rU(g:Int->V)(x:V)(H:Hp)(Q:VK):Prop
 |mk(i:_)(_:x= .int i)(_:Q (g i) H)
section
variable {X:Cx}{a b c:dr}{ta tb tc:TE}{pos:Pos}
def DU(k:PE X a ta)(l:PE X b tb){R:V->V->Hp->Prop}(I:ax X p e H s)
  (h:ta e H λx j=>tb e j λy d=>R x y d)  {f:η->η->Sem η}
  (m:∀v u i x y d,ax X p e d i->aK x v->aK y u->R x y d->π (υ X.prog X.w) X.A (f v u) Q X.xe i):
  π (υ X.prog X.w) X.A (eval a X.env) (λv S=>π (υ X.prog X.w) X.A (eval b X.env) (λu g=>π (υ X.prog X.w) X.A (f v u) Q X.xe g) X.xe S) X.xe s:=by
 erw[a8 (k p s e H _ I h) λv n z=>?_];let⟨x,j,o,r,q⟩:=z;erw[a8 (l p n e j _ o q) λu i z=>?_];let⟨y,d,t,B,C⟩:=z;rwa[m v u i x y d t r B C]
def jw{o:Operator}{r:R2}(d:fq X (binaryOp o) r)(e:PE X a ta)(f:PE X b tb):PE X (.BinOp a o b pos) (fc r ta tb):=by intro p s g H Q I h;rwa[wpAny_BinOp$ DU e f I h λv u S x y i j R k q=>d p S g i x y v u Q j R k q]
def xk(e:Mh X (unaryOp o) r)(f:PE X a ta):PE X (.UnaryOp o a pos) (NB r ta):=by intro p s d H Q I h;rwa[UnaryOp_$ a8 (f p s d H _ I h) λv S #[x,g,i,R,q]=>e p S d g x v Q i R q]
def LQ{f:η->η->Sem η}{C:Int->Int->Prop}{g:Int->Int->Int}
  (rule:∀(i j:Int) (t u:Tok) (s:ι) (Q:η->ι->Prop) (E:η->ι->Prop),C i j->Q (.int (g i j) s.toks) { s with toks:=s.toks+1 }->π (υ X.prog X.w) X.A (f (.int i t)$ .int j u) Q E s):
  fq X f (rI C λi j=>.int (g i j)):=by
 intro p s e H x y v u Q I r R h;let⟨i,j,rfl,rfl,d,q⟩:=h;let⟨t,rfl⟩:=r;let⟨T,rfl⟩:=R;rwa[rule i j t T s _ _ d #[.int$ g i j,H,I.tok _,#[_,Z],q]]
def IE{f:η->η->Sem η}{g:Int->Int->Int}
  (rule:∀(i j:Int) (t u:Tok) (s:ι) (Q:η->ι->Prop) (E:η->ι->Prop),Q (.int (g i j) s.toks) { s with toks:=s.toks+1 }->π (υ X.prog X.w) X.A (f (.int i t)$ .int j u) Q E s):
  fq X f (Ad λi j=>.int (g i j)):=by
 intro p s d H x y v u Q I r R h;let⟨i,j,rfl,rfl,q⟩:=h;let⟨t,rfl⟩:=r;let⟨T,rfl⟩:=R;rwa[rule i j t T s _ _ #[.int$ g i j,H,I.tok _,#[_,Z],q]]
def Fi{f:η->η->Sem η}{g:Int->Int->Bool}
  (rule:∀(i j:Int) (t u:Tok) (s:ι) (Q:η->ι->Prop) (E:η->ι->Prop),Q (.bool$ g i j) s->π (υ X.prog X.w) X.A (f (.int i t)$ .int j u) Q E s):
  fq X f (Ad λi j=>.bl (g i j)):=by
 intro p s d H x y v u Q I r R h;let⟨i,j,rfl,rfl,q⟩:=h;let⟨t,rfl⟩:=r;let⟨T,rfl⟩:=R;rwa[rule i j t T s _ _ #[.bl$ g i j,H,I,Z,q]]
def LX(i j:Int):Prop:=0<=j/\j<=1000000/\i.natAbs < 2 ^ 64
def Af(i j:Int):Prop:=(-(2 ^ 64) < i/\i < 2 ^ 64)∨(-(2 ^ 64) < j/\j < 2 ^ 64)
def Af.ok(h:Af i j):IntMulOk i j:=by
 rcases h with ⟨H,d⟩ | ⟨H,d⟩
 .rwa[.of_left$ intBits_le_64 H d]
 .rwa[.of_right$ intBits_le_64 H d]
def jX:fq X (binaryOp .Add) (Ad λi j=>.int (i+j)):=IE λ_ _ _ _ _ _ _ q=>add_int q
def zb:fq X (binaryOp .Sub) (Ad λi j=>.int (i - j)):=IE λ_ _ _ _ _ _ _ q=>sub_int q
def zE:fq X (binaryOp .Mult) (rI Af λi j=>.int (i*j)):=LQ λ_ _ _ _ _ _ _ h q=>mul_int q h.ok
def zg:fq X (binaryOp .Mod) (rI (λ_ j=>0 < j) λi j=>.int (i % j)):=LQ λi j _ _ _ _ _ h q=>by let H:(0:Int) < j:=h;rwa[mod_int' NO (by rw[Int.fmod_eq_emod_of_nonneg i NO];rwa[q])]
def KB:fq X (binaryOp .Pow) (rI LX λi j=>.int (i ^ j.toNat)):=LQ λ_ _ _ _ _ _ _ h q=>pow_int_small h.1 h.2.1 h.2.2 q
def ND{f:η->Sem η}{g:Int->Int}
  (rule:∀(i:Int) (t:Tok) (s:ι) (Q:η->ι->Prop) (E:η->ι->Prop),Q (.int (g i) s.toks) { s with toks:=s.toks+1 }->π (υ X.prog X.w) X.A (f$ .int i t) Q E s):
  Mh X f (rU λi=>.int (g i)):=by
 intro p s d H x v Q I r h;let⟨i,rfl,q⟩:=h;let⟨t,rfl⟩:=r;rwa[rule i t s _ _ #[.int$ g i,H,I.tok _,#[_,Z],q]]
def YS:Mh X (unaryOp .USub) (rU λi=>.int (Neg.neg i)):=ND λ_ _ _ _ _ q=>neg_int q
end
def La:V->V->Bool
 | .non,.non=>μ | .non,.int _=>μ | .int _,.non=>μ | .non,.bl _=>μ | .bl _,.non=>μ | .non,.str _=>μ | .str _,.non=>μ
 | .int _,.int _=>μ | .bl _,.bl _=>μ | .str _,.str _=>μ | .byt _,.byt _=>μ
 | .int _,.str _=>μ | .str _,.int _=>μ | .bl _,.str _=>μ | .str _,.bl _=>μ
 |_,_=>ν
def IN:R2:=λx y H Q=>La x y=μ/\Q (.bl$ decide$ x=y) H
def Nh:R2:=λx y H Q=>La x y=μ/\Q (.bl (!decide (x=y))) H
def ZQ:decide (vr i=vr j)=(i==j):=by rw[TF];simp
def vt:decide (V.bl i=V.bl j)=(i==j):=by rw[TF];simp
def ZR:decide (tT i=tT j)=(i==j):=by rw[TF];simp
def ZS:decide (V.byt i=V.byt j)=(i.toList==j.toList):=by rw[TF];cases i;cases j;simp
section
variable {X:Cx}{a b c:dr}{ta tb tc:TE}{pos:Pos}
def jR{Q:VK}(I:ax X p d H s)(q:Q (.bl k) H)(e:k=f):EP X p d Q (.bool f) s:=by subst e;exact#[.bl k,H,I,Z,q]
def qr:fq X (compareOp .Eq) IN:=by
 intro p s e H x y v u Q I R r h;let⟨d,q⟩:=h;cases x with
 |non=>
  cases R;cases y with
  |non=>cases r;rwa[WW (jR I q NN)]
  |bl j=>cases r;rwa[WY (jR I q NN)]
  |int j=>let⟨T,rfl⟩:=r;rwa[WX (jR I q NN)]
  |str j=>let⟨T,rfl⟩:=r;rwa[WV (jR I q NN)]
  |_=>rwa[absurd (show ν=μ from d) OG]
 |bl i=>
  cases R;cases y with
  |non=>cases r;rwa[X' (jR I q NN)]
  |bl j=>cases r;rwa[eq_bool (jR I q vt)]
  |str j=>let⟨T,rfl⟩:=r;rwa[WK (jR I q NN)]
  |_=>rwa[absurd (show ν=μ from d) OG]
 |int i=>
  let⟨t,rfl⟩:=R;cases y with
  |non=>cases r;rwa[WZ (jR I q NN)]
  |int j=>let⟨T,rfl⟩:=r;rwa[eq_int (jR I q ZQ)]
  |str j=>let⟨T,rfl⟩:=r;rwa[WJ (jR I q NN)]
  |_=>rwa[absurd (show ν=μ from d) OG]
 |str i=>
  let⟨t,rfl⟩:=R;cases y with
  |non=>cases r;rwa[WU (jR I q NN)]
  |bl j=>cases r;rwa[WI (jR I q NN)]
  |int j=>let⟨T,rfl⟩:=r;rwa[WH (jR I q NN)]
  |str j=>let⟨T,rfl⟩:=r;rwa[eq_str (jR I q ZR)]
  |_=>rwa[absurd (show ν=μ from d) OG]
 |byt i=>
  let⟨t,rfl⟩:=R;cases y with
  |byt j=>let⟨T,rfl⟩:=r;rwa[PySem.W.eq_bytes (jR I q ZS)]
  |_=>rwa[absurd (show ν=μ from d) OG]
 |_=>cases y<;>rwa[absurd (show ν=μ from d) OG]
def QM:fq X (compareOp .NotEq) Nh:=by
 intro p s e H x y v u Q I R r h;let⟨d,q⟩:=h;cases x with
 |non=>
  cases R;cases y with
  |non=>cases r;rwa[WP (jR I q NN)]
  |bl j=>cases r;rwa[WR (jR I q NN)]
  |int j=>let⟨T,rfl⟩:=r;rwa[WQ (jR I q NN)]
  |str j=>let⟨T,rfl⟩:=r;rwa[WO (jR I q NN)]
  |_=>rwa[absurd (show ν=μ from d) OG]
 |bl i=>
  cases R;cases y with
  |non=>cases r;rwa[WT (jR I q NN)]
  |bl j=>cases r;rwa[ne_bool (jR I q (PL not vt))]
  |str j=>let⟨T,rfl⟩:=r;rwa[WG (jR I q NN)]
  |_=>rwa[absurd (show ν=μ from d) OG]
 |int i=>
  let⟨t,rfl⟩:=R;cases y with
  |non=>cases r;rwa[WS (jR I q NN)]
  |int j=>let⟨T,rfl⟩:=r;rwa[ne_int (jR I q (PL not ZQ))]
  |str j=>let⟨T,rfl⟩:=r;rwa[WF (jR I q NN)]
  |_=>rwa[absurd (show ν=μ from d) OG]
 |str i=>
  let⟨t,rfl⟩:=R;cases y with
  |non=>cases r;rwa[WN (jR I q NN)]
  |bl j=>cases r;rwa[WE (jR I q NN)]
  |int j=>let⟨T,rfl⟩:=r;rwa[WC (jR I q NN)]
  |str j=>let⟨T,rfl⟩:=r;rwa[ne_str (jR I q (PL not ZR))]
  |_=>rwa[absurd (show ν=μ from d) OG]
 |byt i=>
  let⟨t,rfl⟩:=R;cases y with
  |byt j=>let⟨T,rfl⟩:=r;rwa[PySem.W.ne_bytes (jR I q (PL not ZS))]
  |_=>rwa[absurd (show ν=μ from d) OG]
 |_=>cases y<;>rwa[absurd (show ν=μ from d) OG]
def QN:fq X (compareOp .Lt) (Ad λi j=>.bl (decide$ i < j)):=Fi λ_ _ _ _ _ _ _ q=>lt_int q
def qt:fq X (compareOp .Gt) (Ad λi j=>.bl (decide$ j < i)):=Fi λ_ _ _ _ _ _ _ q=>gt_int q
def wY:fq X (compareOp .GtE) (Ad λi j=>.bl (decide$ j<=i)):=Fi λ_ _ _ _ _ _ _ q=>ge_int q
def qW:fq X (compareOp .Is) (λx y H Q=>y= .non/\Q (.bl$ decide$ x= .non) H):=by
 intro p s d H x y v u Q I r R h;let⟨rfl,q⟩:=h;cases R;erw[is_none_gen$ jR I q ?_];cases x<;>first
  | (cases r;rfl)
  | (let⟨t,rfl⟩:=r;rfl)
def Bx:fq X (compareOp .IsNot) (λx y H Q=>y= .non/\Q (.bl (!decide (x= .non))) H):=by
 intro p s d H x y v u Q I r R h;let⟨rfl,q⟩:=h;cases R;erw[isnot_none_gen$ jR I q ?_];cases x<;>first
  | (cases r;rfl)
  | (let⟨t,rfl⟩:=r;rfl)
def aD(b:dr)(h:↥(o≠ .In))(H:↥(o≠ .NotIn)):behindInMarks o b=ν:=by
 let e:(o==CmpOp.In)=ν:=by cases o<;>first |rfl |exact absurd Z h
 let E:(o==CmpOp.NotIn)=ν:=by cases o<;>first |rfl |exact absurd Z H
 cases b<;>simp [behindInMarks,e,E]
def qf(d:fq X (compareOp o) r)(e:PE X a ta)(f:PE X b tb)(g:behindInMarks o b=ν):PE X (.Compare a [o] [b] pos) (fc r ta tb):=by intro p s i H Q I h;rwa[wpAny_Compare1 (DU e f I h λv u S x y j k R l q=>d p S i j x y v u Q k R l q) g]
inductive yJ(Q:Bool->Hp->Prop)(x:V)(a:Hp):Prop
 |mk(k:_)(_:x= .bl k)(_:Q k a)
def ms(t:TE):TT:=λd H Q=>t d H (yJ Q)
def jz{o:CmpOp}{r:R2}(f:fq X (compareOp o) r)(g:PE X a ta)(i:PE X b tb)(j:behindInMarks o b=ν):PT X (.Compare a [o] [b] pos) (ms$ fc r ta tb):=by
 intro p s d H Q I h;refine VM (a8 (g p s d H _ I h) λv S #[x,l,m,R,q]=>a8 (i p S d l _ m q) λu n #[y,t,w,A,B]=>
  a8 (f p n d t x y v u _ w R A B) λc G #[z,C,D,E,k,e,F]=>?_) j
 subst e;cases E;rwa[Tp #[C,D,F]]
def Ho(K:β)(x:V)(H:Hp)(k:Bool):Prop:=
 match x with
 | .non=>k=ν
 | .bl b=>k=b
 | .int i=>k=(i != 0)
 | .str y=>y.length<=τ/\k=((y.length:Int) != 0)
 | .byt y=>y.size<=τ/\k=((y.size:Int) != 0)
 | .ref p=>(∃d,aL K H p d/\k=!d.isEmpty)∨(∃d,aF K H p d/\k=!d.isEmpty)∨∃e,H p=δ (.dK e)/\k=!e.isEmpty
 |_=>False
def Y5{d:Type}{k:xL (d×V)}{v:xL (d×η)}(r:KV k v):(!v.isEmpty)=!k.isEmpty:=by cases r<;>rfl
def K2(r:aG x i):(!i.toArray.isEmpty)=!x.isEmpty:=by cases r<;>simp
def gf:(τ:Nat) < 2 ^ 63:=by rw[RO];decide
def Gx:Mg X (λx H Q=>∃k,Ho X.K x H k/\Q k H):=by
 intro o s B H x v Q I R h;let⟨k,e,q⟩:=h;let C:=gf;let D:τ=16777216:=RO;cases x with
 |non=>cases R;let E:k=ν:=e;subst E;rwa[truthy_none #[H,I,q]]
 |bl b=>cases R;let E:k=b:=e;subst E;rwa[Tp #[H,I,q]]
 |int i=>let⟨t,rfl⟩:=R;let E:k=(i != 0):=e;subst E;rwa[PySem.P.truthy_int #[H,I,q]]
 |str y=>let⟨t,rfl⟩:=R;obtain⟨z,E⟩:y.length<=τ/\k=((y.length:Int) != 0):=e;subst E;rwa[PySem.P.truthy_str NO #[H,I.tok _,q]]
 |byt y=>let⟨t,rfl⟩:=R;obtain⟨z,E⟩:y.size<=τ/\k=((y.size:Int) != 0):=e;subst E;rwa[PySem.W.truthy_bytes NO #[H,I.tok _,q]]
 |ref p=>
  cases R;let E:(∃g,aL X.K H p g/\k=!g.isEmpty)∨(∃g,aF X.K H p g/\k=!g.isEmpty)∨∃d,H p=δ (.dK d)/\k=!d.isEmpty:=e;rcases E with ⟨g,j,E⟩ | ⟨g,j,E⟩ | ⟨d,j,E⟩
  .subst E;let⟨l,r,n,u⟩:=I.list j;let f:=r.length;rwa[wpAny_truthy_list n.isList (by simp only[Ov];omega) #[H,I.tok _,by rw[K2 r];rwa[q]]]
  .subst E;let⟨l,r,n,u⟩:=I.tuple j;let f:=r.length;rwa[truthy_tuple n (by simp only[Ov];omega) #[H,I.tok _,by rw[K2 r];rwa[q]]]
  .subst E;obtain⟨u,A,V,r,m⟩:ο d<=τ/\(p==sysModules)=ν/\∃V,KV d V/\s.heap.DictOf (bf X.prog X.w) p V:=I.hok p _ j;let f:ο d=ο V:=Paired.length r;rwa[wpAny_truthy_dict A m NO #[H,I.tok _,by rw[Y5 r];rwa[q]]]
 |_=>exact(show False from e).elim
def xw(f:PE X a ta)(g:∀w,isTrue a X.env w=(do let v <- w;standAt a.pos;mB [v] (truthy v))):
  PT X a (λd H Q=>ta d H λx e=>∃k,Ho X.K x e k/\Q k e):=by
 intro p s d H Q I h;rwa[isTrue_plain (a8 (f p s d H _ I h) λv S #[x,i,j,r,q]=>Gx p S d i x v Q j r q)$ g _]
inductive Jy(x y:V)(H:Hp)(Q:VK):Prop
 |mk(i j:_)(_:x= .str i)(_:y= .str j)(_:i.length+j.length<=τ)(_:Q (.str (i++j)) H)
def zM:fq X (binaryOp .Add) Jy:=by intro p s e H x y v u Q I r R h;let⟨i,j,rfl,rfl,d,q⟩:=h;let⟨t,rfl⟩:=r;let⟨T,rfl⟩:=R;rwa[add_str (λT f=>#[.str$ i++j,H,I.tok _,#[_,Z],q]) d]
def gr(r:aG [x] U):∃u,U=[u]/\aK x u:=by
 cases r with
 |cons R d=>cases d;exact#[_,Z,R]
def qM:fo X (.type "int") (λx H Q=>(∃i,x=[.int i]/\Q (.int i) H)∨∃k,x=[.bl k]/\Q (.int (if k then 1 else 0)) H):=by
 intro p s d H x U Q I r h;rcases h with ⟨i,rfl,q⟩ | ⟨k,rfl,q⟩
 .let⟨u,rfl,t,rfl⟩:=gr r;rwa[call_int_int #[.int i,H,I,#[_,Z],q]]
 .let⟨u,rfl,R⟩:=gr r;cases R;rwa[call_int_bool #[.int (if k then 1 else 0),H,I.tok _,#[_,Z],q]]
end
structure oK(h:de)(x dx C:ζ)(mA:ρ->ym η):Prop where
 obj:h.get? x=δ (instObj C dx)
 ns:h.Ns1 dx mA
 ne:dx≠x
def tI{h:de}(n:h.Ns1 d m):∃O,h.get? d=δ O/\∀name,lookIn name O=δ (m name):=by
 let⟨o,E,j,b,c,f,_,g⟩:=n;erw[#[o,b,λname=>?_]];let e:=g name;unfold nsFind findBy at e;rw[<- Array.find?_toList]at e;unfold lookIn;rw[c];dsimp only;split
 .rename_i y q
  rw[q]at e;rwa[PL δ e]
 .rename_i q
  rw[q]at e;let a:E.toList.any (·.refKey)=ν:=by rw[VF];intro y i;let⟨z,t,H⟩:=f y (Array.mem_toList_iff.mp i);simp [DictEntry.refKey,H]
  let A:¬E.toList.any (·.refKey)=μ:=by rw[a];rwa[OG]
  rw[OD A];rwa[PL δ e]
def oK.look(I:oK h x d C m):∃o,PySem.W.InstAt h x (instObj C d) C (δ o)/\∀name,lookIn name o=δ (m name):=
 let #[o,H,a]:=tI I.ns
 #[o,#[I.obj,Z,Z,H],a]
section
variable {prog:ψ}{w:bF}{A:bS}{E:η->ι->Prop}{s:ι}{K:β}{x dx C f:ζ}{mA:ρ->ym η}{name:ρ}{v:η}
def AO{Q:η->ι->Prop}(X:K.In s.heap)(I:oK s.heap x dx C mA)(a:plainGet K C name=μ)(b:hasDictIn K C=μ)
  (c:findIn K (.ref C) name=δ θ) (d:mA name=δ v) (H:PySem.W.handedIn v=μ) (h:Q v { s with toks:=s.toks+1 }):
  π (υ prog w) A (getAttr (.ref x) name e) Q E s:=by
 let⟨o,J,g⟩:=I.look;rwa[PySem.W.get_value X J (TU a).1 (PySem.W.findObj_own b c Z (by rw[g,d])) H h]
def vY{Q:η×xL η->ι->Prop}(X:K.In s.heap)(I:oK s.heap x dx C mA)(H:plainGet K C name=μ)
  (a:findIn K (.ref C) name=δ (↑f)) (b:isFn K (.ref f)=μ) (c:mA name=θ) (h:Q (.ref f,[.ref x]) s):
  π (υ prog w) A (getMethod (.ref x) name p) Q E s:=by
 let⟨o,J,d⟩:=I.look;rwa[PySem.W.method_fn X J (TU H).1 (TU H).2 a (beq_iff_eq.mp b) (by show(lookIn name o).map (·.isSome)=δ ν;rw[d,c];rfl) h]
def Cj{Q:Unit->ι->Prop}(X:K.In s.heap)(I:oK s.heap x dx C mA)
  (k:findIn K (.ref C) "__setattr__"=δ (δ$ .builtin "object.__setattr__")) (l:PySem.W.plainOver K C=μ) (m:rm K C name=δ θ) (n:hasDictIn K C=μ)
  (o:PySem.Within mA N) (p:ο N<=τ)
  (h:∀d,oK d x dx C (λy=>if y=name then δ v else mA y)->fx dx s.heap d->Q () { s with heap:=d,toks:=s.toks+2 }):
  π (υ prog w) A (setAttr (.ref x) name v) Q E s:=by
 let⟨O,J,B⟩:=I.look;erw[PySem.W.set_plain X J k$ PySem.W.osa_open (s:={ s with toks:=s.toks+1 }) (r:=θ) X J l m λb=>?_];let⟨D,q,e⟩:=PySem.W.any_some n;let t:s.heap.get? x=δ #[.ref C,δ dx,.plain,(ε [])]:=I.obj;erw[Om$ Op$ Om$ Om$ U' t$ Om$ WB (s:={ s with toks:=s.toks+1 }) (PySem.W.looks_clsIn X q) ?_];rw[e];erw[Op (a:=δ dx)$ Om$ Op$ Om ?_];erw[wpAny_nsSet1 (s:={ s with toks:=s.toks+1 }) I.ns λd H c=>?_];let⟨F,u,z,g,i,j⟩:=H.count (WM name v o);erw[Om$ wpAny_lookBehind g (by rw[i];rwa[pastItsLine_dict$ OK j (by rw[O1];omega)]) ?_];rwa[Op$ h _ #[(c.2 _$ O3 I.ne).trans I.obj,H,I.ne] c]
def wA{R:Result->ι->Prop}(X:K.In s.heap)(H:PySem.W.makesIn K C=μ)
  (b:findIn K (.ref C) "__init__"=δ (↑f)) (c:typeIn K (.ref f)=δ (.type "function"))
  (h:kz (υ prog w) (A.under$ .builtin "type.__call__" #[.ref C::a,k]) (.call (.ref f) #[.ref (-s+1)::a,k]) (PySem.W.InitBack (-s+1) R)
   ‹(s.heap.push emptyDict).push (instObj C (-s))›):
  kz (υ prog w) A (.call (.ref C) #[a,k]) R s:=by
 let⟨e,g,d,t,os⟩:=s;rwa[PySem.W.make_core (PySem.W.makes_of X H) (PySem.W.looks_findIn X b) (λS=>PySem.W.bind_fn X S c) (.inl Z) h]
end
def gg(f:ρ)(v:V):xL (ρ×V)->xL (ρ×V)
 | []=>[(f,v)]
 | (g,x)::r=>if g=f then (g,v)::r else (g,x)::gg f v r
theorem JZ(f g:ρ)(v:V):∀F:xL (ρ×V),(gg f v F).lookup g=if g=f then δ v else F.lookup g
 | []=>by
  show hJ g [(f,v)]=_;by_cases h:g=f
  .let H:(g==f)=μ:=beq_iff_eq.mpr h;simp only[hJ,H,OB h]
  .let H:(g==f)=ν:=beq_eq_false_iff_ne.mpr h;simp only[hJ,H,OD h]
 | (k,x)::r=>by
  let i:=JZ f g v r;rw[show gg f v ((k,x)::r)=(if k=f then (k,v)::r else (k,x)::gg f v r) from Z];by_cases a:k=f
  .rw[OB a];by_cases h:g=k
   .let H:(g==k)=μ:=beq_iff_eq.mpr h;simp only[hJ,H,OB$ h.trans a]
   .let H:(g==k)=ν:=beq_eq_false_iff_ne.mpr h;simp only[hJ,H,OD (λe:g=f=>h (e.trans a.symm))]
  .rw[OD a];by_cases h:g=k
   .let H:(g==k)=μ:=beq_iff_eq.mpr h;simp only[hJ,H,OD (λe:g=f=>a (h.symm.trans e))]
   .let H:(g==k)=ν:=beq_eq_false_iff_ne.mpr h;simp only[hJ,H];rwa[i]
theorem JR(f:ρ)(v:V):∀F:xL (ρ×V),f∈(gg f v F).map (·.1)/\∀g,g∈F.map (·.1)->g∈(gg f v F).map (·.1)
 | []=>#[by simp [gg],λg h=>by simp at h]
 | (k,x)::r=>by
  let⟨i,I⟩:=JR f v r;rw[show gg f v ((k,x)::r)=(if k=f then (k,v)::r else (k,x)::gg f v r) from Z];by_cases H:k=f
  .rw[OB H];subst H;exact#[NN,λg h=>by simpa using h]
  .rw[OD H];refine#[?_,λg h=>?_]
   .rw[PZ];rwa[OY _ i]
   .rw[PZ]at h ⊢;rcases Ξ.mp h with e |e
    .rwa[Ξ.mpr$ .inl e]
    .rwa[OY _$ I g e]
theorem J1(f:ρ)(v:V):∀F:xL (ρ×V),(gg f v F).length<=ο F+1
 | []=>by simp [gg]
 | (k,x)::r=>by
  let i:=J1 f v r;rw[show gg f v ((k,x)::r)=(if k=f then (k,v)::r else (k,x)::gg f v r) from Z];by_cases h:k=f
  .rw[OB h,O1,O1];omega
  .rw[OD h,O1,O1];omega
def ff.some_of{v:V}{o:ym η}(r:ff (δ v) o):∃u,o=δ u/\aK v u:=by
 cases o with
 |none=>exact(show False from r).elim
 |some u=>exact#[u,Z,r]
def ff.none_of(r:ff θ o):o=θ:=by
 cases o with
 |none=>rfl
 |some u=>exact(show False from r).elim
def sY(r:aK v u):PySem.W.handedIn u=μ:=by
 cases v with
 |non=>cases (show u=Ω from r);rfl
 |bl b=>cases (show u=sn b from r);rfl
 |int i=>let⟨t,e⟩:=(show ∃t,u=kw i t from r);cases e;rfl
 |str x=>let⟨t,e⟩:=(show ∃t,u=mT x t from r);cases e;rfl
 |byt b=>let⟨t,e⟩:=(show ∃t,u=Value.bytes b t from r);cases e;rfl
 |flt b=>let⟨t,e⟩:=(show ∃t,u=Value.float b t from r);cases e;rfl
 |ref a=>cases (show u=Θ a from r);rfl
 |ty n=>cases (show u=fr n from r);rfl
section
variable {P:ψ}{w:bF}{H H':Hp}{h h':de}{a C dx:ζ}{fs fs':xL (ρ×V)}
def Xu(b:gD P w H h)(e:H a=δ (.ins C dx fs)):∃m,oK h a dx C m/\(∀f,ff (fs.lookup f)$ m f)/\PySem.Within m (fs.map (·.1))/\ο fs<=1000/\H dx=δ (.own a):=by let⟨d,z,N,o,m,n,r,q⟩:=(show a6 P w H h a (.ins C dx fs) from b a _ e);exact#[m,#[o,n,N],r,q,z,d]
end
structure uN(K:β)(C:ζ):Prop where
 pg:plainGet K C Str.empty=μ
 hd:hasDictIn K C=μ
 po:PySem.W.plainOver K C=μ
 sa:findIn K (.ref C) "__setattr__"=δ (δ$ .builtin "object.__setattr__")
def uN.get{K:β}(c:uN K C)(f:ρ):plainGet K C f=μ:=c.pg
def a9(K:β)(C:ζ)(f:ρ):Prop:=findIn K (.ref C) f=δ θ
def a9.taker{K:β}(n:a9 K C f):rm K C f=δ θ:=by unfold rm;rw[show findIn K (.ref C) f=δ θ from n];rfl
structure bh(K:β)(C:ζ)(m:ρ)(f:ζ):Prop where
 at_:findIn K (.ref C) m=δ (↑f)
 fn:isFn K (.ref f)=μ
 kp:gb K (.ref f)=μ
section
variable {X:Cx}{pins:xL (ζ×hG)}{σ:St}{H:Hp}{s:ι}{a C dx:ζ}{fs:xL (ρ×V)}{f:ρ}{v:V}{A:bS}{E:η->ι->Prop}
def K8{Q:η->ι->Prop}(I:ax X pins σ H s)(e:H a=δ (.ins C dx fs))(c:uN X.K C)(n:a9 X.K C f)(l:fs.lookup f=δ v)
  (h:∀u S,ax X pins σ H S->aK v u->Q u S):π (υ X.prog X.w) A (getAttr (.ref a) f b) Q E s:=by
 let⟨m,O,r,_,_,_⟩:=Xu I.hok e;let⟨u,d,R⟩:=ff.some_of (v:=v) (o:=m f) (by rw[<- l];rwa[r f]);rwa[AO I.kIn O (c.get f) c.hd n d (sY R)$ h u _ (I.tok _) R]
def K9{Q:η×xL η->ι->Prop}(I:ax X pins σ H s)(e:H a=δ (.ins C dx fs))(c:uN X.K C)(k:bh X.K C m g)(l:fs.lookup m=θ)
  (h:Q (.ref g,[.ref a]) s):π (υ X.prog X.w) A (getMethod (.ref a) m p) Q E s:=by
 let⟨M,O,r,_,_,_⟩:=Xu I.hok e;let b:M m=θ:=ff.none_of (by rw[<- l];rwa[r m]);rwa[vY I.kIn O (c.get m) k.at_ k.fn b h]
def Qa{Q:Unit->ι->Prop}(I:ax X pins σ H s)(e:H a=δ (.ins C dx fs))(c:uN X.K C)(n:a9 X.K C f)(F:ο fs < 1000)(R:aK y u)
  (h:∀S,ax X pins σ (af H a$ .ins C dx$ gg f y fs) S->Q () S):π (υ X.prog X.w) A (setAttr (.ref a) f u) Q E s:=by
 let⟨m,O,r,W,_,i⟩:=Xu I.hok e;let j:(fs.map (·.1)).length<=τ:=by rw[Oq,RO];omega
 erw[Cj I.kIn O c.sa c.po n.taker c.hd W j λk d l=>h _ ?_];let p:∃o,k.get? dx=δ o:=let #[o,_,_,t,_]:=d.ns;#[o,t]
 erw[I.write (x:=a) (e:=dx) (by rw[e];rwa[True.intro]) (.inr i) (λb q B z=>(l.2 b B).trans z) p ?_];erw[#[by rw[jh O.ne];rwa[i],?_,O.ne,d.obj,_,d.ns,λg=>?_,λg D=>?_]]
 .let:=J1 f y fs;omega
 .show ff ((gg f y fs).lookup g) (if g=f then δ u else m g);rw[JZ];by_cases q:g=f
  .rw[OB q,OB q];rwa[R]
  .rw[OD q,OD q];rwa[r g]
 .by_cases q:g=f
  .rw[q];exact(JR f y fs).1
  .erw[(JR f y fs).2 g (W g λz=>D ?_)];show(if g=f then δ u else m g)=θ;rw[OD q];rwa[z]
def ax.made(I:ax X pins σ H s):ax X pins σ (af (af H (-s)$ .own$ -s+1) (-s+1)$ .ins C (-s) [])
  ‹(s.heap.push emptyDict).push (instObj C (-s))›:=by
 let c:(s.heap.push emptyDict).get? (-s)=δ emptyDict:=Oy s.heap Z;let d:((s.heap.push emptyDict).push$ instObj C (-s)).get? (-s+1)=δ (instObj C (-s)):=by let:=Oy (s.heap.push emptyDict) (o:=instObj C (-s)) Z;rw[Pn]at this;assumption
 let g:(s.heap.push emptyDict).Ns (-s) (λ_=>θ):=#[emptyDict,(ε []),_,c,Z,(λe h=>absurd h NN),λ_=>Z];let i:=I.laid (a:=-s) (o:=.own (-s+1)) (h':=s.heap.push emptyDict) (t':=s.toks) (λb u q=>Oo _ q) (Ou _) #[_,c];erw[i.laid (a:=-s+1) (o:=.ins C (-s) []) (t':=s.toks) (λb u q=>Oo _ q) (Tz$ Pn _ _) ?_];let n:-s≠-s+1:=OH (P8 _);erw[#[by rw[jh n,jc],OA _,n,d,λ_=>θ,(Heap.Ns1.of_empty g).at λo q=>Oo _ q,λ_=>True.intro,λy j=>absurd Z j]]
def Aw{f:ρ}{s:ι}(c:attributeBase e f b (eval e b)=eval e b)
  (h:π (υ p w) A (eval e b) (λo S=>π (υ p w) A (getAttr o f μ) Q E S) E s):π (υ p w) A (eval (.Attribute e f d) b) Q E s:=
 Attribute_any_ h (by rw[arm_eval_Attribute,c])
end
inductive DC(K:β)(f:ρ)(Q:VK)(x:V)(b:Hp):Prop
 |mk(a C c d v:_)(_:x= .ref a)(_:b a=δ (.ins C c d))(_:uN K C)(_:a9 K C f)(_:d.lookup f=δ v)(_:Q v b)
def MP(K:β)(t:TE)(f:ρ):TE:=λa H Q=>t a H (DC K f Q)
inductive Dr(K:β)(f:ρ)(D:bp)(e:St)(y x:V)(b:Hp):Prop
 |mk(a C c d:_)(_:x= .ref a)(_:b a=δ (.ins C c d))(_:uN K C)(_:a9 K C f)(_:ο d < 1000)(_:D.nx e (af b a (.ins C c (gg f y d))))
def MD(K:β)(t T:TE)(f:ρ):TS:=λD a H=>T a H λy h=>t a h (Dr K f D a y)
def Hh(X:Cx)(o:Operator)(r:V->V->Hp->VK->Prop):Prop:=
 ∀(p:xL (ζ×hG)) (s:ι) (a:St) (H:Hp) (x y:V) (u v:η) (Q:VK),ax X p a H s->aK x u->aK y v->r x y H Q->π (υ X.prog X.w) X.A (inplaceOp o u v) (EP X p a Q) X.xe s
inductive nP(K:β)(g:TE)(e:V->V->Hp->VK->Prop)(f:ρ)(D:bp)(h:St)(x:V)(b:Hp):Prop
 |mk(a C c d v:_)(_:x= .ref a)(_:b a=δ (.ins C c d))(_:uN K C)(_:a9 K C f)(_:d.lookup f=δ v)(_:g h b λy H2=>e v y H2 λz H3=>∃dx' fs',H3 a=δ (.ins C dx' fs')/\ο fs' < 1000/\D.nx h (af H3 a (.ins C dx' (gg f z fs'))))
def BS(K:β)(t T:TE)(r:V->V->Hp->VK->Prop)(f:ρ):TS:=λD a H=>t a H (nP K T r f D a)
section
variable {X:Cx}{o e value:dr}{f:ρ}{pos pos' tpos:Pos}{ta tv:TE}
def kW(b:PE X e ta)(d:attributeBase e f X.env (eval e X.env)=eval e X.env):PE X (.Attribute e f pos) (MP X.K ta f):=by intro p s g H Q I h;erw[Aw d$ a8 (b p s g H _ I h) λu S z=>?_];let⟨x,i,j,r,a,C,D,F,v,E,k,c,n,l,q⟩:=z;subst E;obtain rfl:u=Θ a:=r;rwa[K8 j k c n l λU t m R=>#[v,i,m,R,q]]
def qx(d:PE X o ta)(g:PE X value tv)(i:swapsWith value (δ$ .Attribute o f pos') pos.line X.env=pure ν):PS X (.Assign [.Attribute o f pos'] value pos) (MD X.K ta tv f):=by intro p s b H D I h;erw[plainObj_wpAny_Assign_Attribute (a8 (g p s b H _ I h) λu S #[y,j,k,r,q]=>a8 (d p S b j _ k q) λO w z=>?_) i];let⟨x,A,m,R,a,C,B,F,E,t,c,n,l,Q⟩:=z;subst E;obtain rfl:O=Θ a:=R;rwa[Qa m t c n l r λG v=>#[b,_,v,Q]]
def um{O:Operator}{r:V->V->Hp->VK->Prop}(i:PE X o ta)(j:PE X value tv)(g:Hh X O r):PS X (.AugAssign (.Attribute o f tpos) O value pos) (BS X.K ta tv r f):=by intro p s d H D I h;erw[wpAny_AugAssign_AttributeAny$ a8 (i p s d H _ I h) λk s1 b=>?_];let⟨x,m,t,R,a,C,dx,fs,v,w,A,c,n,l,q⟩:=b;subst w;obtain rfl:k=Θ a:=R;erw[K8 t A c n l λu S B F=>a8 (j p S d m _ B q) λW G #[y,J,L,M,Q]=>a8 (g p G d J v y u W _ L F M Q) λw4 s4 b=>?_];let⟨z,H3,N,P,T,U,E,Y,q4⟩:=b;rwa[Qa N E c n Y P λs5 I5=>#[d,_,I5,q4]]
inductive IM(x y:V)(H:Hp)(Q:VK):Prop
 |mk(i j:_)(_:x= .int i)(_:y= .int j)(_:Q (.int (i+j)) H)
def Ei:Hh X .Add IM:=by rintro p s a H x y u v Q I r R ⟨i,j,rfl,rfl,q⟩;let⟨t,rfl⟩:=(show ∃t,u=kw i t from r);let⟨T,rfl⟩:=(show ∃T,v=kw j T from R);rwa[Z' #[.int$ i+j,H,I.tok _,#[_,Z],q]]
end
structure bY(k:Nat)(A:bS):Prop where
 hd:A.handled=θ
 dp:A.depth+3*k+5 < recursionLimit
 un:A.units+16*k+200 < cLine
def bY.mono(r:bY k A)(h:j<=k):bY j A:=#[r.hd,by let:=r.dp;omega,by let:=r.un;omega]
def bY.deeper(r:bY (k+1) A)(e:Env):bY k (A.deeper e):=
 #[r.hd,by let:=r.dp;show A.depth+1+3*k+5 < _;omega,by let:=r.un;show A.units+3+16*k+200 < _;omega]
def Y6{A:bS}:(A.under$ .builtin "type.__call__" #[.ref C::u,k]).depth=A.depth+1:=by
 first |rfl |simp [Around.under,Code.weight,Code.isCreation,Code.isGuard,Code.isCaller,Code.frames,Code.isFrame,guardIds]
def Y7{A:bS}:(A.under$ .builtin "type.__call__" #[.ref C::u,k]).units=A.units+1:=by
 first |rfl |simp [Around.under,Code.cUnits,Code.frames,Code.isFrame]
def bY.make(r:bY (k+1) A)(C:ζ)(u:xL η)(K:xL (ρ×η)):bY k (A.under$ .builtin "type.__call__" #[.ref C::u,K]):=
 #[r.hd,by let:=r.dp;rw[Y6];omega,by let:=r.un;rw[Y7];omega]
def bY.depth(r:bY k A):A.depth < recursionLimit:=by let:=r.dp;omega
def bY.units(r:bY k A):A.units+64 < cLine:=by let:=r.un;omega
def aY:TA:=λ_ H Q=>Q [] H
def ap(t:TE)(T:TA):TA:=λa H Q=>t a H λx h=>T a h λX b=>Q (x::X) b
section
variable {X:Cx}{e:dr}{es:xL dr}{te:TE}{t:TA}{pos:Pos}
def jb:PA X [] aY:=λ_ _ _ _ H Q I h=>RQ #[[],H,I,.nil,h]
def ja(b:PE X e te)(c:PA X es t)(d:↥(Δ (e::es) X.env=(ν,eval e X.env)::Δ es X.env)):PA X (e::es) (ap te t):=by intro pos p s a H Q I h;rw[d];show π _ _ (spliced ((ν,eval e X.env)::fy pos (Δ es X.env))) _ _ s;erw[Rr$ a8 (b p s a H _ I h) λu S z=>?_];let⟨x,f,i,r,q⟩:=z;rwa[a8 (c pos p S a f _ i q) λU m #[g,j,k,R,l]=>#[x::g,j,k,.cons r R,l]]
def cQ(t:TA):TE:=λa H Q=>t a H λx h=>ο x<=τ/\∀p,h p=θ->Q (.ref p) (af h p$ .tup x)
def on(t:TA):TE:=λa H Q=>t a H λx h=>ο x<=τ/\∀p,h p=θ->Q (.ref p) (af h p$ .lst x)
def ji{x}(h:PA X es t):PE X (.Tuple es x pos) (cQ t):=by intro p s c H Q I d;erw[wpAny_Tuple_spliced$ a8 (h pos p s c H _ I d) λU S #[f,a,i,r,z,q]=>#[by rw[<- r.length];rwa[z],?_]];let g:a (-S)=θ:=i.hok.fresh (Ou _);erw[#[.ref (-S),af a (-S)$ .tup f,i.laid (t':=S.toks) (λb u e=>Oo _ e) (Ou _) ?_,Z,q _ g]];exact#[z,U,r,#[_,Oy _ Z,Z,_,Z]]
def jF(h:PA X es t):PE X (.List es pos) (on t):=by intro p s c H Q I d;erw[wpAny_List_spliced$ a8 (h pos p s c H _ I d) λU S #[x,a,i,r,z,q]=>#[by rw[<- r.length];rwa[z],?_]];let f:a (-S)=θ:=i.hok.fresh (Ou _);erw[#[.ref (-S),af a (-S)$ .lst x,i.laid (t':=S.toks) (λb u e=>Oo _ e) (Ou _) ?_,Z,q _ f]];exact#[z,U,0,r,Oy _ Z]
end
abbrev Sp:=xL V->Hp->VK->XK->Prop
abbrev sq:=xL Env->Hp->ι->XK->η->ι->Prop
structure oH(P:ψ)(w:bF)(K:β)(mg:ρ->ym η)(base:de)(A:bS)(outer:xL Env)(s:ι)(H:Hp):Prop where
 frames:A.frames=δ outer
 mod:Mod K mg base
 bs:∀b o,base.get? b=δ o->s.heap.get? b=δ o/\H b=θ
 bsz:base.objs.size<=-s
 funs:s.heap.FunFrames base outer
 frf:∀b∈l7 outer,H b=θ
 hok:gD P w H s.heap
 bare:AllBare s.gens
def CE(o:xL Env)(P:ψ)(w:bF)(H:Hp)(s:ι)(Q:VK)(u:η)(S:ι):Prop:=
 ∃v h,S.os=s.os/\AllBare S.gens/\Un (l7 o) [] H h s.heap S.heap/\gD P w h S.heap/\aK v u/\Q v h
def CR(C:sq)(o:xL Env)(P:ψ)(w:bF)(H:Hp)(s:ι)(Q:VK)(E:XK)(r:Result)(S:ι):Prop:=
 match r with
 | .ok (.ret u)=>CE o P w H s Q u S
 | .ok _=>False
 | .error e=>C o H s E e S
structure ai(P:ψ)(w:bF)(K:β)(mg:ρ->ym η)(base:de)(CX:sq)(k:Nat)(f:ζ)(fd:cc)(ps:xL ρ)(sp:Sp):Prop where
 len:∀vs H Q E,sp vs H Q E->ο vs=ο ps
 run:∀(A:bS) (outer:xL Env) (s:ι) (H:Hp) (args:Args) (us:xL η) (vs:xL V) (Q:VK) (E:XK),bY k A->oH P w K mg base A outer s H->BindsTo s fd args (ps.zip us)->aG vs us->sp vs H Q E->
  kz (υ P w) A (.call (.ref f) args) (CR CX outer P w H s Q E) s
def oH.make{P:ψ}{K:β}(e:oH P w K m b A o s H)(C:ζ)(u:xL η)(k:xL (ρ×η)):
  oH P w K m b (A.under$ .builtin "type.__call__" #[.ref C::u,k]) o s H:=#[by first |exact e.frames | (simpa [Around.under,Code.envs,Code.isFrame,pushEnvs] using e.frames),e.mod,e.bs,e.bsz,e.funs,e.frf,e.hok,e.bare]
section
variable {X:Cx}{pins:xL (ζ×hG)}{σ:St}{H:Hp}{s s':ι}
def ax.env0(I:ax X pins σ H s):oH X.prog X.w X.K X.mg X.base X.A X.stack s H:=
 #[I.ok.frames,I.ok.mod,I.bs,OK I.ok.bsz I.sz,I.stack,I.stkFree,I.hok,I.bare]
def ax.after(I:ax X pins σ H s)(h:CE X.stack X.prog X.w H s Q u s'):EP X pins σ Q u s':=by let⟨v,c,os,B,U,a,r,q⟩:=h;let⟨e,g,d,t,o⟩:=s';obtain rfl:o=s.os:=os;exact#[v,c,I.call (h':=e) (g':=g) (d':=d) (t':=t) (ch:=[]) U a B (λb z=>absurd z NN),r,q]
end
def fb(s:Sp)(d:xL V)(E:XK)(t:TA):TE:=λa H Q=>t a H λv h=>s (v++d) h Q E
inductive yG(C:ζ)(m:ρ)(f:Sp)(b:xL V)(E:XK)(t:TA)(g:St)(Q:VK)(x:V)(c:Hp):Prop
 |mk(a d e:_)(_:x= .ref a)(_:c a=δ (.ins C d e))(_:e.lookup m=θ)(_:t g c λvs H2=>f (x::(vs++b)) H2 Q E)
def yE(C:ζ)(m:ρ)(s:Sp)(d:xL V)(E:XK)(T:TE)(t:TA):TE:=λa H Q=>T a H (yG C m s d E t a Q)
def Lp(C:ζ)(s:Sp)(D:xL V)(E:XK)(t:TA):TE:=λa H Q=>t a H λb h=>∀x d,h x=θ->h d=θ->d≠x->
 s (.ref x::(b++D)) (af (af h d$ .own x) x$ .ins C d []) (λv c=>v= .non/\Q (.ref x) c) E
def aE(K:β)(f:cc)(p:xL ρ)(d:xL η):Prop:=
 ∀(s:ι) (u:xL η),K.In s.heap->(u++d).length=ο p->BindsTo s f #[u,[]] (p.zip$ u++d)
def aE.all{K:β}{p:xL ρ}(h:∀u:xL η,ο u=ο p->bindArgs f #[u,[]]=pure (p.zip u)):aE K f p []:=λs u _ H=>by rw[O2]at H ⊢;rwa[.of_eq$ h u H]
def eh(C:sq)(X:Cx)(E:XK):Prop:=∀(p:xL (ζ×hG)) (a:St) (H:Hp) (s:ι) (e:η) (S:ι),ax X p a H s->C X.stack H s E e S->X.xe e S
section
variable {X:Cx}{CX:sq}{k:Nat}{f C:ζ}{fd:cc}{ps:xL ρ}{sp:Sp}{dvs:xL V}{ds:xL η}{E:XK}{x m:ρ}{p pos apos:Pos}{e o:dr}{es:xL dr}{ta:TE}{t:TA}
def Xi{us:xL η}{vs:xL V}(F:ai X.prog X.w X.K X.mg X.base CX k f fd ps sp)(d:bY k X.A)(g:aE X.K fd ps ds)(i:aG dvs ds)(j:eh CX X E)
  (I:ax X a c H s) (r:aG vs us) (h:sp (vs++dvs) H Q E):π (υ X.prog X.w) X.A (call (.ref f) us) (EP X a c Q) X.xe s:=by
 let R:aG (vs++dvs) (us++ds):=r.append i;let l:(us++ds).length=ο ps:=by rw[<- R.length];rwa[F.len _ _ _ _ h]
 erw[Vb$ Sb (F.run X.A X.stack s H #[us,[]] (us++ds) (vs++dvs) Q E d I.env0 (g s us I.kIn l) R h) λr S b=>?_];cases r with
 |error e=>rwa[j a c H s e S I b]
 |ok n=>
  cases n with
  |ret u=>rwa[I.after b]
  |next |brk |cont=>rwa[False.elim b]
def kC(F:ai X.prog X.w X.K X.mg X.base CX k f fd ps sp)(c:bY k X.A)(d:Gl X x)(g:X.mg x=↑f)(j:gb X.K (.ref f)=μ)(l:aE X.K fd ps ds)(n:aG dvs ds)(u:eh CX X E)
  (v:PA X (e::es) t) (a:↥((x==("__debug__":ρ))=ν)) (y:↥(Δ (e::es) X.env=(ν,eval e X.env)::Δ es X.env)) (b:↥((fy pos$ Δ es X.env).any (·.1)=ν)):
  PE X (.Call (.Name x p) (e::es) [] pos) (fb sp dvs E t):=by
 intro P s z H Q I h;erw[Py$ qe I d g ?_ a];erw[Uo (h₀:=X.base) I.ok.mod.kin j (a8 (v pos P s z H _ I h) λU S #[B,D,i,r,q]=>#[i.kIn,?_]) y b];rwa[Xi F c l n u i r q]
def kf(v:PE X o ta)(c:uN X.K C)(g:bh X.K C m f)(F:ai X.prog X.w X.K X.mg X.base CX k f fd ps sp)(y:bY k X.A)(B:aE X.K fd ps ds)(D:aG dvs ds)(G:eh CX X E)(J:PA X (e::es) t)
  (b:↥(Δ (e::es) X.env=(ν,eval e X.env)::Δ es X.env)) (d:↥((fy pos$ Δ es X.env).any (·.1)=ν))
  (L:↥(eval (.Call (.Attribute o m apos) (e::es) [] pos) X.env=(do
   let O <- eval o X.env
   standAt apos.atName
   let (f,first) <- mB [O] (getMethod O m pl)
   callWith pos f first (fy pos$ Δ (e::es) X.env) (backToKw pos$ keywordEach [] X.env)))):
  PE X (.Call (.Attribute o m apos) (e::es) [] pos) (yE C m sp dvs E ta t):=by
 intro P s i H Q I h;erw[Tg (pl:=pl) (a8 (v P s i H _ I h) λu S z=>?_) L];let⟨x,M,j,R,a,W,Y,N,T,l,q⟩:=z;subst N;obtain rfl:u=Θ a:=R;erw[K9 j T c g l ?_];erw[Uo (first:=[.ref a]) (h₀:=X.base) I.ok.mod.kin g.kp (a8 (J pos P S i M _ j q) λus s2 #[vs,H2,n,r,U]=>#[n.kIn,?_]) b d];rwa[Xi (us:=.ref a::us) (vs:=.ref a::vs) F y B D G n (.cons Z r) U]
def X1(d:PE X o ta)(c:uN X.K C)(b:bh X.K C m f)(F:ai X.prog X.w X.K X.mg X.base CX k f fd ps sp)(g:bY k X.A)(j:aE X.K fd ps ds)(n:aG dvs ds)(r:eh CX X E)
  (v:↥(eval (.Call (.Attribute o m apos) [] [] pos) X.env=(do
   let O <- eval o X.env
   standAt apos.atName
   let (f,first) <- mB [O] (getMethod O m pl)
   callWith pos f first (fy pos$ Δ [] X.env) (backToKw pos$ keywordEach [] X.env)))):
  PE X (.Call (.Attribute o m apos) [] [] pos) (yE C m sp dvs E ta aY):=by
 intro P s y H Q I h;erw[Tg (pl:=pl) (a8 (d P s y H _ I h) λu S z=>?_) v];let⟨x,G,i,R,a,J,L,B,D,l,q⟩:=z;subst B;obtain rfl:u=Θ a:=R;erw[K9 i D c b l ?_];rwa[U4 (first:=[.ref a]) i.kIn b.kp$ Xi (us:=[.ref a]) (vs:=[.ref a]) F g j n r i (.cons Z .nil) q]
structure Mk(K:β)(C f:ζ):Prop where
 makes:PySem.W.makesIn K C=μ
 init:findIn K (.ref C) "__init__"=δ (↑f)
 fn:isFn K (.ref f)=μ
 kp:gb K (.ref C)=μ
def xF(M:Mk X.K C f)(F:ai X.prog X.w X.K X.mg X.base CX k f fd ps sp)(l:bY (k+1) X.A)(n:aE X.K fd ps ds)(q:aG dvs ds)
  (y:eh CX X E) (I:ax X b c H s) (r:aG g U)
  (h:∀x d,H x=θ->H d=θ->d≠x->sp (.ref x::(g++dvs)) (af (af H d$ .own x) x$ .ins C d []) (λv z=>v= .non/\Q (.ref x) z) E):
  π (υ X.prog X.w) X.A (call (.ref C) U) (EP X b c Q) X.xe s:=by
 let j:=h (-s+1) (-s) (I.hok.fresh$ PY _) (I.hok.fresh$ Ou _) (OH$ P8 _);let i:=ax.made (C:=C) I;let R:aG (xm (-s+1)::(g++dvs)) (Θ (-s+1)::(U++ds)):=.cons Z (r.append q);let B:(Θ (-s+1)::U++ds).length=ο ps:=by let e:=R.length;rw[F.len _ _ _ _ j]at e;rwa[e.symm]
 refine Vb (wA (f:=f) I.kIn M.makes M.init (beq_iff_eq.mp M.fn) (Sb (F.run _ X.stack _ _ #[Θ (-s+1)::U,[]] (Θ (-s+1)::(U++ds)) _ _ E (l.make C U [])
  (i.env0.make C U []) (n _ (Θ (-s+1)::U) i.kIn B) R j) λr S a=>?_))
 cases r with
 |error e=>rwa[y b c _ _ e S i a]
 |ok D=>
  cases D with
  |ret u=>let⟨v,G,J,L,N,O⟩:=i.after a;subst N;exact#[L,#[xm$ -s+1,G,J,Z,O]]
  |next |brk |cont=>rwa[False.elim a]
def Xv(M:Mk X.K C f)(F:ai X.prog X.w X.K X.mg X.base CX k f fd ps sp)(c:bY (k+1) X.A)(d:Gl X x)(g:X.mg x=↑C)(j:aE X.K fd ps ds)(l:aG dvs ds)(n:eh CX X E)
  (u:PA X (e::es) t) (a:↥((x==("__debug__":ρ))=ν)) (v:↥(Δ (e::es) X.env=(ν,eval e X.env)::Δ es X.env)) (b:↥((fy pos$ Δ es X.env).any (·.1)=ν)):
  PE X (.Call (.Name x p) (e::es) [] pos) (Lp C sp dvs E t):=by
 intro P s y H Q I h;erw[Py$ qe I d g ?_ a];erw[Uo (h₀:=X.base) I.ok.mod.kin M.kp (a8 (u pos P s y H _ I h) λU S #[z,B,i,r,q]=>#[i.kIn,?_]) v b];rwa[xF M F c j l n i r q]
end
structure am(N P:xL ρ)(sc:ic):Prop where
 kind:sc.kind= .function
 co:sc.isCoroutine=ν
 gen:sc.isGenerator=ν
 nd:N.Nodup
 pre:N.take (ο P)=P
 par:∀x∈P,sc.names.lookup x=δ .local∨sc.names.lookup x=δ .cell
 nofree:∀y∈sc.names,y.2≠ .free
theorem QU{kindOf:ρ->ym NameKind}:∀{b:xL (ρ×η)} {m:ρ->ym η},(∀v,(x,v)∉b)->bindL kindOf b m x=m x
 | [],_,_=>rfl
 | (n,v)::r,m,h=>by
  unfold bindL;rw[QU λw H=>h w (OY _ H)];split
  .let:x≠n:=by rintro rfl;exact h v ON
   simp [this]
  .rfl
theorem QV{kindOf:ρ->ym NameKind}:∀{b:xL (ρ×η)} {m:ρ->ym η},(∀v,(x,v)∉b)->bindC kindOf b m x=m x
 | [],_,_=>rfl
 | (n,v)::r,m,h=>by
  unfold bindC;rw[QV λw H=>h w (OY _ H)];split
  .rfl
  .let:x≠n:=by rintro rfl;exact h v ON
   simp [this]
theorem QW{kindOf:ρ->ym NameKind}:∀{P:xL ρ} {V:xL η} {i:Nat} {m:ρ->ym η},P.Nodup->P[i]?=δ x->V[i]?=δ v->kindOf x=δ .local->
  bindL kindOf (P.zip V) m x=δ v
 | [],_,_,_,_,h,_,_ |_::_,[],_,_,_,_,h,_=>by simp at h
 |p::P,w::V,0,m,n,H,a,b=>by simp at H a;subst H;subst a;show bindL kindOf ((p,w)::P.zip V) m p=_;unfold bindL;rw[QU λv c=>(nk.mp n).1 (TB c).1,OB b];simp
 |p::P,w::V,i+1,m,n,H,a,b=>by show bindL kindOf ((p,w)::P.zip V) m x=_;unfold bindL;rwa[QW (i:=i) (nk.mp n).2 (H:) (a:) b]
theorem QX{kindOf:ρ->ym NameKind}:∀{P:xL ρ} {V:xL η} {i:Nat} {m:ρ->ym η},P.Nodup->P[i]?=δ x->V[i]?=δ v->kindOf x≠δ .local->
  bindC kindOf (P.zip V) m x=δ v
 | [],_,_,_,_,h,_,_ |_::_,[],_,_,_,_,h,_=>by simp at h
 |p::P,w::V,0,m,n,H,a,b=>by simp at H a;subst H;subst a;show bindC kindOf ((p,w)::P.zip V) m p=_;unfold bindC;rw[QV λv c=>(nk.mp n).1 (TB c).1,OD b];simp
 |p::P,w::V,i+1,m,n,H,a,b=>by show bindC kindOf ((p,w)::P.zip V) m x=_;unfold bindC;rwa[QX (i:=i) (nk.mp n).2 (H:) (a:) b]
def iw(N:xL ρ)(v:xL V):St:=v.map δ++lq (ο N - ο v) θ
def gK(C:sq)(P:ψ)(w:bF)(K:β)(mg:ρ->ym η)(base:de)(N:xL ρ)(q:ρ)(S:ic)(f:ζ)(c:η)(A:bS)(outer:xL Env)(s:ι)(H:Hp)(E:XK):Cx where
 prog:=P
 w:=w
 K:=K
 mg:=mg
 base:=base
 A:=A.deeper (envOfC q S (-s) f c)
 N:=N
 s₀:=s
 H₀:=H
 env:=envOfC q S (-s) f c
 outer:=outer
 stack:=envOfC q S (-s) f c::outer
 ex:=[]
 calm:=μ
 fn:=λ_=>μ
 pn:=[]
 xe:=λe b=>π (υ P w) (A.deeper$ envOfC q S (-s) f c) (leaving (envOfC q S (-s) f c) e) (λ_ a=>C outer H s E e a) (λd a=>C outer H s E d a) b
def X2{s:ic}{n:Nat}(h:s.names.lookup x=δ .cell):∃c,(cellsFrom n s.names []).lookup x=δ c:=by let q:=UJ s.names n [] (.inl h);rwa[ti.mp q]
def tq{P:ψ}{K:β}{A:bS}{l:xL V}
  (S:am N t d) (O:A.handled=θ) (j:oH P w K M B A o s H) (hl:ο l=ο t) (r:aG l U)
  (x:InCallC s (-s) (bindL (envOfC Q d (-s) f I).kindOf (t.zip U) λ_=>θ) (cellsFrom (-s+1) d.names []) (bindC (envOfC Q d (-s) f I).kindOf (t.zip U) λ_=>θ) T):
  ax (gK Y P w K M B N Q d f I A o s H E) [] (iw N l) H T:=by
 let R:ο t<=ο N:=by let:=PL rz S.pre;rw[OZ]at this;omega
 let⟨F,tk,rfl,J⟩:=x.done;let m:∀b:ζ,b∉(gK Y P w K M B N Q d f I A o s H E).ex:=λb z=>absurd (show b∈([]:xL ζ) from z) NN;refine#[#[j.mod,S.kind,Z,Z,Ou _,λy z c F g=>?_,λy hy=>?_,λy c _ h=>?_,λ_=>O,Around.frames_deeper j.frames,.inr #[Z,Z],λb z=>absurd z (m b),j.bs,j.bsz,λb _ _=>m b,λb z=>absurd z (m b),j.funs,j.frf],
  rfl,j.bare,Un.kept J,#[_,x.toInCall.ns,λi y v F g h3=>?_],λy c h=>#[_,x.cell y c h],j.hok.fresh$ Ou _,λy c h=>?_,λp C=>absurd (show p∈([]:xL (ζ×hG)) from C) NN,j.hok.kept J,?_]
 .rwa[name_of_addr x.apart (P9 F)$ P9 g]
 .let hy:d.names.lookup y=δ .cell∨d.names.lookup y=δ .free:=hy;rcases hy with hy |hy
  .rwa[X2 hy]
  .rwa[absurd Z$ S.nofree _$ P9 hy]
 .rwa[RE$ x.above y c$ P9 h]
 .let G:i < ο l:=by
   unfold iw at g;by_cases G:i < ο l
   .rwa[G]
   .rw[Rs (G:)]at g;rw[U0]at g;split at g<;>cases g
  let W:l[i]?=δ v:=by
   unfold iw at g;rw[Rx (G:),OL]at g;cases e:l[i]? with
   |none=>rw[e]at g;cases g
   |some a=>rw[e]at g;cases g;rfl
  let⟨u,L,X⟩:=r.get W;let C:t[i]?=δ y:=by rw[<- S.pre,List.getElem?_take_of_lt NO];rwa[F]
  let D:t.Nodup:=by rw[<- S.pre];rwa[S.nd.sublist$ RB _ _]
  erw[#[u,X,?_]];rcases S.par y (OX C) with k |k
  .rwa[.inl #[k,QW D C L k]]
  .let⟨c,e⟩:=X2 (n:=-s+1) k;erw[.inr #[.inl k,c,e,?_]];let q:=x.cell y c e;rw[QX D C L (by show d.names.lookup y≠_;rw[k];decide)]at q;rwa[q]
 .rwa[j.hok.fresh$ RE$ x.above y c$ P9 h]
 .unfold iw;show _=ο N;rw[Ot,Oq,TN];omega
def C7{P:ψ}{K:β}{kV:η}
    {G:Sp} (lk:K.lookup f=δ #[oc,od,.func$ tz name c p h a dV kV L pm an C ct,o1]) (M:codeIn K C c=μ) (S:am N T a)
  (len:∀d H Q E,G d H Q E->ο d=ο T)
  (j:∀(A:bS) (O:xL Env) (s:ι) (H:Hp) (d:xL V) (Q:VK) (E:XK),bY k (A.deeper$ envOfC c a (-s) f C)->G d H Q E->
   ∃t,nG (gK U P w K Y B N c a f C A O s H E) h t/\t { nx:=λ_ i=>Q .non i,rt:=Q } (iw N d) H):
  ai P w K Y B U (k+1) f (tz name c p h a dV kV L pm an C ct) T G:=by
 erw[#[len,λA O s H a0 us d Q E R z hb r D=>?_]];let hl:=len _ _ _ _ D;let KX:K.In s.heap:=z.mod.kin.keeps λb o e=>(z.bs b o e).1;let X:s.heap.NoLimit:=z.mod.nolimit.keeps λb o e=>(z.bs b o e).1;let l:∀y∈T.zip us,a.names.lookup y.1=δ .local∨(a.names.lookup y.1=δ .cell/\((cellsFrom (-s+1) a.names []).lookup y.1).isSome=μ):=λ#[n,v] hy=>by
  rcases S.par n (TB hy).1 with q |q
  .rwa[.inl q]
  .rwa[.inr #[q,UJ _ _ _$ .inl q]]
 erw[codeAny_call_function R.depth (KX _ _ lk) Z S.co S.gen Z (PySem.W.codeRec_of KX M)$ hb _ _ _ _ ?_];erw[wpAny_newFunctionEnv_cells S.kind l λe1 he s1 x=>?_];subst he;erw[#[X.keeps x.toInCall.keep,codeAny_func ?_]];let⟨t,ht,hq⟩:=j A O s H d Q E (R.deeper _) D;let I:ax (gK U P w K Y B N c a f C A O s H E) [] (iw N d) H s1:=tq S R.hd z hl r x;erw[Px (ht [] s1 (iw N d) H _ I hq) (λfl s' m=>?_) λe s' m=>m];let F:∀{g:St} {i:Hp} {v:V} {u:η},ax (gK U P w K Y B N c a f C A O s H E) [] g i s'->aK v u->Q v i->CE O P w H s Q u s':=
  λ{g i v u} J rv q=>#[v,i,J.os,J.bare,J.base,J.hok,rv,q]
 cases fl with
 |ret u=>let⟨v,g,i,J,rv,q⟩:=m;rwa[F J rv q]
 |next=>let⟨g,i,J,q⟩:=m;rwa[F (v:=V.non) (u:=Ω) J Z q]
 |brk |cont=>let⟨_,_,_,q⟩:=m;rwa[False.elim q]
section
variable {X:Cx}{x:ρ}{p pos:Pos}{e:dr}{es:xL dr}{t:TA}{id T:String}{r:xL V->Hp->VK->Prop}
def LU(r:xL V->Hp->VK->Prop)(t:TA):TE:=λa H Q=>t a H λv h=>r v h Q
def jO(d:fo X (.builtin id) r)(f:Gl X x)(g:X.mg x=θ)(i:bootBuiltins x=δ (.builtin id))(j:PA X (e::es) t)(k:↥(x≠"__name__"))(a:↥((x==("__debug__":ρ))=ν))
  (l:↥(Δ (e::es) X.env=(ν,eval e X.env)::Δ es X.env)) (b:↥((fy pos$ Δ es X.env).any (·.1)=ν)):PE X (.Call (.Name x p) (e::es) [] pos) (LU r t):=by
 intro P s c H Q I h;erw[Py$ zQ I f g i ?_ k a];rwa[PyProof.Rows.callWith_builtin1 (a8 (j pos P s c H _ I h) λu S #[v,m,n,R,q]=>d P S c m v u Q n R q) l b]
def jI(d:fo X (.type T) r)(f:Gl X x)(g:X.mg x=θ)(i:bootBuiltins x=δ (.type T))(j:PA X (e::es) t)(k:↥(x≠"__name__"))(a:↥((x==("__debug__":ρ))=ν))
  (l:↥(Δ (e::es) X.env=(ν,eval e X.env)::Δ es X.env)) (b:↥((fy pos$ Δ es X.env).any (·.1)=ν)):PE X (.Call (.Name x p) (e::es) [] pos) (LU r t):=by
 intro P s c H Q I h;erw[Py$ zQ I f g i ?_ k a];rwa[Pf (a8 (j pos P s c H _ I h) λu S #[v,m,n,R,q]=>d P S c m v u Q n R q) l b]
end
end _L
namespace HT
open PySem PyProof.Rows
section
#print v
def cat_tup{v W:xL η}{Q:η->ι->Prop}(m:IsTup s.heap t v.toArray)(o:IsTup s.heap b W.toArray)(i:v≠[])
  (p:W=[]->Q (.ref t) s) (q:W≠[]->Q (.ref (-s)) ‹s.heap.push { cls:=.type "tuple",data:=.seq (v++W).toArray }›)
  (g:ο v+ο W<=τ):π (υ prog w) A (binaryOp .Add (.ref t)$ .ref b) Q E s:=by
 obtain⟨⟨cls,D,data,j⟩,c,k,n,l⟩:=id m;obtain⟨⟨C,d,data2,S⟩,h,H,N,a⟩:=id o;simp only at k l H a;subst k l H a;let e:v.toArray++W.toArray=(v++W).toArray:=by simp
 by_cases f:W=[]
 .exact VA #[_,c,Z] #[_,h,Z] UH Vm Tc SW (SV _ _)
   (tuple_addW1 t b v.toArray W.toArray n N D d j S (i:) (by simp [f])) #[c,h,p f]
 .refine VA #[_,c,Z] #[_,h,Z] UH Vm Tc SW (SV _ _)
   (tuple_addW2 t b v.toArray W.toArray n N D d j S (i:) (f:) (by rw[Ov,Ov];rwa[g])) #[c,h,?_]
  rw[e];rwa[q f]
def sIx(n d:Nat):ym Int->Nat
 |none=>d
 |some v=>if v < 0 then (v+(n:Int)).toNat else min v.toNat n
def sIx_none(n d:Nat):sIx n d θ=d:=rfl
def sIx_nat(n d k:Nat):sIx n d (δ (k:Int))=min k n:=by show(if (k:Int) < 0 then ((k:Int)+(n:Int)).toNat else min (k:Int).toNat n)=min k n;rw[OD NO,Ph]
def FS(n d:Nat)(H:d<=n)(o:ym Int):sIx n d o<=n:=by
 cases o with
 |none=>rwa[H]
 |some v=>
  show(if v < 0 then (v+(n:Int)).toNat else min v.toNat n)<=n;by_cases h:v < 0
  .rw[OB h];omega
  .rw[OD h];rwa[Nat.min_le_right _ _]
def ZT(v:Int)(n d:Nat):(if v < 0 then max (v+(n:Int)) 0 else min v (n:Int))=((sIx n d (δ v):Nat):Int):=by
 show(if v < 0 then max (v+(n:Int)) 0 else min v (n:Int))=(((if v < 0 then (v+(n:Int)).toNat else min v.toNat n):Nat):Int);by_cases h:v < 0
 .simp only[OB h];omega
 .simp only[OD h];omega
def Y8(lo h:ym Int)(n:Nat):ly lo h 1 (n:Int)=(((sIx n 0 lo:Nat):Int),((sIx n n h:Nat):Int)):=by
 let H:¬((1:Int) < 0):=NO
 unfold ly;simp only[H,PX];erw[Prod.ext ?_ ?_]
 .cases lo with
  |none=>rfl
  |some v=>rwa[ZT v n 0]
 .cases h with
  |none=>rfl
  |some v=>rwa[ZT v n n]
def Y9(i j:Nat):im (i:Int) (j:Int) 1=j - i:=by
 unfold im;let h:(1:Int) > 0:=NO
 simp only[h,SN,Int.ediv_one];split<;>omega
def Qb{Q:ym Int->ι->Prop}(p:IsPart v o)(h:Q o s):π (υ prog w) A (Builtin.Slice.slicePartIndex v) Q E s:=by
 cases p with
 |none=>rwa[slicePart_none h]
 |int i t=>rwa[slicePart_int h]
def sliceApplied_gen{lo:ym Int}{Q:Int×Int×Nat->ι->Prop}(d:s.heap.IsSliceOf e v c .none)(p:IsPart v lo)(P:IsPart c b)
  (h:Q (((sIx n 0 lo:Nat):Int),1,sIx n n b - sIx n 0 lo) s):π (υ prog w) A (pq (.ref e)$ pure (n:Int)) Q E s:=by
 let⟨os,H,f,a⟩:=id d;unfold pq Builtin.Slice.sliceFields;erw[Om$ Om$ O0 H a (x:=v) Z$ Om$ O0 H a (x:=c) Z$ Om$ O0 H a (x:=.none) Z$ Op ?_];erw[Om$ slicePart_none ?_];show π _ _ (if ((1:Int)==0)=μ then _ else _) _ _ s;rw[OD NP];erw[Om$ Qb p$ Om$ Qb P$ Om$ Op ?_];show π _ _ (match ly lo b 1 (n:Int) with | (lo,b)=>pure (lo,(1:Int),im lo b 1)) _ _ s;rw[Y8 lo b n];show π _ _ (pure (((sIx n 0 lo:Nat):Int),(1:Int),im ((sIx n 0 lo:Nat):Int) ((sIx n n b:Nat):Int) 1)) _ _ s;rw[Y9];rwa[Op h]
def xq(X:Array η)(i k:Nat):((dw k).filterMap λ(m:Nat)=>X[((i:Int)+(m:Int)*1).toNat]?).toArray=((X.toList.drop i).take k).toArray:=by
 let e:(λ(m:Nat)=>X[((i:Int)+(m:Int)*1).toNat]?)=λm=>X[i+m]?:=by
  funext m;let:((i:Int)+(m:Int)*1).toNat=i+m:=NO
  rw[this]
 rw[e];let:=pick_run X i k;rw[List.filterMap_map]at this;let a:((λx=>X[x]?) ∘ λx=>i+x)=λm=>X[i+m]?:=rfl;rw[a]at this;rw[this]
def getItem_tuple_cut{lo:ym Int}{Q:η->ι->Prop}(ht:IsTup s.heap t items)(hs:s.heap.IsSliceOf sl vl vu .none)(pl:IsPart vl lo)(pu:IsPart vu hi)
  (hw:¬(sIx items.size 0 lo=0/\sIx items.size items.size hi=items.size))
  (h:Q (.ref (-s)) ‹s.heap.push { cls:=.type "tuple",data:=.seq ((items.toList.drop$ sIx items.size 0 lo).take$ sIx items.size items.size hi - sIx items.size 0 lo).toArray }›)
  (hsz:items.size<=τ):π (υ prog w) A (getItem (.ref t)$ .ref sl) Q E s:=by
 let htake:sizeOk (.seq ((items.toList.drop$ sIx items.size 0 lo).take$ sIx items.size items.size hi - sIx items.size 0 lo).toArray):=by show((items.toList.drop$ sIx items.size 0 lo).take$ sIx items.size items.size hi - sIx items.size 0 lo).toArray.size<=τ;rw[Ov,OZ,Ri,OT];rwa[N09]
 let hj:sIx items.size items.size hi<=items.size:=FS _ _ (Ou _) hi;let⟨os,hos,hcs,hds⟩:=id hs;let hTs:s.TypeIs (.ref sl) "slice":=#[os,hos,hcs];unfold getItem;try with_reducible erw[OV ?_]
 first |refine Om (Op ?_) |skip
 erw[Om$ Uu ht.typeIs NP ?_];refine Om (Pa (name:=Str.ofString "__getitem__") ht.typeIs Ru
  (O7 Ru ht.typeIs entry_tuple_getitem ?_$ args_tuple_getitem _ _))
 show π _ _ (pz (.ref t) >>= _) _ _ s;erw[Om$ tupleItemsOf_ ht ?_];erw[Om$ Rt hTs ?_];rw[OB NP];erw[Om$ sliceApplied_gen hs pl pu ?_];let hno:¬((((sIx items.size 0 lo:Nat):Int)==0&&(1:Int)==1&&(sIx items.size items.size hi - sIx items.size 0 lo)==items.size)=μ):=by intro q;rw[PU,PU]at q;let q1:((sIx items.size 0 lo:Nat):Int)=0:=eq_of_beq q.1.1;let q2:sIx items.size items.size hi - sIx items.size 0 lo=items.size:=eq_of_beq q.2;rwa[hw #[NO,N09]]
 show π _ _ (if (((sIx items.size 0 lo:Nat):Int)==0&&(1:Int)==1&&(sIx items.size items.size hi - sIx items.size 0 lo)==items.size)=μ then _ else _) _ _ s;rw[OD hno,xq];first
  |exact Om (m:=ef _) (Pd (Op #[_,Z,Op h]) htake)
  |exact Om (m:=ef _) (Pd (Om (Op (Op #[_,Z,Op h]))) htake)
  |exact Om (Om (m:=ef _) (Pd (Op (Op #[_,Z,Op h])) htake))
  |exact Om (Om (m:=ef _) (Pd (Op #[_,Z,Op h]) htake))
end
end HT
namespace _L
open PySem PySem.Spec PyProof.Rows
abbrev TO:=St->Hp->(ym Int->Hp->Prop)->Prop
def PO(X:Cx)(e:ym dr)(t:TO):Prop:=
 ∀(p:xL (ζ×hG)) (s:ι) (a:St) (H:Hp) (Q:ym Int->Hp->Prop),ax X p a H s->t a H Q->
  π (υ X.prog X.w) X.A (evalPart e X.env) (λu S=>∃o h,ax X p a h S/\IsPart u o/\Q o h) X.xe s
def ny:TO:=λ_ H Q=>Q θ H
inductive yI(Q:ym Int->Hp->Prop)(x:V)(a:Hp):Prop
 |mk(i:_)(_:x= .int i)(_:Q (δ i) a)
def oq(t:TE):TO:=λa H Q=>t a H (yI Q)
section
variable {X:Cx}{e:dr}{te:TE}{lo hi:ym dr}{tl th:TO}{pos p2:Pos}
def jT:PO X θ ny:=by intro p s a H Q I h;rw[evalPart_none];rwa[Op #[θ,H,I,.none,h]]
def jG(h:PE X e te):PO X (δ e) (oq te):=by intro p s a H Q I b;rw[evalPart_some];erw[a8 (h p s a H _ I b) λu S z=>?_];let⟨x,c,d,r,f⟩:=z;let⟨i,rfl,q⟩:=f;let⟨t,rfl⟩:=r;exact#[δ i,c,d,.int i t,q]
def LI(X:Cx)(r:V->ym Int->ym Int->Hp->VK->Prop):Prop:=
 ∀(p:xL (ζ×hG)) (s:ι) (a:St) (H:Hp) (x:V) (v b c:η) (lo hi:ym Int) (S:ζ) (Q:VK),ax X p a H s->aK x v->s.heap.IsSliceOf S b c .none->IsPart b lo->IsPart c hi->r x lo hi H Q->
  ∃T id,typeLookup (.type T) "__getitem__"=pure (δ$ .builtin id)/\s.TypeIs v T/\π (υ X.prog X.w) X.A (getItem v$ .ref S) (EP X p a Q) X.xe s
def LV(r:V->ym Int->ym Int->Hp->VK->Prop)(te:TE)(tl th:TO):TE:=λa H Q=>te a H λx h=>tl a h λl b=>th a b λu c=>r x l u c Q
def jJ{r:V->ym Int->ym Int->Hp->VK->Prop}(g:LI X r)(i:PE X e te)(j:PO X lo tl)(k:PO X hi th):PE X (.Subscript e (.Slice lo hi θ p2) pos) (LV r te tl th):=by intro p s a H Q I h;erw[Wi$ a8 (i p s a H _ I h) λv m z=>?_];let⟨x,n,o,R,t⟩:=z;erw[wpAny_Slice$ a8 (j p m a n _ o t) λc y #[l,B,C,P,D]=>a8 (k p y a B _ C D) λd S z=>?_];let⟨u,f,E,F,G⟩:=z;rw[evalPart_none];erw[Op ?_];let J:ax X p a f { S with heap:=S.heap.push { cls:=.type "slice",data:=.fields (ε [c,d,.none]) } }:=E.kept (t':=S.toks) λb O q=>Oo _ q;let⟨T,id,K,L,M⟩:=g p { S with heap:=S.heap.push { cls:=.type "slice",data:=.fields (ε [c,d,.none]) } } a f x v c d l u (-S) Q J R (Ut ..) P F G;show π (υ X.prog X.w) X.A (subscriptTail e (.Slice lo hi θ p2) v$ .ref (-S)) (EP X p a Q) X.xe { S with heap:=S.heap.push { cls:=.type "slice",data:=.fields (ε [c,d,.none]) } };rwa[tail_any (ops:=[.ref (-S),v]) L K M (by with_unfolding_all rfl)]
def aT(x:xL V)(lo hi:ym Int):xL V:=(x.drop$ HT.sIx x.length 0 lo).take (HT.sIx x.length x.length hi - HT.sIx x.length 0 lo)
def zp(x:xL V)(lo hi:ym Int):(aT x lo hi).length<=ο x:=by unfold aT;rw[OZ,Ri];omega
inductive IU(K:β)(x:V)(c b:ym Int)(H:Hp)(Q:VK):Prop
 |mk(a d:_)(_:x= .ref a)(_:aF K H a d)(_:¬(HT.sIx d.length 0 c=0/\HT.sIx d.length d.length b=ο d))(_:∀p,H p=θ->Q (.ref p) (af H p (.tup (aT d c b))))
def Gi:LI X (IU X.K):=by
 intro p s n H x v V t lo hi S Q I R j P k h;let⟨a,d,rfl,l,m,q⟩:=h;cases R;let⟨i,r,f,g⟩:=I.tuple l;let c:i.toArray.size=ο d:=by rw[Ov];rwa[r.length.symm]
 erw[#["tuple",_,PyProof.Rows.slot_tuple_getitem.lookup,f.typeIs,?_]];erw[HT.getItem_tuple_cut f j P k (by rw[c];rwa[m]) ?_ (by rw[c];rwa[g])];rw[c];erw[#[.ref (-s),_,I.laid (t':=s.toks) (o:=.tup (aT d lo hi)) (λb O q=>Oo _ q) (Ou _) ?_,Z,q _$ I.hok.fresh$ Ou _]];exact#[OK (zp d lo hi) g,_,(r.drop$ HT.sIx d.length 0 lo).take$ HT.sIx d.length d.length hi - HT.sIx d.length 0 lo,VG _ _]
inductive Do(K:β)(x y:V)(H:Hp)(Q:VK):Prop
 |mk(a b c d:_)(_:x= .ref a)(_:y= .ref b)(_:aF K H a c)(_:aF K H b d)(_:c≠[])(_:ο c+ο d<=τ)(_:d=[]->Q (.ref a) H)(_:d≠[]->∀p,H p=θ->Q (.ref p) (af H p (.tup (c++d))))
def aG.nil_iff(r:aG x u):u=[]↔x=[]:=by
 cases r with
 |nil |cons _ _=>simp
def Bv:fq X (binaryOp .Add) (Do X.K):=by intro p s A H x y v u Q I d f h;let⟨a,b,g,Y,rfl,rfl,j,k,l,c,m,n⟩:=h;cases d;cases f;let⟨t,R,P,_⟩:=I.tuple j;let⟨i,r,p2,_⟩:=I.tuple k;erw[HT.cat_tup P p2 (λz=>l (R.nil_iff.mp z)) (λz=>#[.ref a,H,I,Z,m$ r.nil_iff.mp z]) (λz=>?_) (by rw[<- R.length,<- r.length];rwa[c])];erw[#[.ref (-s),_,I.laid (t':=s.toks) (o:=.tup (g++Y)) (λb O q=>Oo _ q) (Ou _) ?_,Z,n (λw=>z (r.nil_iff.mpr w)) _$ I.hok.fresh$ Ou _]];exact#[by rw[Ot];rwa[c],_,R.append r,VG _ _]
end
def oV(n:Nat)(i:Int):ym Nat:=if 0<=i then (if i < n then δ i.toNat else θ) else if -(n:Int)<=i then δ (i+n).toNat else θ
def eV{a:Type}(x:xL a)(i:Int):ym a:=(oV x.length i).bind λj=>x[j]?
def ZU(h:oV n i=δ j):seqIndex? i n=δ j/\j < n/\ -(n:Int)<=i/\i < n:=by
 unfold oV at h;by_cases a:0<=i
 .rw[OB a]at h;by_cases H:i < n
  .rw[OB H]at h;let e:i.toNat=j:=Po h;exact#[by rw[VU a H,e],NO,NO,H]
  .rw[OD H]at h;cases h
 .rw[OD a]at h;by_cases H: -(n:Int)<=i
  .rw[OB H]at h;let e:(i+n).toNat=j:=Po h;exact#[by rw[Vy NO H,e],NO,H,NO]
  .rw[OD H]at h;cases h
def Xw{a:Type}{x:xL a}{v:a}(h:eV x i=δ v):∃j,seqIndex? i (ο x)=δ j/\x[j]?=δ v/\j < ο x/\ -(x.length:Int)<=i/\i < ο x:=by
 unfold eV at h;cases e:oV x.length i with
 |none=>rw[e]at h;cases h
 |some j=>rw[e]at h;let⟨H,b,c,d⟩:=ZU e;exact#[j,H,h,b,c,d]
def jH{a:Type}{x:xL a}{j:Nat}{v:a}(h:x[j]?=δ v):eV x (j:Int)=δ v:=by
 let H:j < ο x:=(ξ.mp h).1;let e:oV x.length (j:Int)=δ j:=by unfold oV;rw[OB NO,OB NO];simp
 unfold eV;rw[e];rwa[h]
def Am(b:dr):Prop:=∀o i,subscripted b ν o i=operate [o,i] (getItem o i)
def Hi(X:Cx)(r:R2):Prop:=
 ∀(a S:dr) (p:xL (ζ×hG)) (s:ι) (b:St) (H:Hp) (x y:V) (v u:η) (Q:VK),ax X p b H s->aK x v->aK y u->r x y H Q->
  subscripted S ν v u=operate [v,u] (getItem v u)->π (υ X.prog X.w) X.A (subscriptTail a S v u) (EP X p b Q) X.xe s
def Mb(X:Cx)(id:String)(r:V->xL V->Hp->VK->Prop):Prop:=
 ∀(p:xL (ζ×hG)) (s:ι) (a:St) (H:Hp) (x:V) (b:xL V) (v:η) (u:xL η) (Q:VK),ax X p a H s->aK x v->aG b u->r x b H Q->
  π (υ X.prog X.w) X.A (call (.builtin id) (v::u)) (EP X p a Q) X.xe s
section
variable {X:Cx}{a b:dr}{ta tb:TE}{pos:Pos}
def jq{r:R2}(c:Hi X r)(d:PE X a ta)(e:PE X b tb)(f:Am b):PE X (.Subscript a b pos) (fc r ta tb):=by intro p s g H Q I h;rwa[Wi$ DU d e I h λv u S x y i j R k q=>c a b p S g i x y v u Q j R k q (f _ _)]
inductive lV(K:β)(x y:V)(H:Hp)(Q:VK):Prop
 |mk(p a i v:_)(_:x= .ref p)(_:y= .int i)(_:aL K H p a)(_:eV a i=δ v)(_:Q v H)
inductive db(K:β)(x y:V)(H:Hp)(Q:VK):Prop
 |mk(p a i v:_)(_:x= .ref p)(_:y= .int i)(_:aF K H p a)(_:eV a i=δ v)(_:Q v H)
inductive BJ(x y:V)(H:Hp)(Q:VK):Prop
 |mk(z i c:_)(_:x= .str z)(_:y= .int i)(_:z.length<=τ)(_:eV z.cps.toList i=δ c)(_:Q (.str #[(ε [c])]) H)
def ju:Hi X (lV X.K):=by
 intro V S P s k H x y v u Q I n o h l;let⟨p,L,i,z,rfl,rfl,A,B,q⟩:=h;cases n;let⟨t,rfl⟩:=o;let⟨d,r,e,M⟩:=I.list A;let⟨j,c,C,N,D,F⟩:=Xw B;let⟨w,E,R⟩:=r.get C;let G:=r.length;let O:=gf;let f:EP X P k Q w s:=#[z,H,I,R,q];by_cases m:0<=i
 .let g:i.toNat=j:=by rw[VU m F]at c;exact Po c
  rwa[item_listR e.isList m NO (by rw[g];simpa using E) f l]
 .let g:(i+(d.toArray.size:Int)).toNat=j:=by rw[Vy NO D]at c;rw[Ov,<- G];exact Po c
  exact Vx (x:=w) e.isList.typeIs slot_list_getitem.lookup
   (wpAny_getItem_list_neg (Q:=λr J=>r=w/\EP X P k Q r J) e.isList NO (by rw[Ov]<;>omega) NO (by rw[g];simpa using E) #[Z,f]) l
def jE:Hi X (db X.K):=by
 intro V S P s c H x y v u Q I e g h k;let⟨p,D,i,z,rfl,rfl,l,m,q⟩:=h;cases e;let⟨t,rfl⟩:=g;let⟨n,r,d,F⟩:=I.tuple l;let⟨j,o,A,G,J,L⟩:=Xw m;let⟨w,E,R⟩:=r.get A;let B:=r.length;let M:=gf;let f:EP X P c Q w s:=#[z,H,I,R,q];exact Vx (x:=w) d.typeIs slot_tuple_getitem.lookup
  (getItem_tuple (j:=j) (Q:=λr C=>r=w/\EP X P c Q r C) d NO NO (by rw[Ov,<- B];rwa[o]) (E:) #[Z,f]) k
def KC:Hi X BJ:=by
 intro V S p s o H x y v u Q I r R h e;let⟨z,i,c,rfl,rfl,w,f,q⟩:=h;let⟨t,rfl⟩:=r;let⟨T,rfl⟩:=R;let⟨j,d,g,A,k,l⟩:=Xw f;let m:ο z.cps.toList=z.length:=by simp [Str.length]
 rw[m]at d k l;let B:=gf;exact tail_any (typeIs_str s z t) slot_str_getitem.lookup (getItem_str (c:=c) (by
  let E:decide (i < -(2 ^ 63:Int))=ν:=Oz NO;let n:decide (i≥2 ^ 63)=ν:=Oz NO;rw[E,n,UW]) (by rw[d];simpa using g) #[.str #[(ε [c])],H,I.tok _,#[_,Z],q]) e
def Za(i:xL η)(n j:Nat)(u:η):γ (·.setIfInBounds j u) { cls:=.type "list",data:=.seq i.toArray n }={ cls:=.type "list",data:=.seq (i.set j u).toArray n }:=by simp [γ]
def ax.lst(I:ax X c d H s)(h:H p=δ (.lst x)):
  ∃(i:xL η) (n:Nat),aG x i/\s.heap.get? p=δ { cls:=.type "list",data:=.seq i.toArray n }/\ο x<=τ:=by
 let⟨z,i,n,r,e⟩:=I.hok p _ h;exact#[i,n,r,e,z]
def ax.lstUpd{c i:xL η}{f:hG->hG}(I:ax X d j H s)(h:H p=δ (.lst o))
  (k:s.heap.get? p=δ { cls:=.type "list",data:=.seq c.toArray n }) (g:f { cls:=.type "list",data:=.seq c.toArray n }={ cls:=.type "list",data:=.seq i.toArray N }) (r:aG y i) (l:ο y<=τ) (t:Nat):
  ax X d j (af H p$ .lst y) { s with heap:=s.heap.update p f,toks:=t }:=by
 let e:(s.heap.update p f).get? p=δ { cls:=.type "list",data:=.seq i.toArray N }:=by rw[Heap.get?_update_self f k (by rw[g]<;>rfl),g]
 erw[I.write (x:=p) (e:=p) (by rw[h];trivial) (.inl Z) (λb u m q=>(Heap.get?_update_other _ _$ Ne.symm m).trans q) #[_,e] ?_];exact#[l,i,N,r,e]
inductive rC(o i v:V)(H:Hp)(Q:Hp->Prop):Prop
 |mk(p a k j:_)(_:o= .ref p)(_:i= .int k)(_:H p=δ (.lst a))(_:oV a.length k=δ j)(_:Q (af H p (.lst (a.set j v))))
def kM:Hm X rC:=by
 intro P s z H o i v O F u Q I R A B h;let⟨p,C,k,j,rfl,rfl,l,D,q⟩:=h;cases R;let⟨t,rfl⟩:=A;let⟨c,n,r,e,E⟩:=I.lst l;let⟨d,G,m,w⟩:=ZU D;let f:=r.length;let J:=gf;let x:ax X P z (af H p$ .lst$ C.set j v) ‹s.heap.update p (γ (·.setIfInBounds j u))›:=
  I.lstUpd l e (Za c n j u) (r.set B j) (by rw[TC];rwa[E]) s.toks
 by_cases y:0<=k
 .let g:k.toNat=j:=by rw[VU y w]at d;exact Po d
  rwa[PySem.W.ki_setAt e y NO (by rw[Ov,<- f];rwa[w]) (by rw[g];exact#[_,x,q])]
 .let g:(k+(c.toArray.size:Int)).toNat=j:=by rw[Vy NO m]at d;rw[Ov,<- f];exact Po d
  rwa[PySem.W.ki_setBack e NO (by rw[Ov,<- f];rwa[m]) NO (by rw[g];exact#[_,x,q])]
def XH(lo H:ym Int)(n:Nat):(sliceBounds lo H θ n).1=((HT.sIx n 0 lo:Nat):Int)/\(sliceBounds lo H θ n).2.1=((HT.sIx n n H:Nat):Int)/\(sliceBounds lo H θ n).2.2=1:=by
 erw[#[?_,?_,Z]]
 .cases lo with
  |none=>simp [sliceBounds,HT.sIx]
  |some i=>
   simp only[sliceBounds,HT.sIx,Ug,show(1:Int) > 0 by decide,SN];by_cases h:i < 0
   .simp only[h,SN]<;>omega
   .simp only[h,PX]<;>omega
 .cases H with
  |none=>simp [sliceBounds,HT.sIx]
  |some i=>
   simp only[sliceBounds,HT.sIx,Ug,show(1:Int) > 0 by decide,SN];by_cases h:i < 0
   .simp only[h,SN]<;>omega
   .simp only[h,PX]<;>omega
def Qx(i:xL η)(lo h:ym Int):slicePick i.toArray lo h θ=((i.drop$ HT.sIx i.length 0 lo).take$ HT.sIx i.length i.length h - HT.sIx i.length 0 lo).toArray:=by let⟨H,c,d⟩:=XH lo h i.toArray.size;unfold slicePick;rw[H,c,d];simp only[sliceRange_one,pick_run,Ov]<;>rfl
inductive BK(K:β)(x:V)(c b:ym Int)(H:Hp)(Q:VK):Prop
 |mk(a d:_)(_:x= .ref a)(_:aL K H a d)(_:∀p,H p=θ->Q (.ref p) (af H p (.lst (aT d c b))))
def kj:LI X (BK X.K):=by intro p s m H x v V n lo e S Q I R g P i h;let⟨a,c,rfl,j,q⟩:=h;cases R;let⟨k,r,f,l⟩:=I.list j;let d:=r.length;erw[#["list",_,slot_list_getitem.lookup,f.isList.typeIs,?_]];erw[wpAny_getItem_list_slice f.isList g P i .none NN ?_ (by rw[Ov]<;>omega)];rw[Qx,<- d];erw[#[.ref (-s),_,I.laid (t':=s.toks) (o:=.lst (aT c lo e)) (λb O q=>Oo _ q) (Ou _) ?_,Z,q _$ I.hok.fresh$ Ou _]];exact#[OK (zp c lo e) l,_,0,(r.drop$ HT.sIx c.length 0 lo).take$ HT.sIx c.length c.length e - HT.sIx c.length 0 lo,Oy _ Z]
def dC:V->Bool
 | .non | .bl _ | .int _ | .str _=>μ
 |_=>ν
def oE:V->V->Bool
 | .non,.non=>μ
 | .bl a,.bl b=>a==b
 | .bl a,.int b=>(if a then 1 else 0)==b
 | .int a,.bl b=>a==(if b then 1 else 0)
 | .int a,.int b | .str a,.str b=>a==b
 |_,_=>ν
def vG(R:aK y u)(r:aK x v)(F:dC y=μ)(f:dC x=μ):SeqAt.EqAt A s u v (oE y x):=by
 cases y with
 |non=>
  cases R;cases x with
  |non=>cases r;rwa[SeqAt.EqAt.same _]
  |bl b=>cases r;rwa[SeqAt.EqAt.none_bool b]
  |int b=>let⟨t,rfl⟩:=r;rwa[SeqAt.EqAt.none_int b t]
  |str b=>let⟨t,rfl⟩:=r;rwa[SeqAt.EqAt.none_str b t]
  |_=>rwa[absurd (show ν=μ from f) OG]
 |bl a=>
  cases R;cases x with
  |non=>cases r;rwa[SeqAt.EqAt.bool_none a]
  |bl b=>cases r;rwa[SeqAt.EqAt.bool_bool a b]
  |int b=>let⟨t,rfl⟩:=r;rwa[SeqAt.EqAt.bool_int a b t]
  |str b=>let⟨t,rfl⟩:=r;rwa[SeqAt.EqAt.bool_str a b t]
  |_=>rwa[absurd (show ν=μ from f) OG]
 |int a=>
  let⟨T,rfl⟩:=R;cases x with
  |non=>cases r;rwa[SeqAt.EqAt.int_none a T]
  |bl b=>cases r;rwa[SeqAt.EqAt.int_bool a T b]
  |int b=>let⟨t,rfl⟩:=r;rwa[SeqAt.EqAt.int_int a T b t]
  |str b=>let⟨t,rfl⟩:=r;rwa[UR a T b t]
  |_=>rwa[absurd (show ν=μ from f) OG]
 |str a=>
  let⟨T,rfl⟩:=R;cases x with
  |non=>cases r;rwa[SeqAt.EqAt.str_none a T]
  |bl b=>cases r;rwa[SeqAt.EqAt.str_bool a T b]
  |int b=>let⟨t,rfl⟩:=r;rwa[UQ a T b t]
  |str b=>let⟨t,rfl⟩:=r;rwa[SeqAt.EqAt.str_str a T b t]
  |_=>rwa[absurd (show ν=μ from f) OG]
 |_=>rwa[absurd (show ν=μ from F) OG]
def oR(x:V)(u:η):Bool:=match u with
 | .none=>oE .non x
 | .bool b=>oE (.bl b) x
 | .int i _=>oE (.int i) x
 | .str z _=>oE (.str z) x
 |_=>ν
def vJ(r:aK y u)(f:dC y=μ):oR x u=oE y x:=by
 cases y with
 |non |bl b=>cases r;rfl
 |int i |str z=>let⟨t,rfl⟩:=r;rfl
 |_=>rwa[absurd (show ν=μ from f) OG]
theorem Jf:∀{c:xL V} {U:xL η},aG c U->c.all dC=μ->U.any (oR x)=c.any λy=>oE y x
 |_,_,.nil,_=>rfl
 |y::c,u::U,.cons r t,f=>by rw[UV,PU]at f;rw[SA,SA,vJ r f.1,Jf t f.2]
theorem qB(R:aK x v)(F:dC x=μ){c:xL V}{U:xL η}(h:aG c U)(f:c.all dC=μ):∀u∈U,SeqAt.EqAt A s u v (oR x u):=by
 induction h with
 |nil=>intro u hu;cases hu
 |cons r t g=>
  rw[UV,PU]at f;intro d hu;rcases Ξ.mp hu with rfl |hu
  .rw[vJ r f.1];rwa[vG r R f.1 F]
  .rwa[g f.2 d hu]
def pV(x:V)(c:xL V):Bool:=c.any λy=>oE y x
inductive IR(K:β)(a:Bool)(x y:V)(H:Hp)(Q:VK):Prop
 |mk(p b:_)(_:y= .ref p)(_:aL K H p b∨aF K H p b)(_:dC x=μ)(_:b.all dC=μ)(_:Q (.bl (if a then !pV x b else pV x b)) H)
def zC:fq X (compareOp .In) (IR X.K ν):=by
 intro d s j H x y v u Q I R e h;let⟨p,k,rfl,hq,F,f,q⟩:=h;cases e;rcases hq with hq |hq
 .let⟨i,r,P,g⟩:=I.list hq;erw[SeqAt.in_listAt (oR x) P.isList (λw c=>qB R F r f w (c:)) #[.bl _,H,I,Z,?_]];rw[show i.toArray.any (oR x)=i.any (oR x) by simp,Jf r f];rwa[q]
 .let⟨i,r,P,g⟩:=I.tuple hq;erw[SeqAt.in_tupleAt (oR x) P (λw c=>qB R F r f w (c:)) #[.bl _,H,I,Z,?_]];rw[show i.toArray.any (oR x)=i.any (oR x) by simp,Jf r f];rwa[q]
def Jz:fq X (compareOp .NotIn) (IR X.K μ):=by
 intro d s j H x y v u Q I R e h;let⟨p,k,rfl,hq,F,f,q⟩:=h;cases e;rcases hq with hq |hq
 .let⟨i,r,P,g⟩:=I.list hq;erw[SeqAt.notIn_listAt (oR x) P.isList (λw c=>qB R F r f w (c:)) #[.bl _,H,I,Z,?_]];rw[show i.toArray.any (oR x)=i.any (oR x) by simp,Jf r f];rwa[q]
 .let⟨i,r,P,g⟩:=I.tuple hq;erw[SeqAt.notIn_tupleAt (oR x) P (λw c=>qB R F r f w (c:)) #[.bl _,H,I,Z,?_]];rw[show i.toArray.any (oR x)=i.any (oR x) by simp,Jf r f];rwa[q]
inductive qH(K:β)(a:xL V)(H:Hp)(Q:VK):Prop
 |mk(p b:_)(_:a=[.ref p])(_:aL K H p b∨aF K H p b)(_:Q (.int b.length) H)
def jL:fo X (.builtin "len") (qH X.K):=by
 intro d s g H x U Q I r h;let⟨p,y,rfl,hq,q⟩:=h;let⟨u,rfl,e⟩:=gr r;cases e;let j:=gf;rcases hq with hq |hq
 .let⟨i,R,P,f⟩:=I.list hq;let c:=R.length;rwa[Calls.call_len_list P.isList (by simp only[Ov]<;>omega) #[.int y.length,H,I.tok _,#[s.toks+1,by rw[Ov,c]],q]]
 .let⟨i,R,P,f⟩:=I.tuple hq;let c:=R.length;rwa[len_tuple P (by simp only[Ov]<;>omega) #[.int y.length,H,I.tok _,#[s.toks+1,by rw[Ov,c]],q]]
inductive qI(K:β)(a:xL V)(H:Hp)(Q:VK):Prop
 |mk(p b:_)(_:a=[.ref p])(_:aL K H p b∨aF K H p b)(_:∀l,H l=θ->Q (.ref l) (af H l (.lst b)))
def JA:fo X (.type "list") (qI X.K):=by
 intro P s v H z U Q I r h;let⟨p,y,rfl,hq,q⟩:=h;let⟨u,rfl,x⟩:=gr r;cases x;let f:∀(i:xL η),aG y i->ο y<=τ->∀(c:de) (C:Nat),(∀b O,s.heap.get? b=δ O->c.get? b=δ O)->
   c.get? (-s)=δ { cls:=.type "list",dict:=θ,data:=.seq i.toArray C,slots:=(ε []) }->EP X P v Q (.ref (-s)) ‹c›:=λi R d c C k e=>
  #[.ref (-s),_,I.laid (t':=s.toks) k (Ou _) (show a6 X.prog X.w _ c _ (.lst y) from #[d,i,C,R,e]),Z,q _$ I.hok.fresh$ Ou _]
 rcases hq with hq |hq
 .let⟨i,R,j,d⟩:=I.list hq;let g:=R.length;let⟨o,l,m,n,t⟩:=j.isList;rwa[call_list_seq p (.inl Z) l m t (λc C k e=>f i R d c C k e) (by simp only[Ov]<;>omega)]
 .let⟨i,R,j,d⟩:=I.tuple hq;let g:=R.length;let⟨o,l,m,n,t⟩:=j;rwa[call_list_seq p (.inr Z) l m t (λc C k e=>f i R d c C k e) (by simp only[Ov]<;>omega)]
inductive kP(K:β)(a:xL V)(H:Hp)(Q:VK):Prop
 |mk(p b:_)(_:a=[.ref p])(_:(aL K H p b/\∀l,H l=θ->Q (.ref l) (af H l (.tup b)))∨(aF K H p b/\Q (.ref p) H))
def jK:fo X (.type "tuple") (kP X.K):=by
 intro P s g H x U Q I r h;let⟨p,y,rfl,h⟩:=h;let⟨u,rfl,m⟩:=gr r;cases m;rcases h with ⟨d,q⟩ | ⟨d,q⟩
 .let⟨i,R,f,j⟩:=I.list d;let k:=R.length;erw[call_tuple_list f.isList (λc n=>?_) (by simp only[Ov]<;>omega)];let l:ax X P g H ‹c›:=I.kept (t':=s.toks) n;let t:ax X P g (af H c.objs.size$ .tup y) ‹c.push { cls:=.type "tuple",data:=.seq i.toArray }›:=
   l.laid (t':=s.toks) (λb o e=>Oo _ e) (Ou _) (show a6 X.prog X.w _ _ _ (.tup y) from #[j,i,R,VG _ _])
  exact#[.ref c.objs.size,_,t,Z,q _$ l.hok.fresh$ Ou _]
 .let⟨i,R,f,j⟩:=I.tuple d;rwa[call_tuple_same f #[.ref p,H,I,Z,q]]
def MT(K:β)(T:String)(x:V)(H:Hp):Prop:=match x with
 | .str _=>T="str"
 | .int _=>T="int"
 | .ref p=>(T="list"/\∃c,aL K H p c)∨(T="tuple"/\∃o,K.lookup p=δ o/\o.cls= .type "tuple"/\o.dict=θ)∨
   (T="dict"/\((∃k,H p=δ (.dK k))∨∃k,H p=δ (.dT k)))∨(T="set"/\∃S n,H p=δ (.set S n))
 |_=>False
def yQ(I:ax X j u H s)(r:aK x v)(d:MT X.K T x H):
  s.TypeIs v T/\∀a,v= .ref a->∃O,s.heap.get? a=δ O/\O.dict=θ:=by
 cases x with
 |str z=>let⟨t,rfl⟩:=r;cases (show T="str" from d);exact#[typeIs_str s z t,λ_ e=>nomatch e]
 |int i=>let⟨t,rfl⟩:=r;cases (show T="int" from d);exact#[typeIs_int s i t,λ_ e=>nomatch e]
 |ref p=>
  cases r;rcases d with ⟨rfl,w,l⟩ | ⟨rfl,o,h,m,f⟩ | ⟨rfl,h⟩ | ⟨rfl,S,n,h⟩
  .let⟨q,_,P,_⟩:=I.list l;erw[#[P.isList.typeIs,λa e=>?_]];cases e;let⟨o,n,e,c,f,_⟩:=P;exact#[o,e,f]
  .erw[#[#[o,I.kIn p o h,m],λa e=>?_]];cases e;exact#[o,I.kIn _ o h,f]
  .let z:∃o,s.heap.get? p=δ o/\o.ExactDict:=by
    rcases h with ⟨k,h⟩ | ⟨k,h⟩
    .let⟨_,_,_,_,o,_,_,e,E,_⟩:=I.hok p _ h;exact#[o,e,E]
    .let⟨_,_,_,_,o,_,_,e,E,_⟩:=I.hok p _ h;exact#[o,e,E]
   let⟨o,e,E⟩:=z;erw[#[#[o,e,E.1],λa g=>?_]];cases g;exact#[o,e,E.2.1]
  .let⟨o,_,_,_,e,E,_⟩:=I.hok p _ h;erw[#[#[o,e,E.1],λa g=>?_]];cases g;exact#[o,e,E.2.1]
 |_=>rwa[False.elim d]
def MN(K:β)(T:String)(r:V->xL V->Hp->VK->Prop)(t:TE):TE:=λc H Q=>t c H λx h=>MT K T x h/\r x [] h Q
def MM(K:β)(T:String)(r:V->xL V->Hp->VK->Prop)(d:TE)(t:TA):TE:=λc H Q=>d c H λx h=>MT K T x h/\t c h λe f=>r x e f Q
variable {o e:dr}{es:xL dr}{to:TE}{t:TA}{name:ρ}{apos cpos:Pos}{T id:String}{r:V->xL V->Hp->VK->Prop}
def Fy(P:PlainAttrs T)(S:Slot T name id)(f:typeOf (.builtin id)=pure (.type "method_descriptor"))(j:Mb X id r)(k:PE X o to)
  (c:↥(attributeBase o name X.env (eval o X.env)=eval o X.env)) (d:↥((apos.endLine==cpos.line)=μ)):PE X (.Call (.Attribute o name apos) [] [] cpos) (MN X.K T r to):=by
 intro p s g H Q I h;erw[wpAny_Call_method0_late c d$ a8 (k p s g H _ I h) λv l z=>?_];let⟨x,m,i,R,n,q⟩:=z;let⟨u,w⟩:=yQ i R n;exact#[T,id,P,S,f,u,w,Tn Z$ PySem.evalArgs_none$ j p l g m x [] v [] Q i R .nil q]
def j9(P:PlainAttrs T)(S:Slot T name id)(i:typeOf (.builtin id)=pure (.type "method_descriptor"))(m:Mb X id r)(n:PE X o to)(q:PA X (e::es) t)
  (d:↥(attributeBase o name X.env (eval o X.env)=eval o X.env))
  (g:↥(((fy cpos$ Δ (e::es) X.env).all (λx=>!x.1)&&(backToKw cpos$ keywordEach [] X.env).all (λx=>x.1.isSome)
   &&decide ((e::es).length+([]:xL Keyword).length+(if ([]:xL Keyword).isEmpty then 0 else 1) < 30))=μ))
  (f:↥((apos.endLine==cpos.line)=μ)) (u:↥(Δ (e::es) X.env=(ν,eval e X.env)::Δ es X.env)) (c:↥((fy cpos$ Δ es X.env).any (·.1)=ν)):
  PE X (.Call (.Attribute o name apos) (e::es) [] cpos) (MM X.K T r to t):=by
 intro p s j H Q I h;erw[wpAny_Call_method_late d g f Z$ a8 (n p s j H _ I h) λv w z=>?_];let⟨x,y,k,R,A,B⟩:=z;let⟨C,D⟩:=yQ k R A;erw[#[T,id,P,S,i,C,D,?_]];let l:=q cpos p w j y _ k B;rw[u]at l ⊢;erw[Tn (by show(ν||(fy cpos$ Δ es X.env).any (·.1))=ν;rw[c]<;>rfl)$ Vg ?_];rwa[a8 l λU E #[F,G,J,L,M]=>m p E j G x F v U Q J R L M]
end
def LC(X:Cx)(id:String)(r:V->xL V->Hp->VK->Prop):Prop:=
 ∀(p:xL (ζ×hG)) (s:ι) (a:St) (H:Hp) (x:V) (b:xL V) (v:η) (u:xL η) (Q:VK),ax X p a H s->aK x v->aG b u->r x b H Q->
  π (υ X.prog X.w) X.A (call (.builtin id) (v::u)) (EP X p a Q) X.xe s
def aG.one{x:V}{U:xL η}(h:aG [x] U):∃u,U=[u]/\aK x u:=by
 cases h with
 |cons r t=>cases t;rwa[#[_,Z,r]]
def aG.zero:∀{u:xL η},aG [] u->u=[]
 |_,.nil=>rfl
def aG.dropLast(h:aG x u):aG x.dropLast u.dropLast:=by
 induction h with
 |nil=>rwa[.nil]
 |cons r t i=>
  cases t with
  |nil=>rwa[.nil]
  |cons q T=>rwa[.cons r i]
def aG.reverse(h:aG x u):aG x.reverse u.reverse:=by
 induction h with
 |nil=>rwa[.nil]
 |cons r t i=>rw[SX,SX];rwa[aG.append i (.cons r .nil)]
def Zb{c:Type}(l:xL c):l.eraseIdx (ο l - 1)=l.dropLast:=by
 induction l with
 |nil=>rfl
 |cons a r i=>
  cases r with
  |nil=>rfl
  |cons b r=>
   let e:(a::b::r).length - 1=((b::r).length - 1)+1:=by let h:(a::b::r).length=ο r+2:=rfl;let H:(b::r).length=ο r+1:=rfl;omega
   rw[e,List.eraseIdx_cons_succ,i];all_goals rfl
section
variable {X:Cx}{pins:xL (ζ×hG)}{σ:St}{H:Hp}{s:ι}{l b:ζ}{xs ys zs:xL V}
def ax.lset{i its':xL η}{f:Array η->Array η}{t':Nat}(I:ax X pins σ H s)(h:H l=δ (.lst xs))
  (e:s.heap.get? l=δ { cls:=.type "list",data:=.seq i.toArray n }) (a:f i.toArray=its'.toArray) (c:aG ys its') (d:ο ys<=τ):
  ax X pins σ (af H l$ .lst ys) { s with heap:=s.heap.update l (γ f),toks:=t' }:=by
 let q:=PySem.IsL.update e f;rw[a]at q;erw[I.write (x:=l) (e:=l) (by rw[h];rwa[trivial]) (.inl Z) (λB u g j=>(OP s.heap (γ f)$ O3 g).trans j) #[_,q] ?_];exact#[d,its',_,c,q]
def ax.lnew{t':Nat}(I:ax X pins σ H s)(h:aG ys i)(a:ο ys<=τ):
  ax X pins σ (af H (-s)$ .lst ys) { s with heap:=s.heap.push { cls:=.type "list",data:=.seq i.toArray },toks:=t' }:=
 I.laid (λ_ _ q=>Oo _ q) (Ou _) #[a,i,0,h,Oy _ Z]
def ax.fresh(I:ax X pins σ H s):H (-s)=θ:=I.hok.fresh (Ou _)
def ax.lstM(I:ax X pins σ H s)(h:H l=δ (.lst xs)):ο xs<=τ/\∃(i:xL η) (n:Nat),aG xs i/\ο xs=ο i/\s.heap.get? l=δ { cls:=.type "list",data:=.seq i.toArray n }:=by let⟨z,i,n,r,e⟩:=I.hok l _ h;exact#[z,i,n,r,r.length,e]
def hV(h:n<=τ):fz n=ν:=by unfold fz;rwa[Oz NO]
end
section
variable {X:Cx}
inductive mz(x:V)(a:xL V)(H:Hp)(Q:VK):Prop
 |mk(l b y:_)(_:x= .ref l)(_:a=[y])(_:H l=δ (.lst b))(_:ο b < τ)(_:Q .non (af H l (.lst (b++[y]))))
def jQ:LC X "list.append" mz:=by intro p s d H x V v U Q I R b h;let⟨l,f,y,rfl,rfl,a,g,q⟩:=h;cases R;let⟨u,rfl,c⟩:=b.one;let⟨z,i,n,r,j,e⟩:=I.lstM a;erw[Um F.slot_list_append #[_,e,Z] F.entry_list_append (F.args_list_append_2 _ _) (PySem.list_append l i.toArray n u (by rw[Ov];omega)) #[e,?_]];erw[#[.non,_,I.lset (its':=i++[u]) a e NN (r.append$ .cons c .nil) ?_,Z,q]];rw[Ot,RP];omega
inductive rB(x:V)(a:xL V)(H:Hp)(Q:VK):Prop
 |mk(l b c d:_)(_:x= .ref l)(_:a=[.ref b])(_:H l=δ (.lst c))(_:H b=δ (.lst d))(_:ο c+ο d<=τ)(_:Q .non (af H l (.lst (c++d))))
def z9:LC X "list.extend" rB:=by
 intro p s t H x V v U Q I R g h;let⟨l,b,w,y,rfl,rfl,f,j,A,q⟩:=h;cases R;let⟨u,rfl,k⟩:=g.one;cases k;let⟨z,a,n,r,B,e⟩:=I.lstM f;let⟨C,i,N,m,o,E⟩:=I.lstM j;let d:a.toArray.size+i.toArray.size<=τ:=by rw[Ov,Ov];omega
 let c:¬(!a.toArray.isEmpty&&fz (a.toArray.size+i.toArray.size))=μ:=by rw[hV d,TX];rwa[OG]
 refine Um V1 #[_,e,Z] VQ (VH _ _)
  (AutoSeq1.list_extend_list_list_0 l a.toArray n b i.toArray N c (by rw[Ov];omega) NO) #[e,E,?_]
 erw[#[.non,_,I.lset (its':=a++i) f e NN (r.append m) ?_,Z,q]];rw[Ot];rwa[N09]
inductive IS(x:V)(a:xL V)(H:Hp)(Q:VK):Prop
 |mk(l b y:_)(_:x= .ref l)(_:a=[])(_:H l=δ (.lst b))(_:b[ο b - 1]?=δ y)(_:Q y (af H l (.lst b.dropLast)))
def Ex:LC X "list.pop" IS:=by
 intro p s m H x V v U Q I R d h;let⟨l,o,y,rfl,rfl,c,f,q⟩:=h;cases R;let a:=d.zero;subst a;let⟨z,i,n,r,g,e⟩:=I.lstM c;let⟨u,j,k⟩:=r.get f;let b:i.toArray[i.toArray.size - 1]?=δ u:=by show i.toArray[ο i - 1]?=δ u;rw[<- Ra,<- g];rwa[j]
 erw[Um F.slot_list_pop #[_,e,Z] F.entry_list_pop (F.args_list_pop_1 _) (MeetsSeq.list_pop_last l i.toArray n u b (by rw[Ov];omega)) #[e,?_]];erw[#[y,_,I.lset (its':=i.dropLast) c e ?_ r.dropLast ?_,k,q]]
 .show i.toArray.eraseIdxIfInBounds (i.toArray.size - 1)=i.dropLast.toArray;rw[Ov,List.eraseIdxIfInBounds_toArray,Zb]
 .rw[List.length_dropLast];omega
inductive BG(x y:V)(H:Hp)(Q:VK):Prop
 |mk(l b a c:_)(_:x= .ref l)(_:y= .ref b)(_:H l=δ (.lst a))(_:H b=δ (.lst c))(_:ο a+ο c<=τ)(_:∀p,H p=θ->Q (.ref p) (af H p (.lst (a++c))))
def zT:fq X (binaryOp .Add) BG:=by
 intro p s m H x y v u Q I R c h;let⟨l,b,o,t,rfl,rfl,d,f,w,q⟩:=h;cases R;cases c;let⟨z,a,n,r,A,e⟩:=I.lstM d;let⟨B,i,N,g,j,E⟩:=I.lstM f;erw[PySem.P.add_list e E ?_ (by rw[Ov,Ov];omega)];let k:a.toArray++i.toArray=(a++i).toArray:=by simp
 rw[k];exact#[.ref _,_,I.lnew (t':=s.toks) (r.append g) (by rw[Ot];omega),Z,q _ I.fresh]
end
section
#print v
def uH(i I : xL η)(a c : Nat) : i.toArray.extract 0 a ++ I.toArray ++ i.toArray.extract c i.toArray.size = (i.take a ++ I ++ i.drop c).toArray := by
  apply Array.toList_inj.mp;first
    | (simp
       rwa[Rp NN])
    | simp [Rp]
    | simp
def Zc{a c n:Nat}(hac:a<=c)(hc:c<=n):sliceBounds (δ (a:Int)) (δ (c:Int)) θ n=((a:Int),(c:Int),1):=by
 simp only[sliceBounds,Ug];let h1:¬((a:Int) < 0):=NO
 let h2:¬((c:Int) < 0):=NO
 simp only[h1,h2,PX,show(1:Int) > 0 by decide,SN];congr 1
 .omega
 .congr 1;omega
set_option maxRecDepth 100000 in
def Qy{a c : Nat}{Q : Unit -> ι -> Prop}
    (e : s.heap.get? l = δ { cls := .type "list", data := .seq i n }) (y : s.heap.get? b = δ { cls := .type "list", data := .seq N I }) (q : l ≠ b)
    (C : s.heap.IsSliceOf p z B .none) (P : IsPart z (δ (a : Int))) (D : IsPart B (δ (c : Int))) (r : a <= c) (F : c <= i.size)
    (f : i.size + N.size <= τ) (h : Q () { s with heap := s.heap.update l (γ λX => X.extract 0 a ++ N ++ X.extract c X.size) }) :
    π (υ prog w) A (setItem (.ref l) (.ref p)$ .ref b) Q E s := by
  let t : s.heap.IsList l i := Ve e;let G : s.heap.IsList b N := Ve y;obtain ⟨os, d, u, g⟩ := id C;let k : s.TypeIs (.ref p) "slice" := #[os, d, u];let j : ¬ ((rawPart θ == rawInt 0) = μ) := OG;let H : eT (.ref l) (.ref b) = ν := by unfold eT;rwa[beq_eq_false_iff_ne.mpr q]
  let o : (max (a : Int) (c : Int)).toNat = c := by omega
  let v : ((λX : Array η => X.extract 0 a ++ N ++ X.extract c X.size) i).size <= τ + 1 := by simp only [Uf, Array.size_extract];omega
  unfold setItem;try with_reducible erw[OV ?_]
  first | refine Om (Op ?_) | skip
  erw[Om$ Uu t.typeIs NP ?_];refine Om (Pa (name := Str.ofString "__setitem__") t.typeIs Wo
    (O7 Wo t.typeIs entry_list_setitem ?_$ args_list_setitem _ _ _))
  show π _ _ (rb (.ref p) >>= _) _ _ s;erw[Om ?_];unfold rb;erw[Om$ Rq k slice_no_index ?_];simp only [Vi, SN];erw[Op ?_];show π _ _ (typeOf (.ref p) >>= _) _ _ s;erw[Om$ Rt k ?_];first
    | rw [OD NP]
    | erw[Tv NP ?_]
  rw [listSliceParts_eq];erw[Om$ Om$ O0 d g (x := .none) Z$ Om$ Va .none ?_];rw [OD j];erw[Om$ O0 d g (x := z) Z$ Om$ Va P ?_];erw[Om$ O0 d g (x := B) Z$ Om$ Va D$ Op ?_];first
    | simp only [H, OJ, PX]
    | erw[Tv H ?_]
    | (dsimp only
       rw [OD (by rw [H]; rwa[OG])])
  erw[Om (m := ri (.ref b) "must assign iterable to extended slice") ?_];unfold ri;erw[Om$ Rt G.typeIs ?_];first
    | erw[PySem.W.KFB.if_so NP ?_]
    | rw [OB NP]
    | simp only [T5, Ww, SN]
  unfold Builtin.List.listItems;erw[Om$ Pu y Z$ Op ?_];erw[Om$ Om$ Pu e Z$ Op ?_];erw[Om$ Ts ((sliceIndices_raw (δ (a : Int)) (δ (c : Int)) θ i.size NN).trans$ PL (pure : Int × Int × Int -> Sem (Int × Int × Int))$ Zc r F) ?_];show π _ _ (if ((1 : Int) == 1) = μ then _ else _) _ _ s;rw [OB NP];erw[Om$ Ry ?_];first
    | simp only [hV f, OJ, PX]
    | erw[Tv (hV f) ?_]
  first | refine Om (Op ?_) | skip
  show π _ _ (updateSeq l (λX => X.extract 0 ((a : Int)).toNat ++ N ++ X.extract (max (a : Int) (c : Int)).toNat X.size) >>= _) _ _ s;rw [o, Ph];erw[Om$ TY (hz := OK (RY _ _) f) (_hz' := v) e Z ?_];erw[Om$ VT ?_];first
    | rwa[Om (Op (Op #[.none, Z, Op h]))]
    | rwa[Op #[.none, Z, Op h]]
end
section
variable {X:Cx}
def uG{Q:Unit->ι->Prop}(I:ax X p o H s)
  (k:H l=δ (.lst x)) (q:H b=δ (.lst y)) (f:l≠b) (t:s.heap.IsSliceOf u v B .none) (R:aK (.int a) v) (D:aK (.int c) B) (m:0<=a) (g:a<=c) (J:c<=ο x)
  (K:ο x+ο y<=τ) (h:∀S,ax X p o (af H l$ .lst$ x.take a.toNat++y++x.drop c.toNat) S->Q () S):
  π (υ X.prog X.w) X.A (setItem (.ref l) (.ref u)$ .ref b) Q X.xe s:=by
 let⟨T,rfl⟩:=R;let⟨L,rfl⟩:=D;let⟨z,d,n,r,M,e⟩:=I.lstM k;let⟨N,i,O,E,F,G⟩:=I.lstM q;let⟨j,rfl⟩:=U7 m;let⟨C,rfl⟩:=U7 (Int.le_trans m g);simp only[Ph]at h;erw[Qy (a:=j) (c:=C) e G f t (.int _ _) (.int _ _) NO (by rw[Ov];omega) (by rw[Ov,Ov];omega)$ h _ ?_];erw[I.lset (its':=d.take j++i++d.drop C) (t':=s.toks) k e ?_ (aG.append (aG.append (r.take _) E)$ r.drop _) ?_]
 .rwa[uH d i j C]
 .rw[Ot,Ot,OZ,Ri];omega
end
end _L
namespace Att
open PySem PySem.W PySem.Calls PyProof.Rows
def J9{P:Params}:∀(N:xL Int) (v:xL η),WellAll P h v (N.map WData.int)->IntsAre v N:=by
 intro N;induction N with
 |nil=>intro v w;rw[Ws]at w;cases w;rwa[.nil]
 |cons n N i=>
  intro v w;rw[PZ]at w;cases w with
  |cons a b=>cases a;rwa[.cons _ _$ i _ b]
def uF{l:OpenLaw}(k:l.most=δ n){P:Params}
  (H:l.row.toRowW.claim.pre args=μ) (g:WellAll P h v args):
  ∃a V N,v=[Θ a]/\args=[WData.list$ N.map WData.int]/\h.get? a=δ { cls:=.type "list",data:=.seq V.toArray }/\IntsAre V N/\ο N<=n:=by
 let i:WShape.hasAll [] args [.list .int]=μ:=(pre_splitW H).1;let j:l.pre.holds [] { args:=args }=μ:=(pre_splitW H).2;let⟨d,r,rfl,m,o⟩:=hasAllW_cons i;obtain rfl:=hasAllW_nil o;let⟨x,rfl,p⟩:=hasW_list m;let⟨N,rfl⟩:=items_int p;let b:ο N<=n:=by
  unfold OpenLaw.pre at j;let e:(WTm.not$ .lt (.lit$ .int (n:Int))$ .len$ .arg 0).holds [] { args:=[.list$ N.map .int] }=μ:=by let e:=(holds_andW j).1;rw[k]at e;rwa[e]
  let f:=condW_of e (w_not$ w_lt w_lit$ w_len_list$ w_arg Z);rw[Oq]at f;erw[Tk λq=>?_];let Q:(n:Int) < ((N.length:Nat):Int):=by rwa[N09]
  first
   | (rw[OE Q]at f;rwa[absurd f NP])
   | (simp at f;omega)
 cases g with
 |cons w W=>
  cases W;cases w with
  |list s c=>exact#[_,_,N,Z,Z,s,J9 N _ c,b]
def uk(l:OpenLaw)(args:xL WData):l.row.toRowW.claim.post args (.bool μ) args=μ:=
 postW_of (r:=l.row.toRowW) (X:=(μ==μ))
  (show WShape.has [] (.bool μ) .bool=μ by first |rfl |decide |simp [WShape.has,WShape.arms,WShape.armsAll])
  (show(WTm.eq .res$ .lit$ .bool μ).value [] { args:=args,res:=δ (.bool μ),after:=args }=δ (.bool$ μ==μ) from w_eq_bool (w_res Z) w_lit) Z
def attach_call{l:OpenLaw}{y:bF->de->Prop}{d:DefRec}
  (x:l.most=δ n) (g:d.params.defaults=[])
  (call:∀(w:bF) (S s:ι) (m M:ρ->ym η) (F:ζ) (o:hG) (p C D:η) (a:ζ) (v:xL η) (N:xL Int),
   Ground q L [] z w S m M s.heap->y w s.heap->
   s.heap.get? F=δ o->o.data= .func (docDef d.name d.params d.body d.scope p C D)->s.heap.CodeRec C d.name->m d.name=↑F->
   s.heap.get? a=δ { cls:=.type "list",data:=.seq v.toArray }->IntsAre v N->ο N<=n->s.gens=(ε [])->
   kz (υ l.prog w) callerA (.call (.ref F) #[[.ref a],[]]) (λr e=>r= .ok (.ret$ .bool μ)/\OldK s.heap e.heap/\e.os=s.os/\AllBare e.gens) s):
  WalkO q L z y l.row.toRowW d [] (λf v=>PySem.call f v):=by
 intro w S s m M G Y F o p C D B kV E I i t j J A V W H u K k O;obtain rfl:B= .none:=Dflts.none t g;obtain rfl:kV= .none:=Dflts.noKw t;let⟨a,v,N,rfl,rfl,b,h,c⟩:=uF x H k;erw[enter_call$ Sb (call w S s m M F o p C D a v N G Y E (fd_plain I) i j b h c J) λr e P=>?_];let⟨rfl,Q,R,T⟩:=P;exact#[.inl #[.bool μ,.bool μ,[],Z,λ_=>Z,.bool μ,uk l _,λ_=>#[iv,λ_ U=>(nomatch U)]],Q,R,T]
end Att
namespace _L
open PySem PySem.Spec PyProof.Rows
theorem QY{v:xL η}{N:xL Int}(h:IntsAre v N):aG (N.map vr) v:=by
 induction h with
 |nil=>rwa[.nil]
 |cons n t _ f=>rwa[.cons #[t,Z] f]
def DK(H:Hp):Prop:=∀b,H b=θ∨∃o x,H b=δ (.frz o$ .lst x)
def wn{P:ψ}{K:β}{S:ι}{i:xL η}
  (Y:K.In S.heap) (l:S.heap.Ns Ψ M) (c:S.heap.Ns builtinsNs mb) (Q:∀x:ρ,x≠"__name__"->mb x=bootBuiltins x) (p:S.heap.NoLimit) (hg:S.gens=(ε []))
  (J:S.heap.get? a=δ { cls:=.type "list",data:=.seq i.toArray }) (hi:IntsAre i O) (hl:ο O<=τ) (hr:bY k callerA)
  (F:∀f:de,K.In f->f.Ns Ψ M->ai P w K M f CX k fa fd [x] sp) (j:∀(s:ι) (u:η),BindsTo s fd #[[u],[]] [(x,u)])
  (R:∀H:Hp,DK H->aL K H a (O.map vr)->sp [.ref a] H (λv _=>v= .bl μ) λ_ _ _=>False)
  (T:∀H e g,CX [] H S (λ_ _ _=>False) e g->False):
  kz (υ P w) callerA (.call (.ref fa) #[[.ref a],[]]) (λr g=>r= .ok (.ret$ .bool μ)/\OldK S.heap g.heap/\g.os=S.os/\AllBare g.gens) S:=by
 let rv:=QY hi;let L:=hi.length;let C:∀H:Hp,DK H->aL K H a (O.map vr)->gD P w H S.heap->(∀b,H b≠θ->b=a)->(H a≠θ->K.lookup a=θ)->
   kz (υ P w) callerA (.call (.ref fa) #[[.ref a],[]]) (λr g=>r= .ok (.ret$ .bool μ)/\OldK S.heap g.heap/\g.os=S.os/\AllBare g.gens) S:=by
  intro H hO hS t hA hK;let B:∀{b:ζ} {o:hG},S.heap.get? b=δ o->H b=θ->(mv S.heap H).get? b=δ o:=λe n=>vZ e n;let U:∀{b:ζ} {o:hG} {E:Array DictEntry} {y:Nat},S.heap.get? b=δ o->o.data= .dict E y->H b=θ:=λ{b o E y} e d=>by
   cases q:H b with
   |none=>rfl
   |some u=>have W:b=a:=hA b (by rw[q];simp);subst W;rw[J]at e;cases e;let d':Data.seq i.toArray _=Data.dict E y:=d;cases d'
  let N:∀{b:ζ} {m:ρ->ym η},S.heap.Ns b m->(mv S.heap H).Ns b m:=λ{b m} #[o,E,y,e,d,r]=>#[o,E,y,B e$ U e d,d,r];let A:K.In (mv S.heap H):=λb o e=>B (Y b o e) (by
   cases q:H b with
   |none=>rfl
   |some u=>
    let W:b=a:=hA b (by rw[q];simp);subst W;rw[hK (by rw[q];simp)]at e;cases e)
  let hM:Mod K M (mv S.heap H):=#[A,N l,#[mb,N c,Q],let #[mc,h1,h2]:=p;#[mc,N h1,h2]];let e0:oH P w K M (mv S.heap H) callerA [] S H:=#[Z,hM,λb o e=>Be e,Tz$ sZ _ _,trivial,λb c=>absurd (show b∈([]:xL ζ) from c) NN,t,.of_eq hg];erw[Sb ((F _ A$ N l).run callerA [] S H #[[.ref a],[]] [.ref a] [.ref a] _ _ hr e0 (j S$ .ref a) (.cons Z .nil) (R H hO hS)) λr g h=>?_];cases r with
  |error e=>exact(T H e g h).elim
  |ok fl=>
   cases fl with
   |next |brk |cont=>rwa[False.elim h]
   |ret u=>
    let⟨v,H',os,D,un,G,r',q⟩:=h;let q':v= .bl μ:=q;subst q';obtain rfl:u=sn μ:=r';erw[#[Z,OldK.of_keep λb o e=>?_,os,D]];cases q:H b with
    |none=>rwa[un.keep b o e q (by intro z;rwa[absurd (show b∈([]:xL ζ) from z) NN]) NN]
    |some u=>
     rcases hO b with z | ⟨ob,xs,z⟩
     .rw[q]at z;cases z
     .let z2:=un.frzs b ob _ z;let⟨e1,_⟩:=t b _ z;let⟨e2,_⟩:=G b _ z2;rw[e]at e1;cases e1;rwa[e2]
 cases X:K.lookup a with
 |some o=>have e:=Y a o X;rw[J]at e;cases e;erw[C (λ_=>θ) (λ_=>.inl Z) (.inr #[_,i.toArray,_,X,Z,Z,Z,by rw[Ov,L];rwa[hl],by simpa using rv]) (λb u z=>by let I:(θ:ym HO)=δ u:=z;cases I) (λb z=>absurd Z z) λz=>absurd Z z]
 |none=>
  erw[C (λb=>if b=a then δ (.frz { cls:=.type "list",data:=.seq i.toArray }$ .lst$ O.map vr) else θ) (λb=>?_) (.inl$ .inr #[{ cls:=.type "list",data:=.seq i.toArray },OB Z]) (λb u z=>?_) (λb z=>?_) λ_=>X]
  .by_cases c:b=a
   .rwa[.inr #[_,_,OB c]]
   .rwa[.inl$ OD c]
  .by_cases c:b=a
   .let I:=(OB c).symm.trans z;cases I;subst c;exact#[J,by rw[Oq];rwa[hl],i,_,rv,J]
   .let I:=(OD c).symm.trans z;cases I
  .by_cases c:b=a
   .rwa[c]
   .rwa[absurd (OD c) z]
def CC{l:ro}{n k:Nat}{E:bF->de->Prop}{d:DefRec}{K:Params->β}{CX:bF->sq}{sp:bF->Sp}{x:ρ}
  (O:l.most=δ n) (r:n<=τ) (t:d.params.defaults=[]) (P:bY k callerA)
  (Q:∀(w:bF) (h:de),E w h->(K w.params).In h)
  (F:∀(w:bF) (m:ρ->ym η) (p:ζ) (h:de),(K w.params).In h->h.Ns Ψ m->m d.name=↑p->
   ∃y:cc,(∀(s:ι) (u:η),BindsTo s y #[[u],[]] [(x,u)])/\
    ∀B:de,(K w.params).In B->B.Ns Ψ m->ai l.prog w (K w.params) m B (CX w) k p y [x] (sp w))
  (z:∀(w:bF) (H:Hp) (a:ζ) (N:xL Int),ο N<=n->DK H->aL (K w.params) H a (N.map vr)->sp w [.ref a] H (λv _=>v= .bl μ) λ_ _ _=>False)
  (A:∀(w:bF) (H:Hp) (s:ι) (e:η) (C:ι),CX w [] H s (λ_ _ _=>False) e C->False):
  PySem.W.WalkO q L XP E l.row.toRowW d [] (λf I=>PySem.call f I):=by
 erw[Att.attach_call O t λw J S m mb p o pm cd R a I N G Y ho hd U D j i c X=>?_];let M:=Q w _ Y;let⟨y,hb,hF⟩:=F w m p _ M G.T.g D;rwa[wn M G.T.g G.T.b G.T.builtins G.T.nolimit X j i (OK c r) P hF hb (λH hO hS=>z w H a N c hO hS) λH e C=>A w H S e C]
def bP(s:bU)(j:Nat):bU:=match s with
 | .ClassDef _ _ _ b _ _ _ _ _ _ _=>b.getD j (.Pass #[0,0,0,0])
 |_=>.Pass #[0,0,0,0]
def bZ(s:bU):Arguments:=match s with
 | .FunctionDef _ a _ _ _ _ _ _ _ _=>a
 |_=>{ posonlyargs:=[],args:=[],vararg:=θ,kwonlyargs:=[],kw_defaults:=[],kwarg:=θ,defaults:=[] }
def bL(s:bU):xL bU:=match s with
 | .FunctionDef _ _ b _ _ _ _ _ _ _=>b
 |_=>[]
def ae(s:bU):ic:=match s with
 | .FunctionDef _ _ _ _ _ _ S _ _ _=>S
 |_=>{ kind:=.function,names:=[],isGenerator:=ν,isCoroutine:=ν }
abbrev aH:sq:=λ_ _ _ _ _ _=>False
abbrev E0:XK:=λ_ _ _=>False
def bQ{X:Cx}:eh aH X E0:=λ_ _ _ _ _ _ _ h=>h.elim
structure aU(K:β)(x qual:ρ)(st:bU)(f:ζ)(fd:cc):Prop where
 ex:∃(oc:η) (od:ym ζ) (kV doc pm:η) (an:ym ζ) (cdv ct:η) (osl:Array (ym η)),
  fd=tz x qual (bZ st) (bL st) (ae st) .none kV doc pm an cdv ct/\K.lookup f=δ #[oc,od,.func fd,osl]/\codeIn K cdv qual=μ
 kp:gb K (.ref f)=μ
section
variable {P:ψ}{w:bF}{K:β}{mg:ρ->ym η}{base:de}
abbrev xD(K:β)(x:ρ):=aU K x x
def aU.ok{st:bU}{d:Sp}(F:aU K x a st f i)(S:am N p (ae st))
  (b:∀(c:η) (A:bS) (o:xL Env) (s:ι) (H:Hp) (v:xL V) (Q:VK) (E:XK),bY k (A.deeper$ envOfC a (ae st) (-s) f c)->d v H Q E->
   let X:=gK aH P w K mg base N a (ae st) f c A o s H E;∃t,nG X.nox (bL st) t/\t { nx:=λ_ j=>Q .non j,rt:=Q } (iw N v) H)(len:∀v H Q E,d v H Q E->ο v=ο p:=by rintro _ _ _ _⟨⟩;subst_vars;rfl):ai P w K mg base aH (k+1) f i p d:=by
 let⟨m,n,kV,D,r,u,c,C,O,rfl,lk,e⟩:=F.ex;erw[C7 lk e S len λA o s H v Q E l g=>?_];let⟨t,h,q⟩:=b c A o s H v Q E l g;exact#[t,h.nox,q]
def aU.binds{st:bU}{p:xL ρ}(F:aU K x q st f b)
  (h:∀(kV d a:η) (A:ym ζ) (c C:η) (u:xL η),ο u=ο p->bindArgs (tz x q (bZ st) (bL st) (ae st) .none kV d a A c C) #[u,[]]=pure (p.zip u)):aE K b p []:=by
 let⟨O,e,kV,d,a,A,c,C,o,rfl,lk,H⟩:=F.ex;rwa[.all$ h kV d a A c C]
def vU{st:bU}{kV:η}(l:K.lookup f=δ #[O,e,.func$ tz x q (bZ st) (bL st) (ae st) .none kV d p a C b,o])
  (c:codeIn K C q=μ) (k:gb K (.ref f)=μ):aU K x q st f (tz x q (bZ st) (bL st) (ae st) .none kV d p a C b):=#[#[O,e,kV,d,p,a,C,b,o,Z,l,c],k]
end
def zX(h:bY k A):A.units+1 < cLine:=PR (Vs (NP:1<=64) _) h.units
section
variable {X:Cx}
def pv(i:Nat){x:ρ}{p:Pos}(H:↥(X.N[i]?=δ x))(a:LK X.env.scope x:=by first |exact ω Z |exact fJ (ω Z) |exact fJ$ fJ Z)(b:↥((x==("__debug__":ρ))=ν))
  (h:↥((x==("__classdict__":ρ))=ν)):PE X (.Name x p) (bj i):=FF H a b h
end
def nM{A B:Prop}(h:B):if ν=μ then A else B:=by rw[OD OG];rwa[h]
def nO{A B:Prop}(h:A):if μ=μ then A else B:=by rw[OB Z];rwa[h]
def cw{c A B:Prop}[Decidable c](H:c->A)(a:¬c->B):if c then A else B:=by
 by_cases h:c
 .rw[OB h];rwa[H h]
 .rw[OD h];rwa[a h]
def aa(H h:Hp):Prop:=∀b o,H b=δ o->h b=δ o
def aa.refl(H:Hp):aa H H:=λ_ _ h=>h
def aa.trans(a:aa H d)(b:aa d e):aa H e:=λc o h=>b c o (a c o h)
def aa.free(e:aa H a)(h:a l=Option.none):H l=Option.none:=by
 cases q:H l with
 |none=>rfl
 |some o=>rw[e l o q]at h;cases h
def aa.seq{K:β}(e:aa H b)(h:aL K H a x):aL K b a x:=by
 rcases h with (h | ⟨o,h⟩) |h
 .rwa[.inl$ .inl$ e _ _ h]
 .rwa[.inl$ .inr #[o,e _ _ h]]
 .rwa[.inr h]
section
variable {prog:ψ}{w:bF}{A:bS}{R:Result->ι->Prop}{s:ι}
abbrev CQ:η->ι->Prop:=λ_ _=>False
def sP{iter:dr}(I:Nat->ι->Prop)
  (T:∀n s,I n s->π (υ prog w) A (pyNext B) (λr S=>match r with
   |none=>R (.ok .next) S
   |some v=>π (υ prog w) A (letOwnedTupleGo t B v) (λ_ b=>π (υ prog w) A (assign t e v) (λ_ d=>
     π (υ prog w) A (forIn l μ λc r=>if r=μ then do let o <- isTrue c e (eval c e);pure (ForInStep.yield o) else pure (ForInStep.yield r)) (λo a=>
      if o=μ then π (υ prog w) A (eval E e) (λx g=>
       π (υ prog w) A (call (.builtin "list.append") [p,x]) (λ_ i=>∃m,m < n/\I m i) CQ g) CQ a
      else ∃m,m < n/\I m a) CQ d) CQ b) CQ S) CQ s)
  (n:Nat) (h:I n s):
  kz (υ prog w) A (.compLoop (.ListComp E [#[t,iter,l,0]] k C) 0 B p e) R s:=by
 erw[codeAny_loop Z I (λn s D=>?_) n h];show π _ A ((compTurn (.ListComp E [#[t,iter,l,0]] k C) 0 B p e).onRaise (λx=>do noteFrame x e;theTreesLotGoes x)) _ _ s;erw[wpAny_noted ?_];rw[compTurn_list];erw[Om$ RU$ Om$ Px (T n s D) (λr S H=>?_) λ_ _ f=>f.elim];cases r with
 |none=>rwa[Op H]
 |some v=>
  erw[Om$ Px H (λ_ b q=>?_) λ_ _ f=>f.elim];erw[Om$ Px q (λ_ d u=>Om (Px u (λo a j=>?_) λ_ _ f=>f.elim)) λ_ _ f=>f.elim];cases o with
  |false=>rwa[Op #[Z,j]]
  |true=>rwa[Om$ Om$ Px j (λx g y=>Om (Px y (λ_ i z=>Op (Op #[Z,z])) λ_ _ f=>f.elim)) λ_ _ f=>f.elim]
end
def bu(X:Cx)(s:ic)(M:xL ρ)(c:xL (ρ×ζ))(C:ζ)(f:xL ζ)(S:ι)(H:Hp):Cx where
 prog:=X.prog
 w:=X.w
 K:=X.K
 mg:=X.mg
 base:=X.base
 A:=X.A
 N:=M
 s₀:=S
 H₀:=H
 env:=compEnvC s c C X.env
 outer:=X.stack
 stack:=X.stack
 ex:=f
 fn:=λ_=>ν
 calm:=X.calm
 pn:=[]
 xe:=λ_ _=>False
def GY(n:Nat)(I:xL Nat)(a:St):St:=lq n θ++I.map λi=>(a[i]?).getD θ
structure bn(N:xL ρ)(sc scope:ic)(M:xL ρ)(nT:Nat)(ix:xL Nat):Prop where
 cell:∀y∈scope.names,y.2≠ .cell
 kind:scope.kind= .function
 loc:∀y∈scope.names,y.2= .local->scope.names.lookup y.1=δ .local
 fre:∀y∈scope.names,y.2= .free->sc.names.lookup y.1=δ .cell
 nms:M.drop nT=ix.map λi=>N.getD i Str.empty
 len:ο M=nT+ο ix
 vis:∀i∈ix,scope.names.lookup (N.getD i Str.empty)=δ .free
theorem JB{E:Env}(c:E.scope.kind= .function):∀{N:xL (ρ×NameKind)} {y:ρ},N.lookup y=δ .free->E.kindOf y=δ .cell->
  (N.map λ(n,k)=>if (k==NameKind.free&&E.scope.kind== .function&&E.kindOf n==δ .cell) then (n,NameKind.cell) else (n,k)).lookup y=δ .cell
 | [],_,h,_=>by simp at h
 | (n,k)::r,y,h,b=>by
  let i:=@JB E c r y;show hJ y ((if (k==NameKind.free&&E.scope.kind== .function&&E.kindOf n==δ .cell)=μ then (n,NameKind.cell) else (n,k))::_)=_;cases H:y==n with
  |true=>
   simp only[PH,H]at h;cases h;let e:y=n:=by simpa using H
   subst e;rw[OB (by rw[c,b];rfl)];simp [PH]
  |false=>
   simp only[PH,H]at h;by_cases a:(k==NameKind.free&&E.scope.kind== .function&&E.kindOf n==δ .cell)=μ
   .rw[OB a];simp only[PH,H];rwa[i h b]
   .rw[OD a];simp only[PH,H];rwa[i h b]
theorem Qc{E:Env}:∀{N:xL (ρ×NameKind)} {y:ρ} {K:NameKind},
  (N.map λ(n,k)=>if (k==NameKind.free&&E.scope.kind== .function&&E.kindOf n==δ .cell) then (n,NameKind.cell) else (n,k)).lookup y=δ K->
  ∃k,N.lookup y=δ k/\(K=k∨k= .free)
 | [],_,_,h=>by simp at h
 | (n,k)::r,y,K,h=>by
  let i:=@Qc E r y K;let h:hJ y ((if (k==NameKind.free&&E.scope.kind== .function&&E.kindOf n==δ .cell)=μ then (n,NameKind.cell) else (n,k))::_)=δ K:=h;cases a:y==n with
  |true=>
   erw[#[k,by simp only[PH,a],?_]];by_cases H:(k==NameKind.free&&E.scope.kind== .function&&E.kindOf n==δ .cell)=μ
   .right;simp only[PU]at H;simpa using H.1.1
   .rw[OD H]at h;simp only[PH,a]at h;left;exact(Po h).symm
  |false=>
   let b:hJ y (r.map λ(n,k)=>if (k==NameKind.free&&E.scope.kind== .function&&E.kindOf n==δ .cell) then (n,NameKind.cell) else (n,k))=δ K:=by
    by_cases H:(k==NameKind.free&&E.scope.kind== .function&&E.kindOf n==δ .cell)=μ
    .rw[OB H]at h;simp only[PH,a]at h;rwa[h]
    .rw[OD H]at h;simp only[PH,a]at h;rwa[h]
   let⟨c,e,q⟩:=i b;exact#[c,by simp only[PH,a];rwa[e],q]
def be(e:Env):xL (ρ×NameKind)->xL (ρ×ζ)->xL (ρ×ζ)
 | [],a=>a
 | (n,k)::r,a=>if k== .free then be e r ((n,(e.cells.lookup n).getD 0)::a) else be e r a
theorem qi{E:Env}:∀{N:xL (ρ×NameKind)} {acc:xL (ρ×ζ)},(∀y∈N,y.2= .free->∃c,E.cells.lookup y.1=δ c)->(∀x c,acc.lookup x=δ c->E.cells.lookup x=δ c)->
  ∀x c,(be E N acc).lookup x=δ c->E.cells.lookup x=δ c
 | [],_,_,b,x,c,h=>b x c h
 | (n,k)::r,acc,f,b,x,c,h=>by
  unfold be at h;by_cases g:(k==NameKind.free)=μ
  .rw[OB g]at h;erw[qi (λy H=>f y (OY _ H)) (λX j a=>?_) x c h];let⟨C,d⟩:=f (n,k) ON (g:);let d:E.cells.lookup n=δ C:=d;simp only[PH]at a;cases i:X==n with
   |true=>
    rw[i]at a;let e:X=n:=by simpa using i
    subst e;rw[d]at a;rw[d];rwa[a]
   |false=>rw[i]at a;rwa[b _ _ a]
  .rw[OD g]at h;rwa[qi (λy H=>f y (OY _ H)) b x c h]
theorem qJ:∀{a:xL (ρ×ζ)},(∃c,(x,c)∈a)->∃c,a.lookup x=δ c
 | [],h=>by let⟨_,h⟩:=h;cases h
 | (n,c)::r,h=>by
  simp only[PH];cases H:x==n with
  |true=>exact#[c,Z]
  |false=>
   let⟨C,h⟩:=h;rcases Ξ.mp h with e |h
   .injection e with E _;subst E;simp at H
   .rwa[qJ #[C,h]]
theorem q8:∀{N:xL (ρ×NameKind)} {a:xL (ρ×ζ)},((∃c,(x,c)∈a)∨(x,NameKind.free)∈N)->∃c,(x,c)∈be E N a
 | [],_,h=>by
  rcases h with h |h
  .rwa[h]
  .cases h
 | (n,k)::r,a,h=>by
  unfold be;by_cases H:(k==NameKind.free)=μ
  .rw[OB H];erw[q8 ?_];rcases h with ⟨c,h⟩ |h
   .rwa[.inl #[c,OY _ h]]
   .rcases Ξ.mp h with e |h
    .injection e with b _;subst b;rwa[.inl #[_,ON]]
    .rwa[.inr h]
  .rw[OD H];erw[q8 ?_];rcases h with h |h
   .rwa[.inl h]
   .rcases Ξ.mp h with e |h
    .injection e with _ d;subst d;rwa[absurd Z H]
    .rwa[.inr h]
theorem qQ{e:Env}:∀(N:xL (ρ×NameKind)) (A:xL (ρ×ζ)),(∀y∈N,y.2= .free->∃c,e.cells.lookup y.1=δ c)->
  (forIn N A (λx r=>match x with | (name,K)=>if (K==NameKind.free)=μ then (do let a <- cellOf e name;pure (ForInStep.yield ((name,a)::r))) else pure (ForInStep.yield r)):Sem (List$ ρ×ζ))=pure (be e N A)
 | [],A,_=>rfl
 | (n,k)::r,A,b=>by
  let i:=λA=>qQ r A λy H=>b y (OY _ H);rw[RN];unfold be;by_cases h:(k==NameKind.free)=μ
  .let⟨C,E⟩:=b (n,k) ON (h:);let E:e.cells.lookup n=δ C:=E;let d:cellOf e n=pure C:=by unfold cellOf;rw[E]
   rw[OB h];simp only[h,SN,d,E];rwa[i _]
  .rw[OD h];simp only[h];rwa[i _]
def qR{e:Env}{S:ic}(H:∀y∈S.names,y.2= .free->∃c,e.cells.lookup y.1=δ c):closureFor S e=pure (be e S.names []):=by let h:=qQ S.names [] H;rwa[PL (λt:Sem (List$ ρ×ζ)=>t >>= λs=>pure s) h]
section
variable {X:Cx}{pins:xL (ζ×hG)}{σ:St}{H:Hp}{s:ι}
def Jr(I:ax X pins σ H s)(S:bn X.N X.env.scope a M n i):∀y∈a.names,y.2= .free->∃c,X.env.cells.lookup y.1=δ c:=
 λy h e=>I.ok.has y.1 (.inl$ S.fre y h e)
def vg{g:de}(I:ax X pins σ H s)(F:∀b∈Y,gY X pins H b)(P:∀b∈Y,b < -s)
  (S:bn X.N X.env.scope a M n G) (Q:-s<=C) (O:∀b o,s.heap.get? b=δ o->g.get? b=δ o) (R:g.Ns C m):
  ax (bu X a M (be X.env a.names []) C Y s H) [] (GY n G σ) H { s with heap:=g,toks:=tk }:=by
 let sub:∀x c,(be X.env a.names []).lookup x=δ c->X.env.cells.lookup x=δ c:=qi (Jr I S) (λx c h=>by simp at h);let j:∀x,a.names.lookup x=δ .free->∃c,(be X.env a.names []).lookup x=δ c:=λx e=>qJ (q8$ .inr$ P9 e);let hex:∀x K,(relabel a X.env).names.lookup x=δ K->(K= .cell∨K= .free)->a.names.lookup x=δ .free:=λx K e A=>by
  let⟨k,t,q⟩:=Qc e;rcases q with q |q
  .rcases A with z |z
   .rwa[absurd (q.symm.trans z)$ S.cell (x,k)$ P9 t]
   .rw[t,<- q,z]
  .rw[t,q]
 refine#[#[I.ok.mod,S.kind,I.ok.glob,I.ok.blt,Q,λx y c h1 h2=>I.ok.inj x y c (sub x c h1) (sub y c h2),λx hx=>?_,λx c hx=>?_,I.ok.hd,I.ok.frames,.inl Z,λb w=>#[λz=>?_,λx c e=>?_],I.bs,OK I.ok.bsz I.sz,λb o e w=>?_,λb w hz=>?_,I.stack,I.stkFree],
  rfl,I.bare,Un.kept O,#[m,R,λk y v t E _=>?_],λx c e=>?_,I.hok.fresh Q,λx c e=>I.freeC x c (sub x c e),λp hp=>absurd (show p∈([]:xL (ζ×hG)) from hp) NN,I.hok.kept O,?_]
 .rcases hx with hx |hx
  .rwa[j x$ hex x _ hx$ .inl Z]
  .rwa[j x$ hex x _ hx$ .inr Z]
 .rwa[absurd (show ν=μ from hx) NP]
 .let z':b=C:=z;let:=P b w;rw[z']at this;rwa[absurd this$ Nat.not_lt.mpr Q]
 .exact(F b w).2.2.2.2.1 x c (sub x c e)
 .rcases(F b w).2.2.2.1 with z |z
  .rwa[I.ok.noex b o e z]
  .rwa[absurd (OM (Ox e)$ OK I.ok.bsz z)$ Pr _]
 .rcases Ξ.mp (I.stkSub b hz) with z |z
  .exact(F b w).2.1 z
  .exact(F b w).2.2.1 z
 .let E:(GY n G σ)[k]?=δ (δ v):=E;let t:M[k]?=δ y:=t;unfold GY at E;by_cases A:k < n
  .rw[Rx (A:),U0]at E;simp [A]at E
  .let B:n<=k:=Tk A;rw[Rs (B:),TN,OL]at E;cases J:G[k - n]? with
   |none=>rw[J]at E;cases E
   |some i=>
    rw[J]at E;let L:(σ[i]?).getD θ=δ v:=Po E;let V:σ[i]?=δ (δ v):=by
     cases W:σ[i]? with
     |none=>rw[W]at L;cases L
     |some o=>rw[W]at L;rwa[PL δ L]
    let hi:i < ο X.N:=by rw[<- I.len];exact(ξ.mp V).1
    let e7:y=X.N.getD i Str.empty:=by
     let q:(M.drop n)[k - n]?=δ y:=by rw[T8];rw[Vr B];rwa[t]
     rw[S.nms,OL,J]at q;exact(Po q).symm
    let e8:X.N[i]?=δ y:=by rw[e7,On hi,O4,On hi];rfl
    let d:a.names.lookup y=δ .free:=by rw[e7];rwa[S.vis i$ OX J]
    let f:X.env.scope.names.lookup y=δ .cell:=S.fre (y,.free) (P9 d) Z;let⟨m',_,hl⟩:=I.loc;let⟨u,r,l⟩:=hl i y v e8 V (.inr$ .inl f);erw[#[u,r,?_]];rcases l with ⟨l,_⟩ | ⟨_,c,ec,o,T,U⟩
    .let l:X.env.scope.names.lookup y=δ .local:=l;rw[f]at l;cases l
    .let⟨c',D⟩:=j y d;let q:=sub y c' D;rw[ec]at q;cases q;rwa[.inr #[.inl$ JB I.ok.kind d f,c,D,o,O _ _ T,U]]
 .let⟨v,o,T,U⟩:=I.cell x c (sub x c e);exact#[v,o,O _ _ T,U]
 .show(GY n G σ).length=ο M;rw[S.len];simp [GY]
def ax.track(I:ax X pins σ H s)(f:gY X pins H D)(G:X.s₀.heap.objs.size<=D)(a:a6 X.prog X.w (af H D o) s.heap D o):ax X pins σ (af H D o) s:=by
 let n:=f.1;let N:∀b u,H b=δ u->b≠D:=λb u e=>jk e n;erw[#[I.ok,I.os,I.bare,#[I.base.keep,I.base.slot,λb O e q i=>?_,I.base.there,λb d e=>?_,λb O u e=>?_,λb P e=>?_],I.loc,I.cell,?_,λx c e=>?_,λp h=>?_,λb u e=>?_,I.len]]
 .rw[jh$ OH$ OM (Ox e) G];rwa[I.base.free b O e q i]
 .let q:=I.base.tups b d e;rw[jh$ N _ _ q];rwa[q]
 .let q:=I.base.frzs b O u e;rw[jh$ N _ _ q];rwa[q]
 .let⟨m,q⟩:=I.base.tbls b P e;exact#[m,by rw[jh$ N _ _ q];rwa[q]]
 .rw[jh$ O3 f.2.1];rwa[I.free]
 .rw[jh$ f.2.2.2.2.1 x c e];rwa[I.freeC x c e]
 .let⟨e,q,r⟩:=I.pin p h;exact#[e,by rw[jh$ f.2.2.2.2.2 p h];rwa[q],r]
 .by_cases g:b=D
  .subst g;rw[jc]at e;cases e;rwa[a]
  .rw[jh g]at e;exact(I.hok b u e).stay (λ_ _ _ q=>q) (λc q=>by rw[jh$ N _ _ q];rwa[q]) λc d q=>by rw[jh$ N _ _ q];rwa[q]
abbrev lU(u:xL η):hG:={ cls:=.type "list",data:=.seq u.toArray u.length }
def tL(u:xL η)(y:η):({ cls:=.type "list",data:=.seq (u.toArray.push y) (ο u+1) }:hG)=lU (u++[y]):=by show({ cls:=.type "list",data:=.seq (u.toArray.push y) (ο u+1) }:hG)={ cls:=.type "list",data:=.seq (u++[y]).toArray (u++[y]).length };rw[Ot,RP,List.push_toArray]
def PF(X:Cx)(i:xL dr)(t:TT):Prop:=
 ∀(pins:xL (ζ×hG)) (s:ι) (σ:St) (H:Hp) (Q:Bool->Hp->Prop),ax X pins σ H s->t σ H Q->
  π (υ X.prog X.w) X.A (forIn i μ λc r=>if r=μ then do let o <- isTrue c X.env (eval c X.env);pure (ForInStep.yield o) else pure (ForInStep.yield r)) (TP X pins σ Q) X.xe s
def nq:TT:=λ_ H Q=>Q μ H
def zF:PF X [] nq:=λ_ _ _ H _ I h=>wpAny_tests_nil #[H,I,h]
def KD{c:dr}{t:TT}(h:PT X c t):PF X [c] t:=λpins s σ H Q I q=>wpAny_tests_one (h pins s σ H Q I q)
def rJ(I:xL Nat)(σ:St):St:=I.map λi=>(σ[i]?).getD θ
def eZ(J:It)(n:Nat)(t:St)(g:TG)(j:TT)(k:TE)(Q:xL V->Hp->Prop)(H:Hp):Prop:=
 ∃W:Nat->Nat->xL V->Hp->Prop,(∃m,W 0 m [] H)/\∀i m Y H,W i m Y H->
  (J.stop i H/\Q Y H)∨(J.go i H/\ο Y < τ/\∃N:xL V->Hp->Prop,(∀c h,N c h->∃M,M < m/\W (i+1) M c h)/\
   ∀x d (e:St),ο e=n->J.yld i H x d->g x (e++t) d λa h=>(∃T:St,ο T=n/\a=T++t)/\j a h λb f=>if b=μ then k a f λy l=>N (Y++[y]) l else N Y f)
def Qd{iter:dr}
  {RR:η->ζ->Result->ι->Prop} 
  (I:ax X pins σ H s) (hc:X.calm=μ) (T:oO X.prog X.w X.K tg J k it tn) (st:tn 0 s.heap) (hf:∀b∈k,gY X pins H b) (S:bn X.N X.env.scope scope M nT ix)
  (hg:∀cl C k s H,PG (bu X scope M cl C k s H) tg g) (hi:∀cl C k s H,PF (bu X scope M cl C k s H) i0 tt) (he:∀cl C k s H,PE (bu X scope M cl C k s H) e0 te)
  (h:eZ J nT (rJ ix σ) g tt te Qf H)
  (h':∀D C Y m t G,(∀b o u,H b=δ (.frz o u)->t b=δ (.frz o u))->t D=θ->ax X pins σ (af t D$ .lst Y) G->gY X pins (af t D$ .lst Y) C->G.heap.Ns C m->Qf Y t->RR (.ref D) C (.ok .next) G):
  π (υ X.prog X.w) X.A (newList []) (λacc B=>π (υ X.prog X.w) X.A (newFunctionEnv scope X.env.globals (be X.env scope.names []) [] X.env.qual θ .none$ δ X.env) (λc0 s0=>
   kz (υ X.prog X.w) X.A (.compStart (.ListComp e0 [#[tg,iter,i0,0]] scope p1) 0 (.ref it) acc { c0 with scope:=relabel scope X.env }) (RR acc c0.locals) s0) E B) E s:=by
 obtain⟨W,⟨m0,w0⟩,t1⟩:=h;let h3:∀b∈k,b < -s:=λb a=>by let⟨o,e,_⟩:=T.obj 0 _ st b a;rwa[Ox e]
 erw[Pd$ wpAny_newFunctionEnv S.cell (by intro y hy;simp at hy) (λF l f=>?_) S.kind];dsimp only at l f ⊢;generalize h4:s.heap.push { cls:=.type "list",dict:=θ,data:=.seq ([]:xL η).toArray }=H2 at l f ⊢;let hC:H2.objs.size=-s+1:=by rw[<- h4,Pn]
 let P:-s≠H2.objs.size:=by rw[hC];rwa[OH$ P8 _]
 let h0:-s<=H2.objs.size:=by rw[hC];rwa[PY _]
 let b0:∀b,b < -s->b≠H2.objs.size/\b≠-s:=λb a=>#[by rw[hC];rwa[OH$ RD a],OH a];let o1:∀b o,s.heap.get? b=δ o->F.get? b=δ o:=λb o e=>f.extBut b o (b0 b$ Ox e).1 (Oo _$ h4▸Oo _ e);let h5:F.get? (-s)=δ (lU []):=f.extBut _ _ P (Oo _$ h4▸Oy _ Z);let a0:H (-s)=θ:=I.hok.fresh (Ou _);let h6:-s∉l7 X.stack:=λa=>(Ξ.mp$ I.stkSub _ a).elim (λe=>absurd I.lt (by rw[<- e];rwa[Pr _])) (I.nofs$ Ou _);generalize hD:-s=D at*;generalize b1:H2.objs.size=C at*;let J0:∀tk,ax (bu X scope M (be X.env scope.names []) C k s H) [] (GY nT ix σ) H { s with heap:=F,toks:=tk }:=λtk=>vg I hf (by rw[hD];rwa[h3]) S (by rw[hD];rwa[h0]) o1 l;let c1:∀x c,(be X.env scope.names []).lookup x=δ c->c≠D:=λx c e z=>by let sub:=qi (Jr I S) (acc:=[]) (λx c h=>by simp at h) x c e;let⟨v,o,ho,_⟩:=I.cell x c sub;let:=Ox ho;rw[z,hD]at this;rwa[Pr _ this]
 let p0:∀{σ0:St} {t:Hp} {G:ι} {U:xL η},ax (bu X scope M (be X.env scope.names []) C k s H) [] σ0 t G->G.heap.get? D=δ (lU U)->t D=θ->
   ax (bu X scope M (be X.env scope.names []) C k s H) [(D,lU U)] σ0 t G:=λ{σ0 t G U} I' e n=>I'.pins_of λp hp=>by
  let ep:p=(D,lU U):=by simpa using hp
  subst ep;exact#[e,n,P,h6,λv z=>by cases z]
 let L:∀{t:Hp} {U:xL η},(∀b∈k,t b=θ)->∀b∈k,gY (bu X scope M (be X.env scope.names []) C k s H) [(D,lU U)] t b:=λ{t U} hn b a=>
  #[hn b a,((J0 0).ok.exf b a).1,(J0 0).ok.exfs b a,.inl a,((J0 0).ok.exf b a).2,λp hp z=>by
   let ep:p=(D,lU U):=by simpa [bu] using hp
   rw[ep]at z;let:=h3 b a;rw[<- z]at this;rwa[Pr _ this]]
 let l0:∀B:ι,(∃tk,B={ s with heap:=F,toks:=tk })->
   kz (υ X.prog X.w) X.A (.compLoop (.ListComp e0 [#[tg,iter,i0,0]] scope p1) 0 (.ref it) (.ref D)$ compEnvC scope (be X.env scope.names []) C X.env) (RR (.ref D) C) B:=by
  rintro B ⟨tk,rfl⟩;refine sP (λn G=>∃i Y U ts t,ο ts=nT/\ax (bu X scope M (be X.env scope.names []) C k s H) [(D,lU U)] (ts++rJ ix σ) t G/\aG Y U/\ο Y<=τ/\tn i G.heap/\(∀b∈k,t b=θ)/\W i n Y t) ?_ m0
   #[0,[],[],lq nT θ,H,TN,p0 (J0 tk) h5 a0,.nil,OA _,T.keep _ _ _ st λb a o e=>o1 b o e,λb a=>(hf b a).1,w0]
  rintro n s1 ⟨i,Y,U,ts,Q,a1,I1,rv,hz,s7,f0,w1⟩;rcases t1 i n Y Q w1 with ⟨stop,q⟩ | ⟨go,a2,N,hN,step⟩
  .erw[a8 (T.done (bu X scope M (be X.env scope.names []) C k s H) Z Z Z hc i _ s1 _ Q CQ I1 (L f0) s7 stop) λr s2 j=>?_];let⟨hr,I2⟩:=j;subst hr;let IO:ax X pins σ Q s2:=I.call' (ch:=k) I2.os I2.base I2.hok I2.bare λb a=>#[(hf b a).2.2.2.1,(hf b a).2.1,(hf b a).2.2.2.2.1,(hf b a).2.2.2.2.2];let pD:=I2.pin (D,lU U) (by simp [bu]);let h8:Q D=θ:=pD.2.1;let fD:gY X pins Q D:=by rw[<- hD];exact I.fpOk (Ou _) (by rw[hD];exact h8)
   let IT:ax X pins σ (af Q D$ .lst Y) s2:=IO.track fD (by rw[<- hD];rwa[I.sz]) #[hz,U,U.length,rv,pD.1];let⟨mC,a3,_⟩:=I2.loc;let a4:Q C=θ:=I2.free;rwa[h' D C Y mC Q s2 I2.base.frzs h8 IT (I.fpOk (by rw[hD];rwa[h0]) (by rw[jh$ O3 P];rwa[a4])) a3 q]
  .erw[a8 (T.item (bu X scope M (be X.env scope.names []) C k s H) Z Z Z hc i _ s1 _ Q CQ I1 (L f0) s7 go) λr s2 j=>?_];let⟨u,hr,h2⟩:=j;subst hr;erw[a8 h2 λ_ s3 j=>?_];let⟨x,H3,I3,r3,y3,O,f1⟩:=j;let a5:=I3.pinned (L f1) (T.obj _ _ O);erw[a8 (hg _ _ _ _ _ _ s3 _ H3 x u _ a5 r3$ step x H3 ts a1 y3) λ_ s4 j=>?_];obtain⟨σ1,H4,I4,⟨t0,h1,e4⟩,q4⟩:=j;subst e4;erw[a8 (hi _ _ _ _ _ _ s4 _ H4 _ I4 q4) λb s5 j=>?_];let⟨H5,I5,q5⟩:=j;cases b with
   |false=>obtain⟨m',hm,w'⟩:∃m',m' < n/\W (i+1) m' Y H5:=hN _ _ q5;erw[#[m',hm,i+1,Y,U,t0,H5,h1,I5.unpinned,rv,hz,T.keep _ _ _ O λb a o e=>(I5.pin (b,o)$ OS _$ OS _$ zi a e).1,λb a=>?_,w']];let⟨o,e,d⟩:=T.obj _ _ O b a;exact(I5.pin (b,o)$ OS _$ OS _$ zi a e).2.1
   |true=>
    erw[a8 (he _ _ _ _ _ _ s5 _ H5 _ I5 q5) λv s6 j=>?_];let⟨y,H6,I6,r6,q6⟩:=j;let⟨m',hm,w'⟩:=hN _ _ q6;let pD:=I6.pin (D,lU U) (OS _$ P0 _ ON);let hl:=rv.length;let R:∀b∈k,∀o,s3.heap.get? b=δ o->s6.heap.get? b=δ o:=λb a o e=>(I6.pin (b,o)$ OS _$ OS _$ zi a e).1;let V:∀b∈k,H6 b=θ:=λb a=>by let⟨o,e,d⟩:=T.obj _ _ O b a;exact(I6.pin (b,o)$ OS _$ OS _$ zi a e).2.1
    erw[append_at (hsz:=by rw[Ov,<- hl];rwa[hz]) pD.1 λh7 sb a'=>?_];let I7:ax (bu X scope M (be X.env scope.names []) C k s H) [] (t0++rJ ix σ) H6 { s6 with heap:=h7 }:=
     (I6.pins_of (pins':=[]) λp hp=>absurd hp NN).turned (t':=s6.toks) (it:=D) (λb o a e=>(sb.2 b a).trans e) pD.2.1 P (.inr (by show -s<=D;rw[hD];rwa[Ou _])) c1 λp hp=>absurd (show p∈([]:xL (ζ×hG)) from hp) NN
    refine#[m',hm,i+1,Y++[y],U++[v],t0,H6,h1,p0 I7 (a'.trans$ PL δ$ tL U v) pD.2.1,rv.append$ .cons r6 .nil,by rw[Ot,RP];exact a2,
     T.keep _ _ _ (T.keep _ _ _ O R) λb a o e=>(sb.2 b λz=>?_).trans e,V,w']
    let:=h3 b a;rw[z]at this;rwa[Pr _ this]
 rwa[codeAny_compStart_list (l0 _ #[_,Z])$ T.self _ 0 _ _ _ (T.keep _ _ _ st λb a o e=>o1 b o e)$ l0 _ #[_,Z]]
def yC(w:TI)(n:Nat)(i:xL Nat)(g:TG)(t:TT)(T:TE):TE:=λσ H Q=>w σ H λJ a=>eZ J n (rJ i σ) g t T (λy h=>∀p,h p=θ->Q (.ref p) (af h p$ .lst y)) a
def zk{t E iter:dr}{i:xL dr}{a:ic}{p:Pos}{M:xL ρ}{k:Nat}{l:xL Nat}{W:TI}{g:TG}{r:TT}{u:TE}(v:X.calm=μ)(y:PI X t iter W)(S:bn X.N X.env.scope a M k l)
  (z:∀c C f s H,PG (bu X a M c C f s H) t g) (B:∀c C f s H,PF (bu X a M c C f s H) i r) (G:∀c C f s H,PE (bu X a M c C f s H) E u)
  (K:∀x,foldedSetIterable iter X.env x=pure x:=by intro _;rfl):
  PE X (.ListComp E [#[t,iter,i,0]] a p) (yC W k l g r u):=by
 intro pins s σ H Q I h;rw[eval_ListComp];erw[Vl (use:=θ) Z K (qR$ Jr I S) S.kind S.loc$ a8 (y pins s σ H _ I h) λxv s1 L=>a8 L λO s2 P=>?_];let⟨it,f,tn,J,H2,e,U,T,d,V,R⟩:=P;subst e;erw[Qd (RR:=λj C=>compPost (υ X.prog X.w) X.A X.xe θ (EP X pins σ Q) j C) U v T d V S z B G R ?_];intro D C ys m H' Y _ n I' F ns q;exact#[m,ns,λh' sb=>#[.ref D,_,I'.turned (t':=Y.toks) (λb o hb e=>(sb.2 b hb).trans e) F.1 F.2.1 F.2.2.2.1 F.2.2.2.2.1 F.2.2.2.2.2,Z,q D n]]
def qK{t E iter:dr}{d:xL dr}{c:ic}{p P f:Pos}{y:ρ}{i:Nat}{M:xL ρ}{U:Nat}{V:xL Nat}{W:TI}{g:TG}{Y:TT}{te:TE}(hN:X.N.Nodup)(hy:X.N[i]?=δ y)(hx:uT X.env.scope y)
  (hc:X.calm=μ) (hI:PI X t iter W) (S:bn X.N X.env.scope c M U V)
  (hg:∀l C j s H,PG (bu X c M l C j s H) t g) (hi:∀l C j s H,PF (bu X c M l C j s H) d Y) (he:∀l C j s H,PE (bu X c M l C j s H) E te)
  (r:↥(swapsWith (.ListComp E [#[t,iter,d,0]] c p) (δ$ .Name y P) f.line X.env=pure μ))
  (hf:autoParam (X.fn y=μ∨X.env.scope.names.lookup y=δ .local) Wx._auto_1)
  (hs:∀x,foldedSetIterable iter X.env x=pure x:=by intro _;rfl):
  PS X (.Assign [.Name y P] (.ListComp E [#[t,iter,d,0]] c p) f) (λD σ H=>yC W U V g Y te σ H λv H1=>D.nx (σ.set i$ δ v) H1):=by
 intro pins s σ H D I h;rw[exec_Assign_Name_used _ _ _ _ r];erw[Om$ RU$ Om ?_];show π _ X.A (do let _ <- comprehension (.ListComp E [#[t,iter,d,0]] c p) c X.env _ (newList []) ν (eval iter X.env) (δ$ assign (.Name y P) X.env)) _ _ s;refine Om (a8 (Vl (use:=δ (assign (.Name y P) X.env)) (Q:=λ_ k=>SP X pins D .next k) Z hs (qR$ Jr I S) S.kind S.loc
  (a8 (hI pins s σ H _ I h) λxv s1 h1=>a8 h1 λi0 s2 h2=>?_)) λ_ k hq=>Op (Op hq))
 let⟨it,j,tn,J,H2,e,I2,T,u,f2,R⟩:=h2;subst e;erw[Qd (RR:=λB C=>compPost (υ X.prog X.w) X.A X.xe (δ$ assign (.Name y P) X.env) (λ_ k=>SP X pins D .next k) B C) I2 hc T u f2 S hg hi he R ?_];intro Dd C ys m H' k _ n I' F ns q;show π _ X.A (assign (.Name y P) X.env$ .ref Dd) _ _ k;erw[Wm$ QS I' hN hy hx (v:=.ref Dd) Z (λG K hh=>?_) hf];let⟨a,sb,ha⟩:=hh;let L:C≠a:=by
  rcases ha with z |z
  .rw[z];rwa[F.2.1]
  .rwa[O3$ F.2.2.2.2.1 _ _ z]
 exact#[m,ns.sameBut sb L,λh' O=>#[_,_,K.turned (t':=G.toks) (λb o hb e=>(O.2 b hb).trans e) F.1 F.2.1 F.2.2.2.1 F.2.2.2.2.1 F.2.2.2.2.2,q Dd n]]
end
section
variable {X:Cx}
def G8(i j:Int):Prop:=0 < j/\j<=1000000000000000000
def KN:fq X (binaryOp .FloorDiv) (rI G8 λi j=>.int (i / j)):=LQ λi j _ _ _ _ _ h q=>by
 let b:(0:Int) < j:=h.1;let c:j<=1000000000000000000:=h.2;erw[floordiv_int NO (by rw[Int.fdiv_eq_ediv_of_nonneg i NO];rwa[q])$ .inl$ PyProof.noPylong_of_log2 ?_];let H:j.natAbs≠0:=NO
 let a:j.natAbs < 2 ^ 60:=by rwa[N09]
 let d:j.natAbs.log2 < 60:=(Nat.log2_lt H).mpr a;omega
theorem qj:∀{Y:xL ρ} {U:xL η},aG (Y.map tT) U->StrsAre U Y
 | [],_,.nil=>.nil
 |y::r,_,.cons (b:=u) h t=>by obtain⟨T,e⟩:∃T,u=mT y T:=h;subst e;rwa[.cons y T$ qj t]
inductive QZ(K:β)(x:V)(a:xL V)(H:Hp)(Q:VK):Prop
 |mk(z:ρ)(p:ζ)(b:xL ρ)(_:x= .str z)(_:a=[.ref p])(_:aL K H p (b.map tT))(_:z.length<=16)(_:(b.map (·.length)).sum+ο b<=1048576)(_:Q (.str (Txt.join z b)) H)
def Xx:Mb X "str.join" (QZ X.K):=by intro P s j H x l v U Q I r R h;let⟨z,p,y,rfl,rfl,a,b,c,q⟩:=h;let⟨u,rfl,d⟩:=gr R;cases d;let⟨t,rfl⟩:=r;let⟨i,e,f,g⟩:=I.list a;rwa[join_listW f.isList (qj e:) b c λT k=>#[.str _,H,I.tok k,#[_,Z],q]]
def vm:dr->ym V
 | .Constant (.str x) _ _=>δ (.str x)
 | .Constant (.int i) _ _=>δ (.int i)
 |_=>θ
def Fz(h:vm e=δ v):PE X e (tC v):=by
 cases e with
 |Constant c j p=>
  cases c with
  |str x=>cases h;rwa[jm]
  |int i=>cases h;rwa[jf]
  |_=>cases h
 |_=>cases h
def yx(h:vm e=δ v):Δ (e::a) E=(ν,eval e E)::Δ a E:=by
 cases e with
 |Constant c j p=>rfl
 |_=>cases h
def wj(e:dr):Bool:=(vm e).isSome
def vk(e:dr):V:=(vm e).getD .non
theorem Xy:∀{E:xL dr},E.all wj=μ->PA X E (λ_ H Q=>Q (E.map vk) H)
 | [],_=>jb
 |e::E,h=>by
  rw[UV,PU]at h;let⟨v,a⟩:=ti.mp (show(vm e).isSome=μ from h.1);let b:vk e=v:=by unfold vk;rw[a];rfl
  rw[PZ,b];rwa[ja (Fz a) (Xy h.2)$ yx a]
def sU{E:xL dr}(h:E.all wj=μ):(E.map vk).all dC=μ:=by
 rw[Tf]at h ⊢;intro v H;let⟨e,a,rfl⟩:=dg.mp H;let q:=h e a;unfold wj at q;unfold vk;cases e with
 |Constant c j p=>
  cases c with
  |str x |int i=>rfl
  |_=>rwa[absurd q OG]
 |_=>rwa[absurd q OG]
def Lq(t:TS):TS:=λD b H=>∃R:St->Hp->Prop,t { D with nx:=R } b H/\∀a h,R a h->D.nx a h
def j6{st:bU}{t:TS}(h:PS X st t):PS X st (Lq t):=by
 intro p s b H D I c;let⟨R,d,e⟩:=c;erw[a8 (h p s b H _ I d) λf S q=>?_];cases f with
 |next=>let⟨a,g,i,q⟩:=q;exact#[a,g,i,e _ _ q]
 |brk |cont |ret v=>rwa[q]
def tF{t:St}(h:ο t=1):∃v,t=[v]:=by
 cases t with
 |nil=>cases h
 |cons v r=>
  cases r with
  |nil=>exact#[v,Z]
  |cons _ _=>cases h
def YB{lo:Int}{t:TE}{Q:xL V->Hp->Prop}(Pv:Nat->xL V->Hp->Prop)(g:Pv 0 [] H)(j:n<=τ)(b:∀i Y h,Pv i Y h->ο Y<=i)
  (k:∀i Y h,i < n->Pv i Y h->t (δ (.int$ lo+i)::c) h λy d=>Pv (i+1) (Y++[y]) d) (l:∀Y h,Pv n Y h->Q Y h):
  eZ (uS lo n) 1 c (bH 0) nq t Q H:=by
 erw[#[λi m Y h=>m=n - i/\i<=n/\Pv i Y h,#[n,NN,OA _,g],?_]];rintro i m Y h ⟨rfl,q,p⟩;by_cases a:i < n
 .erw[.inr #[a,PR (b i Y h p)$ OM a j,Pv$ i+1,λo d P=>#[n - (i+1),N09,Z,a,P],λx d T f y=>?_]];let⟨e,y⟩:=y;subst e y;let⟨v,rfl⟩:=tF f;exact#[#[[δ _],Z,Z],k i Y _ a p]
 .let e:i=n:=by omega
  subst e;rwa[.inl #[Ou _,l Y h p]]
end
section
variable {κ:Type}[DecidableEq κ]
def eQ(K:xL (κ×V))(k:κ):ym V:=(K.find? λa=>decide (a.1=k)).map (·.2)
def cn(K:xL (κ×V))(k:κ)(v:V):xL (κ×V):=
 if (K.any λa=>decide (a.1=k))=μ then K.map (λa=>if a.1=k then (a.1,v) else a) else K++[(k,v)]
def KO{p:κ×V}(e:p.1=k):eQ (p::r) k=δ p.2:=by simp [eQ,Se,e]
def KP{p:κ×V}(e:¬p.1=k):eQ (p::r) k=eQ r k:=by simp [eQ,Se,e]
theorem X3(k:κ):∀K:xL (κ×V),(K.any λa=>decide (a.1=k))=(eQ K k).isSome
 | []=>rfl
 |p::r=>by
  rw[SA];by_cases e:p.1=k
  .simp only[KO e,OE e,Ww,Option.isSome_some]
  .rw[KP e,Oz e,Bool.false_or];rwa[X3 k r]
def qG(K:xL (κ×V))(k:κ)(v:V):(cn K k v).length<=ο K+1:=by
 unfold cn;split
 .rw[Oq];omega
 .rw[Ot,O1,Us];omega
def ff.isSome_eq(r:ff o u):o.isSome=u.isSome:=by
 cases o with
 |none=>cases u with
  |none=>rfl
  |some _=>exact(show False from r).elim
 |some _=>cases u with
  |none=>exact(show False from r).elim
  |some _=>rfl
def ff.getD(r:ff o u)(R:aK d D):aK (o.getD d) (u.getD D):=by
 cases o with
 |none=>cases u with
  |none=>rwa[R]
  |some _=>exact(show False from r).elim
 |some _=>cases u with
  |none=>exact(show False from r).elim
  |some _=>rwa[r]
def KV.val(r:KV a v)(k:κ):ff (eQ a k) (valueAt v k):=by
 unfold KV at r;induction r with
 |nil=>rwa[True.intro]
 | @cons p q P Q h t i=>
  let⟨H,c⟩:=h;by_cases e:p.1=k
  .let E:q.1=k:=H.symm.trans e;let b:valueAt (q::Q) k=δ q.2:=by simp [valueAt,Se,E]
   rw[KO e,b];rwa[c]
  .let E:¬q.1=k:=λz=>e (H.trans z);let b:valueAt (q::Q) k=valueAt Q k:=by simp [valueAt,Se,E]
   rw[KP e,b];rwa[i]
def KV.any(r:KV a v)(k:κ):(a.any λK=>decide (K.1=k))=v.any λK=>decide (K.1=k):=by
 unfold KV at r;induction r with
 |nil=>rfl
 |cons h t i=>rw[SA,SA,i,h.1]
def KV.repl(r:KV a v)(k:κ)(R:aK y u):
  KV (a.map λK=>if K.1=k then (K.1,y) else K) (v.map λK=>if K.1=k then (K.1,u) else K):=by
 unfold KV at r ⊢;induction r with
 |nil=>rwa[.nil]
 | @cons p q P Q h t i=>
  rw[PZ,PZ];erw[.cons ?_ i];let⟨H,b⟩:=h;by_cases e:p.1=k
  .rw[OB e,OB$ H.symm.trans e];exact#[H,R]
  .rw[OD e,OD (λz=>e (H.trans z))];exact#[H,b]
def KV.put(r:KV a v)(k:κ)(R:aK y u):KV (cn a k y) (stored v k u):=by
 unfold cn stored;rw[r.any k];by_cases e:(v.any λK=>decide (K.1=k))=μ
 .rw[OB e,OB e];rwa[r.repl k R]
 .rw[OD e,OD e];rwa[Paired.snoc r #[Z,R]]
def KV.length(r:KV k v):ο k=ο v:=Paired.length r
end
def QO{P:ψ}(r:aK (kV k) u):(bf P w).is k u=μ:=by
 cases k with
 |inl i=>let⟨t,e⟩:=(show ∃t,u=kw i t from r);subst e;rwa[Yz P w i t]
 |inr x=>let⟨t,e⟩:=(show ∃t,u=mT x t from r);subst e;rwa[YA P w x t]
theorem Q0{P:ψ}:∀{K:xL cf} {u:xL η},aG (K.map kV) u->ItemsAre (bf P w) K u
 | [],_,r=>by rw[Ws]at r;cases r;rwa[.nil]
 |k::K,_,r=>by
  rw[PZ]at r;cases r with
  |cons h t=>rwa[.cons (QO h) (Q0 t)]
abbrev KT(H:Hp):xL (xL cf×V)->xL (xL cf×ζ×η)->Prop:=Paired λp q=>p.1=q.1/\H q.2.1=δ (.tup$ p.1.map kV)/\aK p.2 q.2.2
def KT.val(r:KT H a x)(k:xL cf):ff (eQ a k) ((atKey x k).map (·.2)):=by
 induction r with
 |nil=>rwa[True.intro]
 | @cons p q P Q h t i=>
  let⟨c,_,d⟩:=h;by_cases e:p.1=k
  .let E:q.1=k:=c.symm.trans e;let b:atKey (q::Q) k=δ q.2:=by simp [atKey,Se,E]
   rw[KO e,b];rwa[d]
  .let E:¬q.1=k:=λz=>e (c.trans z);let b:atKey (q::Q) k=atKey Q k:=by simp [atKey,Se,E]
   rw[KP e,b];rwa[i]
def KT.repl(r:KT H b x)(k:xL cf)(R:aK y u):
  KT H (b.map λK=>if K.1=k then (K.1,y) else K) (x.map$ putAt k u):=by
 induction r with
 |nil=>rwa[.nil]
 | @cons p q P Q h t i=>
  rw[PZ,PZ];erw[.cons ?_ i];let⟨a,c,d⟩:=h;unfold putAt;by_cases e:p.1=k
  .rw[OB e,OB$ a.symm.trans e];exact#[a,c,R]
  .rw[OD e,OD (λz=>e (a.trans z))];exact#[a,c,d]
def KT.put(r:KT H a x)(k:xL cf)(h:H b=δ (.tup$ k.map kV))(R:aK y u):
  KT H (cn a k y) (storedH x k b u):=by
 let e:(a.any λK=>decide (K.1=k))=(atKey x k).isSome:=by rw[X3,(r.val k).isSome_eq,Vo]
 unfold cn storedH;rw[e];by_cases q:(atKey x k).isSome=μ
 .rw[OB q,OB q];rwa[r.repl k R]
 .rw[OD q,OD q];rwa[Paired.snoc r #[Z,h,R]]
def KT.keeps{h:Hp}(r:KT H k x)(a:∀b y,H b=δ (.tup y)->h b=δ (.tup y)):KT h k x:=
 Paired.mapP r λ_ _ z=>#[z.1,a _ _ z.2.1,z.2.2]
section
variable {P:ψ}{w:bF}{H:Hp}{h:de}{a:ζ}
def Dp(o:gD P w H h)(e:Rd H a u):a6 P w H h a u:=e.ok o
def Ku(o:gD P w H h)(e:Rd H a (.dK k)):ο k<=τ/\(a==sysModules)=ν/\∃v,KV k v/\h.DictOf (bf P w) a v:=
 show a6 P w H h a (.dK k) from Dp o e
def HR(o:gD P w H h)(e:H a=δ (.dK k)):ο k<=τ/\(a==sysModules)=ν/\∃v,KV k v/\h.DictOf (bf P w) a v:=Ku o (.inl e)
def KE{k:xL cf}(O:gD P w H h)(e:H a=δ (.tup$ k.map kV)):(tupleKind$ bf P w).is h k a:=by let⟨_,i,r,o,b,c,n,d⟩:=(show a6 P w H h a (.tup$ k.map kV) from O a _ e);exact#[o,i.toArray,n,b,c,d,by simpa using Q0 r]
def QP(O:gD P w H h)(e:Rd H a (.dT k)):ο k<=τ/\(a==sysModules)=ν/\
  ∃X,KT H k X/\h.DictOfH (tupleKind$ bf P w) a X:=by
 let⟨z,y,X,r,o,E,c,d,f,g,i,j⟩:=(show a6 P w H h a (.dT k) from Dp O e);erw[#[z,y,X,r,o,E,c,d,f,g,i,λx hx=>?_,j]];let all:∀{l:xL (xL cf×V)} {m:xL (xL cf×ζ×η)},KT H l m->∀x∈m,(tupleKind$ bf P w).is h x.1 x.2.1:=by
  intro l m q;induction q with
  |nil=>intro x hx;rwa[nomatch hx]
  | @cons p q n Q b t I=>
   intro x hx;rcases Ξ.mp hx with e |hx
   .subst e;rwa[KE O (by rw[<- b.1];rwa[b.2.1])]
   .rwa[I x hx]
 rwa[all r x hx]
def HU(o:gD P w H h)(e:H a=δ (.dT k)):ο k<=τ/\(a==sysModules)=ν/\
  ∃x,KT H k x/\h.DictOfH (tupleKind$ bf P w) a x:=QP o (.inl e)
end
def gX(H:Hp)(a:ζ)(y:V)(r:ym V):Prop:=
 (∃K k,Rd H a (.dK K)/\y=kV k/\r=eQ K k)∨∃K k b,Rd H a (.dT K)/\y= .ref b/\H b=δ (.tup$ k.map kV)/\r=eQ K k
def su(H:Hp)(a:ζ)(y v:V)(h:Hp):Prop:=
 (∃K k,H a=δ (.dK K)/\y=kV k/\ο K < τ/\h=af H a (.dK$ cn K k v))∨
 ∃K k b,H a=δ (.dT K)/\y= .ref b/\H b=δ (.tup$ k.map kV)/\ο K < τ/\h=af H a (.dT$ cn K k v)
def gX.k{H:Hp}{k:cf}(e:H a=δ (.dK b)):gX H a (kV k) (eQ b k):=.inl #[b,k,.inl e,Z,Z]
def su.k{H:Hp}{k:cf}(e:H a=δ (.dK b))(h:ο b < τ):su H a (kV k) v (af H a$ .dK$ cn b k v):=.inl #[b,k,e,Z,h,Z]
section
variable {X:Cx}{pins:xL (ζ×hG)}{σ:St}{H:Hp}{s:ι}{a:ζ}{y v:V}{u r:η}{o:ym V}{A:bS}{E:η->ι->Prop}
def ax.big(I:ax X pins σ H s):sysModules < -s:=by let h:Ψ < -s:=(I.mod.glob.keeps I.bk).lt;rwa[Nat.lt_trans NP h]
def sQ{Q:η->ι->Prop}(m:A.units+1 < cLine)(I:ax X pins σ H s)(g:gX H a y (δ v))(j:aK y u)(h:∀W S,ax X pins σ H S->aK v W->Q W S):
  π (υ X.prog X.w) A (getItem (.ref a) u) Q E s:=by
 rcases g with ⟨K,k,e,d,l⟩ | ⟨K,k,b,e,d,n,l⟩
 .subst d;let⟨z,q,t,R,D⟩:=Ku I.hok e;let⟨W,f,c⟩:=ff.some_of (v:=v) (o:=valueAt t k) (by rw[l];rwa[R.val k]);rwa[wpAny_getItem_of (QO j) D.mapOf f$ h W _ (I.tok _) c]
 .subst d;cases (show u=Θ b from j);let⟨z,q,x,R,D⟩:=QP I.hok e;let⟨W,f,c⟩:=ff.some_of (v:=v) (o:=(atKey x k).map (·.2)) (by rw[l];rwa[R.val k]);let⟨p,B,i⟩:=cv.mp f;erw[wpAny_getItem_heap (Tb m) (KE I.hok n) D B ?_];rw[i];rwa[h W _ (I.tok _) c]
def Mn{Q:η->ι->Prop}(i:A.units+1 < cLine)(I:ax X pins σ H s)(g:gX H a y o)(f:aK y u)(h:∀S,ax X pins σ H S->Q (.bool o.isSome) S):
  π (υ X.prog X.w) A (compareOp .In u$ .ref a) Q E s:=by
 rcases g with ⟨K,k,e,c,l⟩ | ⟨K,k,b,e,c,j,l⟩
 .subst c;let⟨z,d,m,R,D⟩:=Ku I.hok e;erw[wpAny_in_of (QO f) d D.mapOf ?_];rw[<- (R.val k).isSome_eq,<- l];rwa[h _$ I.tok _]
 .subst c;cases (show u=Θ b from f);let⟨z,d,x,R,D⟩:=QP I.hok e;erw[wpAny_in_heap (Tb i) (KE I.hok j) d D ?_];let q:=(R.val k).isSome_eq;rw[Vo]at q;rw[<- q,<- l];rwa[h _$ I.tok _]
def ZV(I:ax X pins σ H s)(m:Hj (H a))(c:fx a s.heap h)(d:∃q,h.get? a=δ q)(n:a6 X.prog X.w (af H a O) h a O):
  ax X pins σ (af H a O) { s with heap:=h,toks:=t }:=
 I.write (x:=a) (e:=a) m (.inl Z) (λb q f z=>(c.2 b f).trans z) d n
def YT{P:ψ}{h:de}{k:xL (cf×V)}(z:ο k<=τ)(c:(a==sysModules)=ν)(R:KV k b)(d:h.DictOf (bf P w) a b):
  a6 P w e h a (.dK k):=#[z,c,b,R,d]
def sR{Q:Unit->ι->Prop}(J:A.units+1 < cLine)(I:ax X pins σ H s)(g:su H a y v L)(x:aK y u)(B:aK v r)(h:∀S,ax X pins σ L S->Q () S):
  π (υ X.prog X.w) A (setItem (.ref a) u r) Q E s:=by
 rcases g with ⟨K,k,e,i,l,j⟩ | ⟨K,k,b,e,i,C,l,j⟩
 .subst i j;let⟨z,m,M,R,D⟩:=HR I.hok e;let n:ο M<=τ:=by rw[<- R.length];exact z
  let p:(cn K k v).length<=τ:=by let:=qG K k v;omega
  erw[wpAny_setItem_pairs (hsz:=n) (QO x) D λF d t=>h _ ?_];let N:∃q,F.get? a=δ q:=let #[q,_,_,f,_]:=d;#[q,f]
  rwa[ZV I (by rw[e];rwa[True.intro]) t N$ YT p m (R.put k B) d]
 .subst i j;cases (show u=Θ b from x);let⟨z,m,O,R,D⟩:=HU I.hok e;let n:ο O<=τ:=by rw[<- Paired.length R];exact z
  let p:(cn K k v).length<=τ:=by let:=qG K k v;omega
  erw[wpAny_setItem_heap (hsz:=n) (Tb J) (KE I.hok C) D λF d t=>h _ ?_];let⟨q,P,T,f,U,W,Y,_,h5⟩:=d;erw[ZV I (by rw[e];rwa[True.intro]) t #[q,f] #[p,m,_,(R.put k C B).keeps λc ys G=>?_,q,P,T,f,U,W,Y,h5]];rw[jh$ jM G e (λz=>nomatch z)];rwa[G]
end
def Hk(i:dr):Prop:=∀o I,subscripted i ν o I=operate [o,I] (getItem o I)
def Cr{id:String}
  (k:typeLookup (.type T) "__getitem__"=pure (δ$ .builtin id)) (l:Hk a)
  (h:π (υ p w) A (eval v e) (λo b=>π (υ p w) A (eval a e) (λi S=>S.TypeIs o T/\π (υ p w) A (getItem o i) Q E S) E b) E s):
  π (υ p w) A (eval (.Subscript v a m) e) Q E s:=by
 erw[Wi$ Px h (λo b d=>Px d (λi S H=>?_) λ_ _ x=>x) λ_ _ x=>x];let⟨j,H⟩:=H;unfold subscriptTail;erw[Om ?_];rw[getitemInPython_of_ne j.not_modules];erw[Om$ Rq j k ?_];let f:π (υ p w) A (subscripted a ν o i) (λr c=>π (υ p w) A (letTemporaryGo v o r >>= λ_=>pure r) Q E c) E S:=by rw[l o i];rwa[wpAny_operating$ Px H (λr c g=>Om (wpAny_letTemporaryGo$ Op g)) λ_ _ x=>x]
 first
  |exact Op (Om f)
  |exact Om (Op (Om f))
  |exact Om f
def YC{X:Cx}(I:ax X p c H s)(g:gX H a y o):s.TypeIs (.ref a) "dict":=by
 rcases g with ⟨K,k,e,_,_⟩ | ⟨K,k,b,e,_,_,_⟩
 .let⟨_,_,v,_,d⟩:=Ku I.hok e;rwa[d.typeIs]
 .let⟨_,_,x,_,d⟩:=QP I.hok e;rwa[d.typeIs]
inductive yD(Q:VK)(x y:V)(b:Hp):Prop
 |mk(a v:_)(_:x= .ref a)(_:gX b a y (δ v))(_:Q v b)
def Ln(t T:TE):TE:=λa H Q=>t a H λx h=>T a h (yD Q x)
inductive DB(Q:VK)(y x:V)(b:Hp):Prop
 |mk(a o:_)(_:x= .ref a)(_:gX b a y o)(_:Q (.bl o.isSome) b)
def MO(t T:TE):TE:=λa H Q=>t a H λy h=>T a h (DB Q y)
inductive xK(D:bp)(d:St)(v x y:V)(b:Hp):Prop
 |mk(a c:_)(_:x= .ref a)(_:su b a y v c)(_:D.nx d c)
def xJ(t T b:TE):TS:=λD a H=>b a H λv h=>t a h λx c=>T a c (xK D a v x)
section
variable {X:Cx}{o i e value:dr}{pos pos' tpos:Pos}{td ty tv:TE}
def BB(d:X.A.units+1 < cLine)(f:PE X o td)(j:PE X i ty)(k:Hk i):PE X (.Subscript o i pos) (Ln td ty):=by intro p s b H Q I h;erw[Cr PySem.F.slot_dict_getitem.lookup k$ a8 (f p s b H _ I h) λu S #[x,l,m,R,q]=>a8 (j p S b l _ m q) λC D z=>?_];let⟨y,n,c,t,a,v,E,g,w⟩:=z;subst E;obtain rfl:u=Θ a:=R;exact#[YC c g,sQ d c g t λW G B r=>#[v,n,B,r,w]]
def Fu(c:X.A.units+1 < cLine)(d:PE X i ty)(f:PE X o td):PC X .In i o (MO ty td):=by intro p s b H Q I h;erw[a8 (d p s b H _ I h) λv S #[y,j,k,r,q]=>a8 (f p S b j _ k q) λu w z=>?_];let⟨x,l,m,R,a,O,E,g,n⟩:=z;subst E;obtain rfl:u=Θ a:=R;rwa[Mn c m g r λB t=>#[.bl O.isSome,l,t,Z,n]]
def Ke(c:X.A.units+1 < cLine)(d:PE X o td)(f:PE X i ty)(j:PE X value tv)(k:swapsWith value (δ$ .Subscript o i pos') pos.line X.env=pure ν):
  PS X (.Assign [.Subscript o i pos'] value pos) (xJ td ty tv):=by
 intro p s b H D I h;erw[wpAny_Assign_Subscript (a8 (j p s b H _ I h) λr S #[v,l,m,R,q]=>a8 (d p S b l _ m q) λu n #[x,t,w,B,Q]=>a8 (f p n b t _ w Q) λL M z=>?_) k];let⟨y,N,C,E,a,F,G,g,J⟩:=z;subst G;obtain rfl:u=Θ a:=B;rwa[sR c C g E R λO K=>#[b,F,K,J]]
end
def vw{P:ψ}(h:de)(a:sysModules < h.objs.size):a6 P w H (h.push { cls:=.type "dict",data:=.dict (ε []) }) h.objs.size (.dK []):=
 #[OA _,beq_eq_false_iff_ne.mpr$ O3$ OH a,[],.nil,U8 h]
def Gs:TE:=λ_ H Q=>∀p,H p=θ->Q (.ref p) (af H p$ .dK [])
section
variable {X:Cx}{pos:Pos}
def X4:PE X (.Dict [] [] pos) Gs:=λp s b H Q I h=>
 wpAny_Dict_empty #[.ref (-s),_,I.laid (a:=-s) (o:=.dK []) (t':=s.toks) (λ_ _ q=>Oo _ q) (Ou _)$ vw s.heap I.big,Z,h _$ I.hok.fresh$ Ou _]
end
def dN(k m:xL (cf×V)):xL (cf×V):=m.foldl (λa K=>cn a K.1 K.2) k
def KV.merge:∀{m:xL (cf×V)} {R:xL (cf×η)} {k:xL (cf×V)} {v:xL (cf×η)},KV m R->KV k v->KV (dN k m) (merged v R):=by
 intro m R k v r;unfold KV at r;induction r generalizing k v with
 |nil=>intro q;rwa[q]
 | @cons p q P Q h t i=>
  intro a;let e:KV (cn k p.1 p.2) (stored v q.1 q.2):=by let:=a.put p.1 h.2;rw[<- h.1];rwa[this]
  rwa[i e]
theorem qS:∀(m k:xL (cf×V)),(dN k m).length<=ο k+ο m
 | [],k=>by show ο k<=ο k+0;omega
 |p::r,k=>by let h:=qS r (cn k p.1 p.2);let H:=qG k p.1 p.2;show(dN (cn k p.1 p.2) r).length<=_;rw[O1];omega
structure M2(X:Cx)(o:dr)(m:ρ)(apos:Pos)(e f:dr)(cpos:Pos):Prop where
 base:attributeBase o m X.env (eval o X.env)=eval o X.env
 few:((fy cpos$ Δ [e,f] X.env).all (λx=>!x.1)&&(backToKw cpos$ keywordEach [] X.env).all (λx=>x.1.isSome)
  &&decide (([e,f]:xL dr).length+([]:xL Keyword).length+(if ([]:xL Keyword).isEmpty then 0 else 1) < 30))=μ
 line:(apos.endLine==cpos.line)=μ
 trees:fy cpos (Δ [e,f] X.env)=[(ν,eval e X.env),(ν,eval f X.env)]
def M0(H:Hp)(a:ζ):Prop:=(∃k,Rd H a$ .dK k)∨∃k,Rd H a (.dT k)
def Ek{X:Cx}(I:ax X p g H s)(d:M0 H a):
  s.TypeIs (.ref a) "dict"/\(∀b,Θ a= .ref b->∃o,s.heap.get? b=δ o/\o.dict=θ)/\(a==sysModules)=ν:=by
 rcases d with ⟨k,e⟩ | ⟨k,e⟩
 .let⟨_,h,v,_,D⟩:=Ku I.hok e;erw[#[D.typeIs,λb q=>?_,h]];cases q;let⟨o,_,_,c,f,_⟩:=D;exact#[o,c,f.2.1]
 .let⟨_,h,x,_,D⟩:=QP I.hok e;erw[#[D.typeIs,λb q=>?_,h]];cases q;let⟨o,_,_,c,f,_⟩:=D;exact#[o,c,f.2.1]
section
variable {X:Cx}{pins:xL (ζ×hG)}{σ:St}{H:Hp}{s:ι}{a:ζ}{y d:V}{u r:η}{o:ym V}{A:bS}{E:η->ι->Prop}
def D5{Q:η->ι->Prop}(m:A.units+1 < cLine)(I:ax X pins σ H s)(g:gX H a y o)(i:aK y u)(j:aK d r)(h:∀W S,ax X pins σ H S->aK (o.getD d) W->Q W S):
  π (υ X.prog X.w) A (call (.builtin "dict.get") [.ref a,u,r]) Q E s:=by
 rcases g with ⟨K,k,e,c,l⟩ | ⟨K,k,b,e,c,n,l⟩
 .subst c;let⟨z,f,v,R,D⟩:=Ku I.hok e;erw[call_meetsIn Tj D.typeIs UK (UC _ _ _) (meets_dict_get_default (bf X.prog X.w) a (QO i) f r) #[_,D.mapOf,h _ _ (I.tok _) ?_]];rw[l];exact(R.val k).getD j
 .subst c;cases (show u=Θ b from i);let⟨z,f,x,R,D⟩:=QP I.hok e;erw[call_meetsIn Tj D.typeIs UK (UC _ _ _) (meetsH_dict_get_default (tupleKind$ bf X.prog X.w) a b f r) #[Tb m,k,x,KE I.hok n,D,h _ _ (I.tok _) ?_]];rw[l];exact(R.val k).getD j
end
inductive sg(d c:TE)(e:St)(Q:VK)(x:V)(b:Hp):Prop
 |mk(a:_)(_:x= .ref a)(_:M0 b a)(_:d e b λy H2=>c e H2 λz H3=>∃o,gX H3 a y o/\Q (o.getD z) H3)
def Gr(t T b:TE):TE:=λa H Q=>t a H (sg T b a Q)
section
variable {X:Cx}{o e f:dr}{apos cpos:Pos}{td ty tx:TE}
def KQ(j:X.A.units+1 < cLine)(k:PE X o td)(l:PE X e ty)(n:PE X f tx)(m:M2 X o "get" apos e f cpos):PE X (.Call (.Attribute o "get" apos) [e,f] [] cpos) (Gr td ty tx):=by
 intro p s b H Q I h;erw[wpAny_Call_method m.base m.few m.line PySem.F.plainAttrs_dict Tj PySem.F.type_dict_get$ a8 (k p s b H _ I h) λu S c=>?_];let⟨x,q,i,R,a,E,d,t⟩:=c;subst E;obtain rfl:u=Θ a:=R;let⟨T,v,_⟩:=Ek i d;erw[#[T,v,?_]];rw[m.trees];refine Tn Z (Vg (Rr (a8 (l p S b q _ i t) λO w #[y,B,C,D,G]=>
  Rr (a8 (n p w b B _ C G) λP U #[z,J,K,L,V,g,M]=>RQ ?_))))
 rwa[D5 j K g D L λW Y N r=>#[_,J,N,r,M]]
end
section
variable {X:Cx}{pins:xL (ζ×hG)}{σ:St}{H:Hp}{s:ι}{a:ζ}{kvs:xL (cf×V)}{A:bS}{E:η->ι->Prop}
def vq{Q:η->ι->Prop}(I:ax X pins σ H s)(e:Rd H a (.dK kvs))(h:∀p S,H p=θ->ax X pins σ (af H p$ .dK kvs) S->Q (.ref p) S):π (υ X.prog X.w) A (call (.type "dict") [.ref a]) Q E s:=by let⟨z,f,v,r,D⟩:=Ku I.hok e;erw[kt_call_dict f D (by rw[<- r.length];rwa[z]) λi d g=>?_];erw[h _ _ (I.hok.fresh$ Ou _)$ I.laid (a:=-s) (o:=.dK kvs) (t':=s.toks) (λb q c=>?_) (Ou _)$ YT z (beq_eq_false_iff_ne.mpr$ O3$ OH I.big) r d];exact(g.2 b$ OH$ Ox c).trans (Oo _ c)
end
section
variable {X:Cx}{pins:xL (ζ×hG)}{σ:St}{H:Hp}{s:ι}
inductive J2(c:xL V)(H:Hp)(Q:VK):Prop
 |mk(a b:_)(_:c=[.ref a])(_:H a=δ (.dK b))(_:∀p,H p=θ->Q (.ref p) (af H p (.dK b)))
def Q1:fo X (.type "dict") J2:=by intro pins s σ H x U Q I r h;let⟨a,k,rfl,b,q⟩:=h;let⟨u,rfl,R⟩:=gr r;cases R;rwa[vq I (.inl b) λp S n i=>#[.ref p,_,i,Z,q p n]]
end
section
open PySem.W PySem.Calls Builtin Builtin.ObjectAttr
variable {prog:ψ}{w:bF}{A:bS}{E:η->ι->Prop}{s:ι}{K:β}{x C:ζ}{ox:hG}{od:ym hG}{name:ρ}
structure uV(K:β)(C:ζ):Prop where
 ga:findIn K (.ref C) "__getattribute__"=δ (δ$ .builtin "BaseException.__getattribute__")
 gh:findIn K (.ref C) "__getattr__"=δ θ
 sa:findIn K (.ref C) "__setattr__"=δ (δ$ .builtin "object.__setattr__")
 cl:findIn K (.ref C) "__class__"=δ (δ$ .builtin "object.__class__")
 gt:specialIn K (.builtin "object.__class__") "__get__"=δ (δ$ .builtin "getset_descriptor.__get__")
 tk:takesIn K (.builtin "object.__class__")=δ μ
 mb:mroIn K C (.type "BaseException")=δ μ
 mo:mroIn K C (.type "object")=δ μ
 hd:hasDictIn K C=μ
abbrev sK:xL η:=[.type "ValueError",.type "Exception",.type "BaseException",.type "object"]
end
section
open PySem.W PySem.Calls
variable {prog:ψ}{w:bF}{A:bS}{E:η->ι->Prop}{R:Result->ι->Prop}{K:β}{h:de}{g:Array GenState}{d:Drawn}{t:Nat}{os:OsState}{C B:ζ}
def sT(q:excIn K C sK "ValueError.__new__"=μ):(∃p q N r f a s sub u c D k i j m o,K.lookup C=δ (excClassObj p q C N r f a s sub u c D k i j m o "ValueError.__new__")/\tailIn K sK f=μ/\nsOkIn K N=μ/\nsIn K N "__init__"=δ θ):=by
 unfold excIn at q;split at q
 .rename_i D z S F
  split at q
  .rename_i O f k i j m n o x y
   simp only[PU,beq_iff_eq,VI]at q;obtain⟨⟨⟨⟨⟨rfl,rfl⟩,H⟩,G⟩,b⟩,e⟩:=q;let⟨p,r,M,I,Q,J,s,sub,u,c,L⟩:=z;dsimp only at x H b e;subst x H;let v:S=(ε [k,i,j,m,δ$ .builtin "ValueError.__new__",o]):=by let⟨l⟩:=S;simp only at y;rw[y]
   subst v;exact#[p,Q,I,r,f,J,s,sub,u,c,D,k,i,j,m,o,F,G,b,e]
  .cases q
 .cases q
end
def a6.obj{P:ψ}{a:ζ}(x:a6 P w H h a o):∃u,h.get? a=δ u:=by
 cases o with
 |lst X=>let⟨_,_,_,_,e⟩:=x;exact#[_,e]
 |tup X=>let⟨_,_,_,o,e,_⟩:=x;exact#[_,e]
 |dK k |dT k=>let⟨_,_,_,_,o,_,_,e,_⟩:=x;exact#[_,e]
 |set S n=>let⟨o,_,_,_,e,_⟩:=x;exact#[_,e]
 |ins C d F=>let⟨_,_,_,e,_⟩:=x;exact#[_,e]
 |own y=>let⟨_,e⟩:=x;exact#[_,e]
 |xd F=>obtain⟨_,⟨_,_,_,e,_⟩,_⟩:=x;exact#[_,e]
 |rng lo b=>let⟨_,_,_,e⟩:=x;exact#[_,e]
 |frz O u=>let⟨e,_⟩:=x;exact#[_,e]
 |tbl p |met f y=>exact#[_,(show h.get? a=δ _ from x)]
 |ext c=>obtain⟨_,⟨_,e⟩,_⟩:=x;exact#[_,e]
def ax.laidN{X:Cx}{h':de}{a:ζ}{o:HO}{t':Nat}(I:ax X p g H s)(k:∀b u,s.heap.get? b=δ u->h'.get? b=δ u)(d:s.heap.get? a=θ)(N:a6 X.prog X.w (af H a o) h' a o):
  H a=θ/\ax X p g (af H a o) { s with heap:=h',toks:=t' }:=by
 let i:∀b u,s.heap.get? b=δ u->b≠a:=λb u q z=>by rw[z,d]at q;cases q
 let h:H a=θ:=by
  cases q:H a with
  |none=>rfl
  |some u=>let⟨U,e⟩:=(I.hok a u q).obj;rw[d]at e;cases e
 erw[#[h,I.un ?_ ?_]]
 .rwa[{ keep:=λb u q _ _ _=>k b u q,slot:=λb u q _ _ _=>#[u.slots,k b u q],free:=λb u q n _=>by rw[jh$ i b u q];rwa[n],there:=λb u q _=>#[u,k b u q],tups:=λb x q=>by rw[jh$ jk q h];rwa[q],frzs:=λb u x q=>by rw[jh$ jk q h];rwa[q],tbls:=λb P q=>#[(ε []),by rw[jh$ jk q h,q];simp] }]
 .intro b u e;by_cases f:b=a
  .subst f;rw[jc]at e;cases e;rwa[N]
  .rw[jh f]at e;exact(I.hok b u e).stay (λc v _ q=>k c v q) (λc q=>by rw[jh$ jk q h];rwa[q]) λc x q=>by rw[jh$ jk q h];rwa[q]
def CO(C:ζ)(d:ym ζ)(x:ζ):HO:=.ext λh=>∃o,h.get? x=δ o/\o.cls= .ref C/\notCls o=μ/\o.dict=d/\∃v,o.data= .fields v/\v[1]?=δ .none/\v[2]?=δ .none
def Eb{P:ψ}{h:de}(e:h.get? x=δ o)(a:o.cls= .ref C)(b:notCls o=μ)(c:o.dict=d)(f:∃v,o.data= .fields v/\v[1]?=δ .none/\v[2]?=δ .none):a6 P w H h x (CO C d x):=
 #[#[o,e,a,b,c,f],#[o,e],λg i #[O,E,q] k=>#[O,k O E,q]]
def Cy(C:ζ):TE:=λa H Q=>∀x,H x=θ->Q (.ref x) (af H x$ CO C θ x)
section
variable {X:Cx}{CX:sq}{k:Nat}{f C:ζ}{fd:cc}{ps:xL ρ}{sp:Sp}{E:XK}{x m g:ρ}{p pos pos':Pos}{e o value:dr}{es:xL dr}{ta tv:TE}{t:TA}
def Q2(M:excIn X.K C sK "ValueError.__new__"=μ)(l:gb X.K (.ref C)=μ)(n:Gl X x)(r:X.mg x=↑C)(c:↥((x==("__debug__":ρ))=ν)):
  PE X (.Call (.Name x p) [] [] pos) (Cy C):=by
 intro P s D H Q I h;erw[Py$ qe I n r ?_ c];erw[U4 I.kIn l ?_];let⟨G,q,N,J,L,j,S,sub,O,u,R,U,V,Y,k3,k5,v,w,b,i⟩:=sT M;let y:=I.kIn _ _ v;let⟨hp,g,d,T,os⟩:=s;erw[wpAny_call_exc_subT PySem.F.excBase_ValueError (PySem.W.tail_of_in I.kIn w) y (.of_isNs$ PySem.W.isNs_of_in I.kIn b) (PySem.W.nsMap_none_of_in I.kIn b i) (λh' e m=>?_)$ OA _];let⟨t,z,_,_⟩:=m.there;let⟨A,B⟩:=I.laidN (a:=e) (h':=h') (o:=CO C θ e) (t':=T) m.keeps m.new (Eb z Z Z Z #[_,Z,Z,Z]);exact#[.ref e,_,B,Z,h e A]
end
def ax.turnedN{X:Cx}{p:xL (ζ×hG)}{d:St}{H:Hp}{s:ι}{g:de}{t':Nat}{f:xL ζ}(I:ax X p d H s)(a:∀b∈f,gY X p H b)(k:∀b o,b∉f->s.heap.get? b=δ o->g.get? b=δ o):
  ax X p d H { s with heap:=g,toks:=t' }:=by
 let N:∀b u,H b=δ u->b∉f:=λb u e z=>by rw[(a b z).1]at e;cases e
 refine I.step (g':=s.gens) (d':=s.drawn) (ch:=f) (λb i=>?_) (λb o _ _ h e _=>k b o h e) (λb o _ _ h e _=>#[o.slots,k b o h e]) (λ_ _ _ _ n=>n)
  (λb o h e=>#[o,k b o h e]) (λ_ _ e=>e) (λ_ _ _ e=>e) (λb P e=>#[(ε []),by rw[e];simp]) (λm j=>?_) (λb u e=>?_) I.bare
 .let⟨A,F,B,l,t,w⟩:=a b i;exact#[l,F,t,w]
 .let⟨o,E,x,y,r⟩:=j;exact#[o,E,x,k _ o (λz=>(a _ z).2.1 Z) y,r]
 .erw[(I.hok b u e).stay (λc v h q=>k c v ?_ q) (λ_ q=>q) λ_ _ q=>q];rcases h with z |z
  .rw[z];rwa[N b u e]
  .rwa[N c _ z]
section
variable {M:Model}{A:bS}{E:η->ι->Prop}{s:ι}
structure dM(fl:η)(l7:xL ζ)(x:ζ)(ox:hG)(h h':de):Prop where
 ex:∃T oT ts,h.objs.size<=T/\h'.get? x=δ (ge (·.setIfInBounds 1 (.ref T)) ox)/\h'.get? T=δ oT/\oT.data= .fields ts/\ts[3]?=δ fl
 keep:∀b o,b∉l7->b≠x->h.get? b=δ o->h'.get? b=δ o
 slot:∀b o,b≠x->h.get? b=δ o->∃sl,h'.get? b=δ { o with slots:=sl }
def Q3{Q:Unit->ι->Prop}
  (t:A.frames=δ (d::O)) (F:s.heap.FunFrames G (d::O)) (N:d.frame=δ L)
  (I:s.heap.get? x=δ u) (v:u.data= .fields J) (w:1 < J.size)
  (h:∀K,dM (rawInt L) ((d::O).filterMap (·.frame)) x u s.heap K->Q () ‹K›):
  π M A (do let a <- frameOf d;let p <- entryPlaceOf L q;let b <- EntryCells.newEntry f a .none (rawInt L) .none p;setField (.ref x) 1 b) Q E s:=by
 let y:x∉(d::O).filterMap (·.frame):=λP=>by let⟨_,o,r,z⟩:=F.mem P;rw[I]at r;injection r with r;subst r;rwa[z J v]
 erw[Om$ wpAny_frameOf_fun t F N λH c=>?_];erw[Om$ wpAny_entryPlaceOf λp B=>?_];unfold EntryCells.newEntry newFields;erw[Om$ Pd ?_$ B.sizeOk5 _ _ _ _ _];let g:H.get? x=δ u:=(c.2.1 x y).trans I;let i:=Oo (h:=H) { cls:=.type "traceback",dict:=θ,data:=.fields ([f,.ref L,.none,rawInt L,.none]++(if p.isEmpty then lq 6 Ω else p)).toArray } g;erw[Pp i v w$ h _ ?_];let C:H.objs.size≠x:=Pq (Ox g);let j:=O6 v (·.setIfInBounds 1 (Θ H.objs.size));let l:=O9 (ge (·.setIfInBounds 1 (Θ H.objs.size))) i (PM j);let k:∀b o,b≠x->H.get? b=δ o->((H.push { cls:=.type "traceback",dict:=θ,data:=.fields ([f,.ref L,.none,rawInt L,.none]++(if p.isEmpty then lq 6 Ω else p)).toArray }).update x$ ge (·.setIfInBounds 1 (Θ H.objs.size))).get? b=δ o:=λb o D e=>by rw[OP _ _$ O3 D];rwa[Oo _ e]
 let m:=(OP (H.push { cls:=.type "traceback",dict:=θ,data:=.fields ([f,.ref L,.none,rawInt L,.none]++(if p.isEmpty then lq 6 Ω else p)).toArray })
  (ge (·.setIfInBounds 1 (Θ H.objs.size))) (O3 C)).trans (Oy H Z)
 erw[#[#[H.objs.size,_,_,Tz c.1.symm,l,m,Z,NN],λb o D n e=>k b o n ((c.2.1 b D).trans e),λb o n e=>?_]];let⟨S,R⟩:=c.2.2 b o e;exact#[S,k b _ n R]
def Zd{Q:Unit->ι->Prop}
  (H:A.frames=δ (e::o)) (i:s.heap.FunFrames b (e::o)) (a:e.frame=δ L)
  (c:s.heap.get? x=δ O) (d:O.data= .fields v) (f:v[1]?=δ .none)
  (h:∀g,dM (rawInt L) ((e::o).filterMap (·.frame)) x O s.heap g->Q () ‹g›):
  π M A (noteFrame (.ref x) e) Q E s:=by
 unfold noteFrame;simp only[a];erw[Om$ O0 c d f ?_];rw[OD NP];rwa[Q3 H i a c d (ab.mp f).1 h]
def Ep{l7:xL ζ}{Q:Unit->ι->Prop}(N:dM C l7 x O H s.heap)(j:H.get? x=δ O)(v:O.data= .fields w)(k:1 < w.size)
  (h:∀p,dM .none l7 x O H p->Q () ‹p›):π M A (setFlight (.ref x) θ) Q E s:=by
 let⟨T,D,F,c,r,t,g,y⟩:=N.ex;let l:=O6 v (·.setIfInBounds 1 (Θ T));let m:T≠x:=λz=>absurd (OM (Ox j) (by rw[<- z];rwa[c])) (Pr _);unfold setFlight;erw[Om$ O0 r l (x:=.ref T) (by simp [k]) ?_];rw[OB (show(Θ T != Ω)=μ from by simp)];let i:=(ab.mp y).1;erw[Pp t g i$ h _ ?_];let a:=O6 g (·.setIfInBounds 3 ((θ:ym ζ).elim Ω λf=>rawInt f));let n:=O9 (ge (·.setIfInBounds 3 ((θ:ym ζ).elim Ω λf=>rawInt f))) t (PM a);let u:∀b o,H.get? b=δ o->T≠b:=λb o e z=>absurd (OM (Ox e) (by rw[<- z];rwa[c])) (Pr _);erw[#[#[T,_,_,c,by rw[OP _ _ m];rwa[r],n,a,by simp [i]],λb o B d e=>?_,λb o d e=>?_]]
 .rw[OP _ _$ u b o e];rwa[N.keep b o B d e]
 .let⟨S,q⟩:=N.slot b o d e;exact#[S,by rw[OP _ _$ u b o e];rwa[q]]
def YD{base:de}{Q:Unit->ι->Prop}
  (a:A.frames=δ (e::o)) (f:s.heap.FunFrames base (e::o)) (g:e.frame=δ L)
  (b:s.heap.get? x=δ O) (c:O.data= .fields v) (d:v[1]?=δ .none)
  (h:∀H,dM .none ((e::o).filterMap (·.frame)) x O s.heap H->Q () ‹H›):
  π M A (leaving e$ .ref x) Q E s:=by
 unfold leaving;rwa[Om$ Zd a f g b c d λH N=>Ep (s:=‹H›) N b c (ab.mp d).1 h]
end
section
variable {M:Model}{A:bS}{E:η->ι->Prop}{s:ι}
abbrev fu(T:ζ)(h:de):de:=h.update T (ge (·.setIfInBounds 3 Ω))
def Q4{base:de}{Q:Unit->ι->Prop}
  (f:A.frames=δ (e::O)) (w:s.heap.FunFrames base (e::O)) (j:e.frame=δ L)
  (k:s.heap.get? x=δ l) (m:l.data= .fields v) (p:v[1]?=↑T) (g:T≠x) (i:s.heap.get? T=δ y) (c:y.data= .fields t) (r:t[3]?=δ .none)
  (h:∀u,dM (rawInt L) ((e::O).filterMap (·.frame)) x l (fu T s.heap) u->Q () ‹u›):
  π M A (noteFrame (.ref x) e) Q E s:=by
 unfold noteFrame;simp only[j];erw[Om$ O0 k m p ?_];rw[OB (show(Θ T != Ω)=μ from by simp)];erw[Om$ O0 i c r ?_];rw[OD (show ¬((Ω==rawInt L)=μ) from by simp [rawInt])];erw[Om$ Pp i c (ab.mp r).1 ?_];let a:∀b,b≠T->(fu T s.heap).get? b=s.heap.get? b:=λb H=>OP _ _ (O3 H);let n:∀b o,s.heap.get? b=δ o->(∀v,o.data≠ .fields v)->b≠T:=λb o H d q=>by rw[q,i]at H;injection H with H;subst H;rwa[d t c]
 rwa[Q3 (s:=‹fu T s.heap›) f (w.of_keeps λb o H d=>#[o,(a b$ n b o H d).trans H,Z]) j ((a x$ O3 g).trans k) m (ab.mp p).1 h]
def Ze{base:de}{Q:Unit->ι->Prop}
  (b:A.frames=δ (e::o)) (i:s.heap.FunFrames base (e::o)) (j:e.frame=δ L)
  (d:s.heap.get? x=δ O) (f:O.data= .fields v) (g:v[1]?=↑T) (H:T≠x) (k:s.heap.get? T=δ l) (c:l.data= .fields t) (m:t[3]?=δ .none)
  (h:∀a,dM .none ((e::o).filterMap (·.frame)) x O (fu T s.heap) a->Q () ‹a›):
  π M A (leaving e$ .ref x) Q E s:=by
 unfold leaving;rwa[Om$ Q4 b i j d f g H k c m λa N=>Ep (s:=‹a›) N ((OP _ _ H).trans d) f (ab.mp g).1 h]
end
def iS(C:ζ)(d:ym ζ)(T x:ζ):HO:=.ext λh=>∃o v,h.get? x=δ o/\o.cls= .ref C/\notCls o=μ/\o.dict=d/\o.data= .fields v/\v[1]?=↑T/\v[2]?=δ .none
def iz(T:ζ):HO:=.ext λh=>∃o t,h.get? T=δ o/\o.data= .fields t/\t[3]?=δ .none
def Gz{P:ψ}{h:de}(e:h.get? x=δ o)(c:o.cls= .ref C)(f:notCls o=μ)(g:o.dict=d)(i:o.data= .fields v)(b:v[1]?=↑T)(a:v[2]?=δ .none):a6 P w H h x (iS C d T x):=
 #[#[o,v,e,c,f,g,i,b,a],#[o,e],λb j #[O,V,E,q] k=>#[O,V,k O E,q]]
def yN{P:ψ}{h:de}(e:h.get? T=δ o)(b:o.data= .fields a)(c:a[3]?=δ .none):a6 P w H h T (iz T):=
 #[#[o,a,e,b,c],#[o,e],λd f #[O,t,E,q] k=>#[O,t,k O E,q]]
def dF(P:ψ)(w:bF):sq:=λo H s E e S=>∃x C d T h,e= .ref x/\S.os=s.os/\AllBare S.gens/\Un (l7 o) [] H h s.heap S.heap/\gD P w h S.heap/\
 h x=δ (iS C d T x)/\h T=δ (iz T)/\T≠x/\E (.ref C) d h
section
variable {X:Cx}{pins:xL (ζ×hG)}{σ:St}{H:Hp}{s:ι}{x C:ζ}{d:ym ζ}
def dM.hok{fl:η}(I:ax X pins σ H s)(g:H x=δ (.ext Q))(P:s.heap.get? x=δ o)(E:o.cls= .ref C)(F:o.dict=d)(j:o.data= .fields B)(k:1 < B.size)(l:B[2]?=δ .none)(m:∀b∈G,H b=θ)
  (N:dM .none G x o s.heap J):∃T,H T=θ/\T≠x/\-s<=T/\gD X.prog X.w (af (af H T$ iz T) x$ iS C d T x) J:=by
 let⟨T,R,S,h,n,K,p,r⟩:=N.ex;let i:H T=θ:=I.hok.fresh h;let t:T≠x:=O3 (jk g i);let a:=O6 j (·.setIfInBounds 1 (Θ T));erw[#[T,i,t,h,λb u e=>?_]];by_cases y:b=x
 .subst y;rw[jc]at e;cases e;refine Gz n ((Sr _ _).trans E) ?_ ?_ a (by simp [k]) (by simp [l])
  .unfold notCls;rw[a]
  .let⟨U,V,O,L⟩:=o;simp only at j;subst j;rwa[F]
 .rw[jh y]at e;by_cases f:b=T
  .subst f;rw[jc]at e;cases e;rwa[yN K p r]
  .rw[jh f]at e;refine(I.hok b u e).stay (λc v D q=>?_) (λc q=>?_) λc W q=>?_
   .let A:c≠x:=by
     rcases D with z |z
     .rw[z];rwa[y]
     .rwa[jM z g (by intro q;cases q)]
    erw[N.keep c v (λM=>?_) A q];let:=m c M;rcases D with z |z
    .rw[z,e]at this;cases this
    .rw[z]at this;cases this
   .rw[jh$ jM q g BT,jh$ jk q i];rwa[q]
   .rw[jh$ jM q g BT,jh$ jk q i];rwa[q]
def dM.un{h':de}(I:ax X pins σ H s)(hex:X.ex=[])(j:H x=δ (.ext k))(l:H T=θ)(c:-s<=T)(f:∀b∈p,b∈X.fs∨X.s₀.heap.objs.size<=b)
  (N:dM .none p x y s.heap h'):Un X.fs [] X.H₀ (af (af H T$ iz T) x$ iS C d T x) X.s₀.heap h':=by
 let g:∀b,H b=θ->b≠x:=λb e z=>by rw[z,j]at e;cases e
 let r:∀b o,X.s₀.heap.get? b=δ o->b≠T:=λb o e=>OH (OM (Ox e)$ OK I.sz c);let a:∀b:ζ,b∉X.ex:=λb z=>by rw[hex]at z;cases z
 let t:∀b,H b=θ->b≠T->af (af H T$ iz T) x (iS C d T x) b=θ:=λb e z=>by rw[jh$ g b e,jh z];rwa[e]
 let U:∀b u,H b=δ u->(∀k,u≠ .ext k)->af (af H T$ iz T) x (iS C d T x) b=δ u:=λb u e z=>by rw[jh (λq=>by rw[q,j]at e;cases e;rwa[z _ Z]),jh$ jk e l];rwa[e]
 erw[#[λb o e n h _=>?_,λb o e n h _=>?_,λb o e n _=>?_,λb o e _=>?_,λb v e=>U b _ (I.base.tups b v e) (by intro _ q;cases q),λb o u e=>U b _ (I.base.frzs b o u e) (by intro _ q;cases q),λb P e=>?_]]
 .erw[N.keep b o (λz=>?_) (g b$ I.base.free b o e n$ a b)$ I.base.keep b o e n h$ a b];rcases f b z with q |q
  .rwa[h q]
  .rwa[absurd (OM (Ox e) q)$ Pr _]
 .let⟨w,q⟩:=I.base.slot b o e n h (a b);let⟨S,Q⟩:=N.slot b _ (g b$ I.base.free b o e n$ a b) q;exact#[S,Q]
 .rwa[t b (I.base.free b o e n$ a b)$ r b o e]
 .let⟨O,q⟩:=I.base.there b o e (a b);by_cases h:b=x
  .let⟨A,_,_,_,i,_⟩:=N.ex;exact#[_,by rw[h];rwa[i]]
  .let⟨w,Q⟩:=N.slot b O h q;exact#[_,Q]
 .let⟨m,q⟩:=I.base.tbls b P e;exact#[m,U b _ q (by intro _ q;cases q)]
end
section
variable {P:ψ}{w:bF}{K:β}{mg:ρ->ym η}{base:de}{N:xL ρ}{qual:ρ}{scope:ic}{f:ζ}{cd:η}{A:bS}{outer:xL Env}{s₀:ι}{H₀:Hp}{E:XK}
variable {pins:xL (ζ×hG)}{σ:St}{H:Hp}{s:ι}{x C:ζ}{d:ym ζ}
def yZ(I:ax (gK (dF P w) P w K mg base N qual scope f cd A outer s₀ H₀ E) pins σ H s)(c:H x=δ (CO C d x))
  (h:∀T,H T=θ->E (.ref C) d (af (af H T$ iz T) x$ iS C d T x)):(gK (dF P w) P w K mg base N qual scope f cd A outer s₀ H₀ E).xe (.ref x) s:=by
 obtain⟨⟨O,m,r,v,t,V,n,o,g⟩,_⟩:=I.hok x _ c;let i:=(ab.mp o).1;erw[YD (base:=base) I.ok.frames I.stack Z m n o λy p=>?_];let⟨T,q,a,j,k⟩:=p.hok (C:=C) (d:=d) (fl:=.none) I c m r t n i g λb l=>I.stkFree b l;let u:=p.un (C:=C) (d:=d) I Z c q j λb l=>by
  rcases Ξ.mp (I.stkSub b l) with e |e
  .rwa[.inr (by rw[e];rwa[I.ok.above])]
  .rwa[.inl e]
 exact#[x,C,d,T,_,Z,I.os,I.bare,u,k,jc,by rw[jh a,jc],a,h T q]
def ax.cleared{X:Cx}(I:ax X pins σ H s)(c:H T=δ (iz T))(i:s.heap.get? T=δ O)(j:O.data= .fields t)(k:t[3]?=δ .none):ax X pins σ H ‹fu T s.heap›:=by
 let h:=O6 j (·.setIfInBounds 3 Ω);let g:=O9 (ge (·.setIfInBounds 3 Ω)) i (PM h);let:=I.write (x:=T) (e:=T) (o:=iz T) (h':=fu T s.heap) (t':=s.toks) (by rw[c];rwa[True.intro]) (.inl Z) (λb u a q=>(OP _ _$ O3 a).trans q) #[_,g] (yN g h (by simp [(ab.mp k).1]));let l:af H T (iz T)=H:=by
  funext b;by_cases a:b=T
  .rw[a,jc,c]
  .rw[jh a]
 rw[l]at this;rwa[this]
def CF(I:ax (gK (dF P w) P w K mg base N qual scope f cd A outer s₀ H₀ E) pins σ H s)(g:H x=δ (iS C d T x))(o:H T=δ (iz T))(c:T≠x)
  (h:∀t,H t=θ->E (.ref C) d (af (af H t$ iz t) x$ iS C d t x)):(gK (dF P w) P w K mg base N qual scope f cd A outer s₀ H₀ E).xe (.ref x) s:=by
 obtain⟨⟨O,V,p,F,J,G,q,r,i⟩,_⟩:=I.hok x _ g;obtain⟨⟨L,M,u,v,y⟩,_⟩:=I.hok T _ o;let j:=(ab.mp r).1;let z:=I.cleared o u v y;erw[Ze (base:=base) I.ok.frames I.stack Z p q r c u v y λQ B=>?_];let k:(fu T s.heap).get? x=δ O:=(OP _ _ c).trans p;let⟨t,D,a,l,m⟩:=dM.hok (C:=C) (d:=d) (fl:=.none) z g k F G q j i (λb n=>I.stkFree b n) B;let U:=dM.un (C:=C) (d:=d) z Z g D l (λb n=>by
  rcases Ξ.mp (I.stkSub b n) with e |e
  .rwa[.inr (by rw[e];rwa[I.ok.above])]
  .rwa[.inl e]) B
 exact#[x,C,d,t,_,Z,I.os,I.bare,U,m,jc,by rw[jh a,jc],a,h t D]
def BA{j:XK}(m:∀x C d T t a,a x=δ (iS C d T x)->a T=δ (iz T)->a t=θ->j (.ref C) d a->E (.ref C) d (af (af a t$ iz t) x$ iS C d t x)):
  eh (dF P w) (gK (dF P w) P w K mg base N qual scope f cd A outer s₀ H₀ E) j:=by
 intro pins σ H s e S I h;let⟨x,C,d,T,a,rfl,os,B,u,c,k,l,i,n⟩:=h;let⟨p,g,D,q,o⟩:=S;obtain rfl:o=s.os:=os;let r:=I.call (h':=p) (g':=g) (d':=D) (t':=q) (ch:=[]) u c B (λb z=>absurd z NN);rwa[CF r k l i λt v=>m x C d T t a k l v n]
end
section
open PySem.W
variable {prog:ψ}{w:bF}{A:bS}{E:η->ι->Prop}{K:β}{x C:ζ}{ox:hG}{vs:Array η}{env:Env}
def Zf{ev:Sem η}(e:A.handled=θ)
  (h:π (υ prog w) A ev (λv S=>∃x C ox vs,v= .ref x/\K.In S.heap/\uV K C/\typeIn K (.ref C)=δ (.type "type")/\S.heap.get? x=δ ox/\ox.cls= .ref C/\ox.data= .fields vs/\vs[1]?=δ .none/\E (.ref x) S) E s):
  π (υ prog w) A (raiseStmt env (δ ev) θ) Q E s:=by
 unfold raiseStmt;erw[Om$ Px h (λv S a=>?_) λ_ _ z=>z];let⟨x,C,ox,vs,rfl,X,f,i,b,j,c,m,n⟩:=a;let⟨H,g,d,T,os⟩:=S;let L:Looks (υ prog w) H (typeOf$ .ref x) (.ref C):=j▸(Looks.ld b).andThen .now;let l:Looks (υ prog w) H (isType$ .ref x) ν:=by intro u y B D k q;unfold isType loadHead;erw[Om$ U' (k _ _ b) ?_];rw[c];rwa[Op q]
 let _L:=VV (M:=υ prog w) X f.mb;let o:=looks_typeIn (M:=υ prog w) X i;let L4:Looks (υ prog w) H (isInstance (.ref x)$ .type "BaseException") μ:=L.andThen _L;let p:Looks (υ prog w) H (isExcClass$ .ref x) ν:=by unfold isExcClass;rwa[l.andThen .now]
 let r:Looks (υ prog w) H (raisedInstance$ .ref x) (.ref x):=by unfold raisedInstance;rwa[L.andThen$ o.andThen (by rw[OB NP];rwa[.now])]
 let t:Looks (υ prog w) H (excFromValue (.ref x) "exceptions must derive from BaseException") (.ref x):=by unfold excFromValue;rwa[p.andThen (by rw[OD NP];rwa[L4.andThen (by rw[OB Z];rwa[.now])])]
 erw[Om$ Op ?_];erw[Om$ OV$ t.at ?_];dsimp only;erw[Om$ l.at ?_];rw[OD NP];erw[Om$ r.at ?_];unfold setFlight;erw[Om$ Om$ O0 b c m ?_];rw[OD NP];rwa[Op$ wpAny_raiseNew_none e n]
end
def CP(X:Cx)(W:ζ->ζ->ym ζ->Hp->Prop):Prop:=∀(p:xL (ζ×hG)) (a:St) (H:Hp) (s:ι) (x C:ζ) (d:ym ζ),ax X p a H s->H x=δ (CO C d x)->W x C d H->X.xe (.ref x) s
def Q5{P:ψ}{K:β}:
  CP (gK (dF P w) P w K m b N q s f g A o a c E) (λx C d H=>∀T,H T=θ->E (.ref C) d (af (af H T$ iz T) x$ iS C d T x)):=
 λ_ _ _ _ _ _ _ I e h=>yZ I e h
inductive rH(K:β)(b:ζ->ζ->ym ζ->Hp->Prop)(v:V)(a:Hp):Prop
 |mk(x C d:_)(_:v= .ref x)(_:a x=δ (CO C d x))(_:uV K C)(_:typeIn K (.ref C)=δ (.type "type"))(_:b x C d a)
def FX(K:β)(t:TE)(W:ζ->ζ->ym ζ->Hp->Prop):TS:=λ_u0 a H=>t a H (rH K W)
def X5{X:Cx}{e:dr}{t:TE}{P:Pos}{W:ζ->ζ->ym ζ->Hp->Prop}(f:X.calm=μ)(F:CP X W)(g:PE X e t):PS X (.Raise (δ e) θ P) (FX X.K t W):=by intro p s b H D I h;rw[arm_exec_Raise];erw[Om$ RU ?_];erw[Zf (K:=X.K) (ev:=do let v <- eval e X.env;standAt P;pure v) (I.ok.hd f)$ Om$ a8 (g p s b H _ I h) λu S a=>Om (RU$ Op ?_)];let⟨v,j,i,r,x,C,d,ev,c,k,l,q⟩:=a;subst ev;obtain rfl:u=Θ x:=r;obtain⟨⟨o,m,n,A,B,V,w,y,z⟩,_⟩:=i.hok x _ c;exact#[x,C,o,V,Z,i.kIn,k,l,m,n,w,y,F p b j S x C d i c q]
section
variable {X:Cx}{pins:xL (ζ×hG)}{σ:St}{H:Hp}{s:ι}{x C:ζ}{d:ym ζ}
def ax.noted{t':Nat}(I:ax X pins σ H s)(a:H x=δ (.ext m))(r:s.heap.get? x=δ O)(t:O.cls= .ref C)(w:O.dict=d)(y:O.data= .fields v)(c:1 < v.size)(f:v[2]?=δ .none)
  (N:dM .none (l7 X.stack) x O s.heap A):∃T,H T=θ/\T≠x/\ax X pins σ (af (af H T$ iz T) x$ iS C d T x) { s with heap:=A,toks:=t' }:=by
 let⟨T,p,g,i,j⟩:=dM.hok (C:=C) (d:=d) (fl:=.none) I a r t w y c f (λb h=>I.stkFree b h) N;let k:∀b,H b=θ->b≠x:=λb e z=>by rw[z,a]at e;cases e
 let U:∀b u,H b=δ u->(∀m,u≠ .ext m)->af (af H T$ iz T) x (iS C d T x) b=δ u:=λb u e z=>by rw[jh (λq=>by rw[q,a]at e;cases e;rwa[z _ Z]),jh$ jk e p];rwa[e]
 erw[#[T,p,g,I.call (g':=s.gens) (d':=s.drawn) (ch:=[]) ?_ j I.bare (λb z=>absurd z NN)]];erw[#[λb o e n h _=>N.keep b o h (k b n) e,λb o e n _ _=>N.slot b o (k b n) e,λb o e n _=>?_,λb o e _=>?_,λb B e=>U b _ e (by intro _ q;cases q),λb o u e=>U b _ e (by intro _ q;cases q),λb P e=>#[(ε []),by rw[U b _ e (by intro _ q;cases q)];simp]]]
 .rw[jh$ k b n,jh$ OH$ OM (Ox e) i];rwa[n]
 .by_cases h:b=x
  .let⟨D,_,_,_,l,_⟩:=N.ex;exact#[_,by rw[h];rwa[l]]
  .let⟨S,q⟩:=N.slot b o h e;exact#[_,q]
end
abbrev Cx.mark(X:Cx)(e:η)(xe:η->ι->Prop):Cx:={ X with A:=X.A.mark (δ e),calm:=ν,xe:=xe }
def ax.mark{X:Cx}(I:ax X p a H s)(e:η)(x:η->ι->Prop):ax (X.mark e x) p a H s:=
 #[#[I.ok.mod,I.ok.kind,I.ok.glob,I.ok.blt,I.ok.above,I.ok.inj,I.ok.has,I.ok.cab,(λz=>nomatch (show ν=μ from z)),I.ok.frames,I.ok.stk,I.ok.exf,I.ok.bs,I.ok.bsz,I.ok.noex,I.ok.exfs,I.ok.funs,I.ok.frf],I.os,I.bare,I.base,I.loc,I.cell,I.free,I.freeC,I.pin,I.hok,I.len]
def ax.unmark{X:Cx}(o:X.Ok)(I:ax (X.mark e x) p a H s):ax X p a H s:=
 #[o,I.os,I.bare,I.base,I.loc,I.cell,I.free,I.freeC,I.pin,I.hok,I.len]
section
open PySem.W
def Qz{K:β}(X:K.In h)(a:h.get? x=δ o)(b:o.cls= .ref C)(H:clsIn K B≠θ)(tB:typeIn K (.ref B)=δ (.type "type"))(m:mroIn K B (.type "BaseException")=δ μ)(c:mroIn K C (.ref B)=δ μ):
  Looks M h (excMatches (.ref x)$ .ref B) μ:=by
 let L:Looks M h (typeOf$ .ref x) (.ref C):=b▸(Looks.ld a).andThen .now;let l:=looks_typeIn (M:=M) X tB;let _L:Looks M h (isInstance (.ref B)$ .type "tuple") ν:=l.andThen (V7 tc_notTuple);let d:Looks M h (isType$ .ref B) μ:=by
  unfold clsIn at H;split at H
  .rename_i e
   intro A Q E s k q;unfold isType loadHead;rwa[Om$ U' (k _ _$ X _ _ e)$ Op q]
  .rwa[absurd Z H]
 let L4:Looks M h (isExcClass$ .ref B) μ:=by unfold isExcClass;rwa[d.andThen (by rw[OB Z];rwa[VV X m])]
 let f:=VV (M:=M) X c;intro A Q E s k q;unfold excMatches;erw[Om$ _L A _ E s k ?_];rw[OD NP];erw[Om$ Op ?_];dsimp only;erw[Om ?_];rw[RN];erw[Om$ Om$ L4 A _ E s k ?_];simp only[SE,OJ,PX];erw[Op ?_];dsimp only;rw[SR];erw[Op ?_];erw[Om$ L A _ E s k ?_];erw[Om ?_];rw[RN];erw[Om$ Om$ f A _ E s k ?_];simp only[SN];erw[Op$ Op ?_];rwa[Op q]
end
abbrev XR:=ζ->ζ->ym ζ->ζ->Hp->Prop
def XW(X:Cx)(p:xL (ζ×hG))(a:St)(R:XR)(e:η)(s:ι):Prop:=
 ∃x C d T H,e= .ref x/\ax X p a H s/\H x=δ (iS C d T x)/\H T=δ (iz T)/\T≠x/\R x C d T H
abbrev Md:=St->Hp->VK->XR->Prop
abbrev Mf:=bp->XR->St->Hp->Prop
def M3(X:Cx)(e:dr)(t:Md):Prop:=
 ∀(p:xL (ζ×hG)) (s:ι) (a:St) (H:Hp) (Q:VK) (R:XR),ax X p a H s->t a H Q R->π (υ X.prog X.w) X.A (eval e X.env) (EP X p a Q) (XW X p a R) s
def M6(X:Cx)(st:bU)(t:Mf):Prop:=
 ∀(p:xL (ζ×hG)) (s:ι) (a:St) (H:Hp) (D:bp) (R:XR),ax X p a H s->t D R a H->π (υ X.prog X.w) X.A (exec st X.env) (SP X p D) (XW X p a R) s
def Nl(R:XR):XK:=λc d H=>∀x C T,c= .ref C->H x=δ (iS C d T x)->H T=δ (iz T)->T≠x->R x C d T H
def Gp(s:Sp)(d:xL V)(t:TA):Md:=λa H Q R=>t a H λv h=>s (v++d) h Q (Nl R)
section
variable {X:Cx}{k:Nat}{f:ζ}{fd:cc}{ps:xL ρ}{sp:Sp}{dvs:xL V}{ds:xL η}{x:ρ}{p pos:Pos}{e:dr}{es:xL dr}{t:TA}{te:Md}
def X6(F:ai X.prog X.w X.K X.mg X.base (dF X.prog X.w) k f fd ps sp)(y:bY k X.A)(D:Gl X x)(E:X.mg x=↑f)(G:gb X.K (.ref f)=μ)(J:aE X.K fd ps ds)(L:aG dvs ds)
  (M:PA X.nox (e::es) t) (g:↥((x==("__debug__":ρ))=ν)) (N:↥(Δ (e::es) X.env=(ν,eval e X.env)::Δ es X.env)) (j:↥((fy pos$ Δ es X.env).any (·.1)=ν)):
  M3 X (.Call (.Name x p) (e::es) [] pos) (Gp sp dvs t):=by
 intro P s O H Q R I h;erw[Py$ qe I D E ?_ g];erw[Uo (h₀:=X.base) I.ok.mod.kin G (Px (M pos P s O H _ (I.wish _) h) (λU S #[v,W,i,r,q]=>#[i.kIn,?_]) λ_ _ z=>z.elim) N j];let i:=i.unwish;let m:aG (v++dvs) (U++ds):=r.append L;let Y:(U++ds).length=ο ps:=by rw[<- m.length];rwa[F.len _ _ _ _ q]
 erw[Vb$ Sb (F.run X.A X.stack S W #[U,[]] (U++ds) (v++dvs) Q (Nl R) y i.env0 (J S U i.kIn Y) m q) λr s' a=>?_];cases r with
 |error e=>let⟨x,C,d,T,H',rfl,os,B,un,l,n,o,c,hw⟩:=a;exact#[x,C,d,T,H',Z,i.call' os un l B (λb z=>absurd z NN),n,o,c,hw x C T Z n o c]
 |ok fl=>
  cases fl with
  |ret u=>rwa[i.after a]
  |next |brk |cont=>rwa[False.elim a]
def ZW{i:Nat}{y:ρ}{P:Pos}(d:X.N.Nodup)(g:X.N[i]?=δ y)(j:uT X.env.scope y)(l:M3 X e te)(m:↥(swapsWith e (δ$ .Name y P) pos.line X.env=pure ν))(n:autoParam (X.fn y=μ∨X.env.scope.names.lookup y=δ .local) Wx._auto_1):
  M6 X (.Assign [.Name y P] e pos) (λD R b H=>te b H (λv c=>D.nx (b.set i$ δ v) c) R):=by
 intro a s b H D R I h;erw[Wn (a8 (l a s b H _ R I h) λv S z=>?_) m];let⟨y,c,o,r,q⟩:=z;rwa[zH o d g j r (λw u=>#[_,c,u,q]) n]
end
def aU.ok1{P:ψ}{K:β}{st:bU}{a:Sp}(F:aU K x q st f g)(S:am N p (ae st))
  (h:∀(c:η) (A:bS) (o:xL Env) (s:ι) (H:Hp) (v:xL V) (Q:VK) (E:XK),bY k (A.deeper$ envOfC q (ae st) (-s) f c)->a v H Q E->
   let X:=gK (dF P w) P w K m b N q (ae st) f c A o s H E;∃t,nG X (bL st) t/\t { nx:=λ_ i=>Q .non i,rt:=Q } (iw N v) H)(len:∀v H Q E,a v H Q E->ο v=ο p:=by rintro _ _ _ _⟨⟩;subst_vars;rfl):ai P w K m b (dF P w) (k+1) f g p a:=by
 let⟨l,n,kV,D,r,u,c,C,O,rfl,lk,d⟩:=F.ex;rwa[C7 lk d S len λA o s H v Q E j e=>h c A o s H v Q E j e]
end _L
namespace _L
open PySem PySem.Spec PyProof.Rows PySem.SeqAt
def vI(x y:xL V):Bool:=(dw$ min x.length y.length).all (λj=>oE (x.getD j .non) (y.getD j .non))&&ο x==ο y
section
variable {X:Cx}
def uI(r:aG x i)(R:aG y I)(f:x.all dC=μ)(F:y.all dC=μ)(j:Nat)(c:j < i.toArray.size)(d:j < I.toArray.size):EqAt A s i.toArray[j] I.toArray[j] (oE (x.getD j .non)$ y.getD j .non):=by
 let L:=r.length;let p:=R.length;let H:j < ο x:=by simp at c;omega
 let h:j < ο y:=by simp at d;omega
 let a:x[j]?=δ x[j]:=On H;let b:y[j]?=δ y[j]:=On h;let⟨u,q,g⟩:=r.get a;let⟨U,Q,k⟩:=R.get b;let l:=List.all_eq_true.mp f _ (RW H);let m:=List.all_eq_true.mp F _ (RW h);let E:i.toArray[j]=u:=by let⟨_,e⟩:=ξ.mp q;simpa using e
 let n:I.toArray[j]=U:=by let⟨_,e⟩:=ξ.mp Q;simpa using e
 let G:x.getD j .non=x[j]:=by rw[O4,a];rfl
 let o:y.getD j .non=y[j]:=by rw[O4,b];rfl
 rw[E,n,G,o];rwa[vG g k l m]
inductive X7(K:β)(x y:V)(H:Hp)(Q:VK):Prop
 |mk(a b c d:_)(_:x= .ref a)(_:y= .ref b)(_:aF K H a c)(_:aF K H b d)(_:c.all dC=μ)(_:d.all dC=μ)(_:Q (.bl (vI c d)) H)
def Fj(f:X.A.units < cLine):fq X (compareOp .Eq) (X7 X.K):=by
 intro p s z H x y v u Q I g k h;let⟨a,b,c,Y,rfl,rfl,l,m,F,n,q⟩:=h;cases g;cases k;let⟨i,r,P,_⟩:=I.tuple l;let⟨d,R,o,_⟩:=I.tuple m;erw[eq_tupleAt (e:=λj=>oE (c.getD j .non) (Y.getD j .non)) (show s.heap.IsTuple a i.toArray from P) (show s.heap.IsTuple b d.toArray from o) f (λj t w=>uI r R F n j t w) ?_];let e:((dw$ min i.toArray.size d.toArray.size).all (λj=>oE (c.getD j .non) (Y.getD j .non))&&i.toArray.size==d.toArray.size)=vI c Y:=by unfold vI;rw[Ov,Ov,<- r.length,<- R.length]
 rw[e];exact#[.bl _,H,I,Z,q]
end
end _L
namespace _L
open PySem PySem.Spec PyProof.Rows
section
#print v
def Zg{Q:Nat->ι->Prop}(H:n≠0)(h:∀i d,i < n->Q i { s with drawn:=d }):π (υ prog w) A (choose a n) Q E s:=by intro Γ p _;show Sem.wp _ Γ (.choose a n .pure) _ _ p s;rw[Sem.wp_choose];exact#[H,h _ _$ Nat.mod_lt _$ Nat.pos_of_ne_zero H]
def YE{α:Type}:∀(n:Nat) (xs:xL α) (s:ι) {Q:xL α->ι->Prop},ο xs=n->(∀ys d,ys.Perm xs->Q ys { s with drawn:=d })->
  π (υ prog w) A (drawOrder n xs) Q E s:=by
 intro n;induction n with
 |zero=>
  intro xs s Q hl h;cases xs with
  |nil=>unfold drawOrder;rwa[Op$ h [] s.drawn .rfl]
  |cons _ _=>cases hl
 |succ n ih=>
  intro xs s Q hl h;cases xs with
  |nil=>cases hl
  |cons x r=>unfold drawOrder;erw[Om$ Zg NN λi d hi=>?_];let hg:(x::r)[i]?=δ ((x::r)[i]'hi):=On hi;rw[hg];dsimp only;erw[Om$ ih _ _ (by rw[UD hi,hl];rfl) λys d' hp=>Op (h _ d' ?_)];erw[(List.Perm.cons _ hp).trans ?_];rw[Uh];erw[List.perm_middle.symm.trans ?_];rw[RJ,TK]
end
def nB:η->ρ
 | .str x _=>x
 |_=>#[(ε [])]
def QA(t:SetTable)(n:Nat):(t.orStandIn n).led=t.led:=by
 unfold SetTable.orStandIn;split
 .rfl
 .rfl
def Zh(t:SetTable)(e:Array (Int×η))(h:Int)(x:η):(layNew t e h x).2.1.led=t.led:=by
 unfold layNew;split
 .rwa[QA _ _]
 .rfl
def XI(t:SetTable)(E:Array (Int×η))(n:Nat):(relayAll t E n).2.1.led=t.led:=by
 unfold relayAll;split
 .rename_i T o e
  unfold SetTable.relaid SetTable.laid at e;cases h:SetTable.layClean (SetTable.sizeAbove n - 1) (E.map (·.1)) with
  |none=>rw[h]at e;cases e
  |some O=>rw[h]at e;cases e;dsimp only;split<;>rfl
 .rfl
def Qn(t:SetTable)(E:Array (Int×η))(n:Nat)(H:t.plain=ν):(relayAll t E n).2.1.plain=ν:=by
 unfold relayAll;split
 .rename_i T o e
  unfold SetTable.relaid SetTable.laid at e;cases h:SetTable.layClean (SetTable.sizeAbove n - 1) (E.map (·.1)) with
  |none=>rw[h]at e;cases e
  |some O=>
   rw[h]at e;cases e;dsimp only;split
   .rwa[H]
   .rfl
 .rfl
def dy(p:ψ)(w:bF)(h:de)(a:ζ)(L:xL ρ):Prop:=
 ∃o E b t,h.get? a=δ o/\o.ExactSet/\o.data= .set E b t/\ElemsOf (cJ p w) E.toList/\(E.toList.map λe=>nB e.2).Perm L/\L.Nodup
  /\E.size < scanBound/\t.fits E.size=μ/\t.led=!(w.params.followText "set-order")/\(t.plain=ν∨E.size=0)
def dy.at{H:de}{a:ζ}(x:dy p w h a L)(e:∀o,h.get? a=δ o->H.get? a=δ o):dy p w H a L:=
 let #[o,E,b,t,c,r]:=x;#[o,E,b,t,e o c,r]
section
#print v
def J3{a:Array (Int×η)}(b:ElemsOf (cJ prog w) a.toList)(x:ρ):
  (a.toList.findIdx? (λe=>(cJ prog w).is x e.2)=θ↔¬x∈a.toList.map λe=>nB e.2):=by
 rw[List.findIdx?_eq_none_iff];constructor
 .intro h m;let⟨e,H,f⟩:=dg.mp m;obtain⟨⟨k,g,_⟩,_⟩:=b e H;let⟨t,c⟩:=SH g;let q:=h e H;rw[c]at f q;let d:k=x:=f;subst d;let Q:(cJ prog w).is k (.str k t)=μ:=strKind_is prog w k t;rw[Q]at q;cases q
 .intro h e H;cases q:(cJ prog w).is x e.2 with
  |false=>rfl
  |true=>let⟨t,c⟩:=SH q;rwa[absurd (dg.mpr #[e,H,by rw[c];rfl]) h]
def J4{b:Array (Int×η)}{T:SetTable}(d:s.heap.get? a=δ o)(f:o.ExactSet)(h:o.data= .set p c t)
  (g:ElemsOf (cJ prog w) b.toList) (i:(b.toList.map λe=>nB e.2).Perm L) (j:L.Nodup) (k:b.size < scanBound) (l:T.fits b.size=μ)
  (m:T.led=!(w.params.followText "set-order")) (n:T.plain=ν):
  (s.heap.update a$ mL b T).get? a=δ { o with data:=.set b (c+1) T }/\dy prog w (s.heap.update a$ mL b T) a L:=by
 let H:(s.heap.update a$ mL b T).get? a=δ { o with data:=.set b (c+1) T }:=by let q:=O9 (mL b T) d (by rw[putSet_of b T h];rfl);rw[putSet_of b T h]at q;assumption
 exact#[H,_,b,c+1,T,H,f,Z,g,i,j,k,l,m,.inl n]
def YF{Q : Bool -> ι -> Prop}(hS : dy prog w s.heap a L)(room : ο L + 1 < scanBound)
    (h : ∀ b R l, fx a s.heap R -> dy prog w R a (if x ∈ L then L else L ++ [x]) -> s.toks <= l -> Q b { s with heap := R, toks := l }) :
    π (υ prog w) A (setAdd a$ .str x f) Q E s := by
  obtain ⟨o, g, ep, t, n, U, u, H, v, B, hb, V, X, Y⟩ := hS;let d : (cJ prog w).is x (.str x f) = μ := strKind_is prog w x f;let C : g.size = ο L := by rw [<- v.length_eq, Oq, OT]
  unfold setAdd;erw[OV$ Om ((cJ prog w).pyHash (k := x) d ?_)];unfold setAddHashed setAddHashedIn;erw[OV$ Om$ Ro (s := { s with toks := s.toks + 1 }) n u V ?_];dsimp only;rw [byScan_of Z hb H];simp only [↓reduceIte];unfold setAddByScan;erw[Om$ Om$ Ry$ Om$ wpAny_setScan_of (knd := cJ prog w) d n u V H ?_];cases hr : List.findIdx? (λe => (cJ prog w).is x e.2) g.toList with
  | some j =>
    dsimp only;let D : x ∈ L := by erw[Decidable.byContradiction λhn => ?_];let q := (J3 (prog := prog) (w := w) H x).mpr λm => hn (v.mem_iff.mp m);rw [q] at hr; cases hr
    let q := h ν s.heap (s.toks + 1) (UO a s.heap) (by rw [OB D]; rwa[#[o, g, ep, t, n, U, u, H, v, B, hb, V, X, Y]]) (PY _);rwa[Op$ Op q]
  | none =>
    dsimp only;let D : ¬ x ∈ L :=λm => (J3 (prog := prog) (w := w) H x).mp hr (v.mem_iff.mpr m);let W : ∀ (b : Bool) {S : ι} {Q' : Unit -> ι -> Prop}, Q' () S -> π (υ prog w) A (match b with | true => rule "set.scan.the-table-gave-way" | false => pure ()) Q' E S := by
      intro b S Q' hq;cases b
      · rwa[Op hq]
      · rwa[Ry hq]
    let p := layNew_perm t g ((cJ prog w).hash x) (.str x f);let M := layNew_fits t g ((cJ prog w).hash x) (.str x f);let O := Zh t g ((cJ prog w).hash x) (.str x f);generalize layNew t g ((cJ prog w).hash x) (.str x f) = N at p M O ⊢;obtain ⟨c, t1, w0, g4⟩ := N;dsimp only at p M O ⊢;rw [Vv] at p;let F : ElemsOf (cJ prog w) c.toList := (H.push d Z).perm p;let P : (c.toList.map λe => nB e.2).Perm (L ++ [x]) := by erw[(p.map _).trans ?_];rw [OU];rwa[v.append_right _]
    let G : (L ++ [x]).Nodup := List.nodup_append.mpr #[B, by simp,λy hy z hz e => by rw [T6] at hz; subst hz; subst e; rwa[D hy]];let iT : c.size = g.size + 1 := by rw [<- OT, p.length_eq, Ot, OT]; rfl
    let b1 : c.size < scanBound := by rw [iT, C]; rwa[room]
    erw[Om$ W _ ?_];let i : ∀ T : SetTable, T.fits c.size = μ -> T.led = t.led -> T.plain = ν ->
        π (υ prog w) A (do
          storeSet a c T
          if (!w0 && T.tooFull) = μ then do
              (match (relayAll T c$ SetTable.grown c.size).2.2 with | true => rule "set.scan.the-table-gave-way" | false => pure ())
              storeSet a (relayAll T c$ SetTable.grown c.size).1 (relayAll T c$ SetTable.grown c.size).2.1
              pure (δ μ)
            else pure (δ μ)) (λr s' => r = δ μ /\ Q μ s') E { s with toks := s.toks + 1 } := by
      intro T g1 g2 g3;erw[Om$ Wk (s := { s with toks := s.toks + 1 }) n u ?_$ Tu b1];obtain ⟨o1, S1⟩ := J4 (s := s) (prog := prog) (w := w) n U u F P G b1 g1 (g2.trans X) g3;let I := Rl s.heap a (mL c T);split
      · have J := relayAll_perm T c (SetTable.grown c.size)
        let f2 := relayAll_fits T c (SetTable.grown c.size);let l2 := XI T c (SetTable.grown c.size);let q2 := Qn T c (SetTable.grown c.size) g3;generalize relayAll T c (SetTable.grown c.size) = Z at J f2 l2 q2 ⊢;obtain ⟨K, t3, g0⟩ := Z;dsimp only at J f2 l2 q2 ⊢;let ci : K.size = c.size := by rw [<- OT, J.length_eq, OT]
        let b2 : K.size < scanBound := by rw [ci]; rwa[b1]
        erw[Om$ W _$ Om$ Wk (s := { s with heap := s.heap.update a (mL c T), toks := s.toks + 1 }) o1 Z ?_$ Tu b2];obtain ⟨_, S2⟩ := J4 (s := { s with heap := s.heap.update a (mL c T) }) (prog := prog) (w := w) o1 U Z (F.perm J) ((J.map _).trans P) G b2 f2 (l2.trans$ g2.trans X) q2;rwa[Op #[Z, h μ _ _ (I.trans$ Rl _ a _) (by rw [OD D]; rwa[S2]) (PY _)]]
      · rwa[Op #[Z, h μ _ _ I (by rw [OD D]; rwa[S1]) (PY _)]]
    split
    · rename_i tp
      erw[Om ?_];rw [hashByValue_scannable 8 (x := .str x f) Z];erw[Op ?_];let e0 : plainKind (.str x f) = ν := rfl;rw [e0];simp only [OJ, ↓reduceIte];erw[Px (i { t1 with plain := ν } (SetTable.fits_plain_off M) O Z) (λr s' q => ?_) λ_ _ z => z];obtain ⟨rfl, q⟩ := q;rwa[Op q]
    · rename_i tp
      erw[Om$ Op ?_];simp only [↓reduceIte];erw[Px (i t1 M O (tp:)) (λr s' q => ?_) λ_ _ z => z];obtain ⟨rfl, q⟩ := q;rwa[Op q]
end
def bM(w:bF):hG:={ cls:=.type "set",dict:=θ,data:=.set (ε []) 0 (.fresh 0 0 (!(w.params.followText "set-order"))) }
section
#print v
def YG{h:de}(e:h.get? a=δ (bM w)):dy prog w h a []:=
 #[_,(ε []),0,_,e,#[Z,Z,Z],Z,λ_ z=>by simp at z,NN,TW,(NP:(0:Nat) < scanBound),Z,Z,.inr Z]
def QB(a:η){G:η->ι->Prop}(h:G (.ref (-s)) ‹s.heap.push (bM w)›):
  kz (υ prog w) A (.call (.builtin "set.__new__") #[[.type "set",a],[]]) (wants G E) s:=by
 erw[UZ ?_];show π _ A.in1 (do checkBuiltinCall "set.__new__" _;again (.builtin "set.__new__" _)) _ _ s;erw[Om$ Ts (PySem.F.newCall_set_1 a)$ Op #[RG UU _,P6 PySem.F.entry_set_new ?_]];rw[Pt UU];unfold dO.«set.__new__» Builtin.Frozenset.newClass;let o:=sub_set_self;let⟨H,g,d,t,os⟩:=s;dsimp only;wp_walk;erw[Sa$ Op ?_];dsimp only;simp only[newObj];rwa[Om$ wpAny_alloc$ Op$ Op h]
end
theorem StrsAre.at'{V:xL η}{s:xL ρ}(q:StrsAre V s):∀(i:Nat) (v:η),V[i]?=δ v->∃x t,s[i]?=δ x/\v= .str x t:=by
 induction q with
 |nil=>intro i v h;simp at h
 |cons y t r f=>
  intro i v h;cases i with
  |zero=>simp at h;rwa[#[y,t,Z,h.symm]]
  |succ i=>simp only[List.getElem?_cons_succ]at h;let⟨x,T,e,E⟩:=f i v h;rwa[#[x,T,by simpa using e,E]]
theorem StrsAre.len{v:xL η}{s:xL ρ}(h:StrsAre v s):ο s=ο v:=by
 induction h with
 |nil=>rfl
 |cons _ _ _ f=>simp [f]
def kh:Slot "set_iterator" "__next__" "set_iterator.__next__":=by
 erw[.of (owner:="set_iterator") (n:="__next__") ?_ NM NM NM ?_ ?_]
 .rw[P5,Pl];kernel_rfl
 .first |exact .inl NM |exact .inr NM
 .rw[Rm];kernel_rfl
def qq:Slot "set_iterator" "__iter__" "set_iterator.__iter__":=by
 erw[.of (owner:="set_iterator") (n:="__iter__") ?_ NM NM NM ?_ ?_]
 .rw[P5,Pl];kernel_rfl
 .first |exact .inl NM |exact .inr NM
 .rw[Rm];kernel_rfl
def JU:entryFor table "set_iterator.__next__"=δ dO.«set_iterator.__next__»:=TR (by kernel_rfl)
def JV:entryFor table "set_iterator.__iter__"=δ dO.«dict_keyiterator.__iter__»:=by erw[Ud (id':="dict_keyiterator.__iter__") ?_ Z NM ?_]<;>kernel_rfl
def Ka:entryFor table "set.__iter__"=δ dO.«frozenset.__iter__»:=by erw[Ud (id':="frozenset.__iter__") ?_ Z NM ?_]<;>kernel_rfl
def Kb(a:η):argsOk "set_iterator.__next__" #[[a],[]]:=by unfold argsOk;kernel_rfl
def Kc(a:η):argsOk "set_iterator.__iter__" #[[a],[]]:=by unfold argsOk;kernel_rfl
def cR(h:de)(I:ζ)(f:η)(i:Nat)(S:ζ)(n e:Nat):Prop:=
 ∃o,h.get? I=δ o/\o.cls= .type "set_iterator"/\o.data= .fields (ε [f,.int i 0,.ref S,.int n 0,.int e 0])
def cR.at{H:de}{i:Nat}{S:ζ}(x:cR h I f i S n E)(e:∀o,h.get? I=δ o->H.get? I=δ o):cR H I f i S n E:=
 let #[o,a,r]:=x;#[o,e o a,r]
def cR.is{s:ι}{S:ζ}(x:cR s.heap I f i S n e):s.TypeIs (.ref I) "set_iterator":=by let⟨o,h,H,_⟩:=x;rwa[#[o,h,H]]
section
#print v
def Kf{c:Type}{Q:c->ι->Prop}(d:A.handled=θ)
  (h:∀H e,(∀b o,s.heap.get? b=δ o->H.get? b=δ o)->Shared.TypeIs ‹H› e "StopIteration"->E e ‹H›):
  π (υ prog w) A (do raiseNew (<- newExc (.type "StopIteration") []):Sem c) Q E s:=by
 erw[Om ?_];simp only[newExc,newTuple];erw[Om$ Pd ?_ (by size_fits)];erw[Om (m:=firstArgMember _ _)$ Ts (a:=Ω) ?_ ?_]
 .first |rfl | (simp only[firstArgMember];rfl)
 erw[Pd ?_ (by size_fits)];simp only[raiseNew];erw[Om$ wpAny_handled ?_];rw[d];erw[Om$ Op$ wpAny_throw$ h _ _ (λb o e=>Oo _ (Oo _ e)) ?_];exact#[_,Oy _ Z,Z]
def Kg{S:ζ}(H:cR s.heap I f i S n c)
  (h:π (υ prog w) A.in1 (dO.«set_iterator.__next__» #[[.ref I],[]]) (λF a=>∃v,F= .done (.ret v)/\Q (δ v) a) (λe a=>a.TypeIs e "StopIteration"/\Q θ a) s):
  π (υ prog w) A (pyNext$ .ref I) Q E s:=by
 unfold pyNext;erw[Om$ Sl$ Pa (name:=Str.ofString "__next__") H.is kh$ O7 kh H.is JU ?_$ Kb _];erw[Px h (λF a q=>?_) λe a q=>?_]
 .let⟨v,e,q⟩:=q;exact#[v,e,Op q]
 .rwa[Om$ RL (T:="StopIteration") (b:=μ) q.1 Uc$ Op q.2]
def Q6{I:ζ}{f:η}{i:Nat}{S:ζ}{n a:Nat}{o:hG}{v:Array η}(H:s.heap.get? I=δ o)(b:o.cls= .type "set_iterator")(h:o.data= .fields v)(k:Nat)(x:η)
  (e:v.setIfInBounds k x=(ε [f,.int i 0,.ref S,.int n 0,.int a 0])):cR (s.heap.update I$ ge (·.setIfInBounds k x)) I f i S n a:=
 #[_,O9 _ H$ PM$ O6 h _,(Sr ..).trans b,by rw[O6 h,e]]
def Zi{I S P:ζ}{i:Nat}{O j:hG}{e:Array (Int×η)}{a:Nat}{t:SetTable}{k:Array η}{c p:Nat}{hx:Int}{x:η}{Q:ym η->ι->Prop}
  (h:cR s.heap I (.ref P) i S e.size a) (l:s.heap.get? S=δ O) (H:O.data= .set e a t) (m:t.fits e.size=μ) (n:s.heap.get? P=δ j) (b:j.data= .seq k c)
  (q:k[i]?=δ (.int p 0)) (r:e[p]?=δ (hx,x)) (u:∀d,cR d I (.ref P) (i+1) S e.size a->fx I s.heap d->Q (δ x) ‹d›):
  π (υ prog w) A (pyNext$ .ref I) Q E s:=by
 erw[Kg h ?_];let⟨o,f,v,g⟩:=h;show π _ _ (fieldsOf (.ref I) >>= _) _ _ s;erw[Om$ Ua f g ?_];dsimp only;erw[Om$ Sf l H m ?_];simp only[P7,OJ,↓reduceIte];erw[Om$ Pu n b ?_];simp only[Ph,q];unfold setNextDrawn;erw[Om$ Om$ Ro l H m ?_];simp only[P7,OJ,↓reduceIte,r];erw[Op ?_];erw[Om$ Pp f g NN$ Op #[x,Z,u _ ?_$ Rl ..]];rwa[Q6 f v g _ _ (by simp [rawInt])]
def Qo(q:A.handled=θ){I S P:ζ}{i:Nat}{O l:hG}{d:Array (Int×η)}{m:Nat}{t:SetTable}{p:Array η}{c:Nat}{Q:ym η->ι->Prop}
  (h:cR s.heap I (.ref P) i S d.size m) (r:s.heap.get? S=δ O) (f:O.data= .set d m t) (u:t.fits d.size=μ) (v:s.heap.get? P=δ l) (g:l.data= .seq p c)
  (x:p[i]?=θ) (y:∀H,(∀b o,b≠I->s.heap.get? b=δ o->H.get? b=δ o)->Q θ ‹H›):
  π (υ prog w) A (pyNext$ .ref I) Q E s:=by
 erw[Kg h ?_];let⟨o,j,B,a⟩:=h;show π _ _ (fieldsOf (.ref I) >>= _) _ _ s;erw[Om$ Ua j a ?_];dsimp only;erw[Om$ Sf r f u ?_];simp only[P7,OJ,↓reduceIte];erw[Om$ Pu v g ?_];simp only[Ph,x];erw[Om$ Pp j a NN ?_];erw[Om$ Pp (O9 _ j$ PM$ O6 a _) (O6 a _) NN ?_];erw[Kf (s:=‹_›) (q:) λH e k T=>#[T,y H λb o n z=>k b o ?_]];exact(OP _ _$ O3 n).trans ((OP _ _$ O3 n).trans z)
end
section
#print v
def Q7{I S:ζ}{i j nx:Nat}{O:hG}{e:Array (Int×η)}{a:Nat}{t:SetTable}{x:η}{Q:ym η->ι->Prop}
  (h:cR s.heap I (.int j 0) i S e.size a) (f:s.heap.get? S=δ O) (b:O.data= .set e a t) (k:t.fits e.size=μ)
  (l:∀(q:ym (η×Nat)->ι->Prop) m,q (δ (x,nx)) s->π (υ prog w) A.in1 (setNext S j i a) q m s)
  (n:∀c,cR c I (.int nx 0) (i+1) S e.size a->fx I s.heap c->Q (δ x) ‹c›):
  π (υ prog w) A (pyNext$ .ref I) Q E s:=by
 erw[Kg h ?_];let⟨o,d,p,H⟩:=h;show π _ _ (fieldsOf (.ref I) >>= _) _ _ s;erw[Om$ Ua d H ?_];dsimp only;erw[Om$ Sf f b k ?_];simp only[P7,OJ,↓reduceIte];simp only[Ph];erw[Om$ l _ _ ?_];dsimp only;erw[Om$ Pp d H NN ?_];let g:=O9 (ge (·.setIfInBounds 0 (rawInt nx))) d (PM$ O6 H _);let D:=O6 H (·.setIfInBounds 0 (rawInt nx));erw[Om$ Pp g D NN$ Op #[x,Z,n _ ?_ ((Rl ..).trans$ Rl ..)]];rwa[Q6 (s:=‹_›) g ((Sr ..).trans p) D _ _ (by simp [rawInt])]
def qT(l:A.handled=θ){I S:ζ}{i j:Nat}{O:hG}{a:Array (Int×η)}{c:Nat}{t:SetTable}{Q:ym η->ι->Prop}
  (h:cR s.heap I (.int j 0) i S a.size c) (m:s.heap.get? S=δ O) (d:O.data= .set a c t) (n:t.fits a.size=μ)
  (p:∀(q:ym (η×Nat)->ι->Prop) r,q θ s->π (υ prog w) A.in1 (setNext S j i c) q r s)
  (u:∀H,(∀b o,b≠I->s.heap.get? b=δ o->H.get? b=δ o)->Q θ ‹H›):
  π (υ prog w) A (pyNext$ .ref I) Q E s:=by
 erw[Kg h ?_];let⟨o,f,y,g⟩:=h;show π _ _ (fieldsOf (.ref I) >>= _) _ _ s;erw[Om$ Ua f g ?_];dsimp only;erw[Om$ Sf m d n ?_];simp only[P7,OJ,↓reduceIte];simp only[Ph];erw[Om$ p _ _ ?_];dsimp only;erw[Om$ Pp f g NN ?_];erw[Kf (s:=‹_›) (l:) λH e k T=>#[T,u H λb o v x=>k b o ?_]];exact(OP _ _$ O3 v).trans x
def JC(a:w.params.followText "set-order"=μ){S:ζ}(b:s.heap.get? S=δ o)(H:o.data= .set c d t)
  (f:t.fits c.size=μ) {Q:ym (η×Nat)->ι->Prop} (h:Q (((pickOrder (w.params.setOrder S d) c)[i]?).map λe=>(e.2,j)) s):
  π (υ prog w) A (setNext S j i d) Q E s:=by
 unfold setNext;erw[Om$ Ro b H f ?_];dsimp only;unfold setsByText;erw[Om$ Om$ Sa$ Op ?_];dsimp only;rw[show(υ prog w).w.params.followText "set-order"=_ from a];simp only[↓reduceIte,P7,OJ];unfold setWalk;erw[Om$ Om$ Ro b H f ?_];dsimp only;unfold setsByText;erw[Om$ Om$ Sa$ Op ?_];dsimp only;rw[show(υ prog w).w.params.followText "set-order"=_ from a];simp only[↓reduceIte];rwa[Om$ Sa$ Op$ Op h]
def J5(a:w.params.followText "set-order"=ν){S:ζ}(b:s.heap.get? S=δ o)(H:o.data= .set e c t)
  (d:t.fits e.size=μ) (f:t.led=μ) (l:e.size<=1) {Q:ym (η×Nat)->ι->Prop}
  (h:Q (match e[SetTable.below t.place j]?,t.place[SetTable.below t.place j]? with |some (_,x),δ k=>δ (x,k+1) |_,_=>θ) s):
  π (υ prog w) A (setNext S j i c) Q E s:=by
 unfold setNext;erw[Om$ Ro b H d ?_];dsimp only;unfold setsByText;erw[Om$ Om$ Sa$ Op ?_];dsimp only;rw[show(υ prog w).w.params.followText "set-order"=_ from a];simp only[OJ,↓reduceIte];split
 .rename_i z
  let g:(!t.plain&&decide (e.size > 1))=μ:=z;simp only[PU,decide_eq_true_eq]at g;omega
 .erw[Om ?_];show π _ _ (if (!t.led&&!e.isEmpty)=μ then _ else _) _ _ _;rw[f];simp only[SE,We,OJ,↓reduceIte];rwa[Op$ Op h]
end
def YH{a:Type}(f:Nat->Nat):∀(n k:Nat) (l:xL a) (o:Array a),ο l=n->(pickOrder.go f n k l o).toList.Perm (o.toList++l):=by
 intro n;induction n with
 |zero=>intro k l o h;rw[List.length_eq_zero_iff.mp h];unfold pickOrder.go;simp
 |succ n i=>intro k l o h;unfold pickOrder.go;let H:f k % ο l < ο l:=Nat.mod_lt _ NO;rw[On H];dsimp only;erw[(i _ _ _ (by rw[UD H,h];rfl)).trans ?_];rw[Vv,Pb,List.singleton_append];erw[Te _ ?_];rw[Uh];erw[List.perm_middle.symm.trans ?_];rw[RJ,TK]
def ky{a:Type}(f:Nat->Nat)(x:Array a):(pickOrder f x).toList.Perm x.toList:=by let h:=YH f x.size 0 x.toList (ε []) (OT ..);simpa [pickOrder] using h
def Js{a:Type}(x:Array a)(d:a):(dw x.size).map (λp=>(x[p]?).getD d)=x.toList:=by
 erw[Uk NN λi b h=>?_];let H:i < x.size:=by simpa using h
 simp [H]
def oI(ord:xL (Int×η))(i:Nat)(v:η):Prop:=∃e,ord[i]?=δ e/\v=e.2
section
#print v
def q9{S:ζ}(H:cR s.heap I f i S n e){Q:η->ι->Prop}(h:Q (.ref I) s):π (υ prog w) A (pyIter$ .ref I) Q E s:=by erw[Uv H.is qq$ O7 qq H.is JV ?_$ Kc _];show π _ _ (ret$ .ref I) _ _ s;rwa[Op #[_,Z,"set_iterator",_,H.is,kh.lookup,h]]
def Zj(D:A.handled=θ)(I S P:ζ)(l:S≠I)(m:P≠I){O oP:hG}{y:xL Nat}{c:Nat}(f:O.data= .set d G t)
  (u:t.fits d.size=μ) (g:oP.data= .seq (y.map λ(i:Nat)=>rawInt i).toArray c) (n:y.Perm (dw d.size)):
  WalksS prog w A I [I,S,P] [I] (λa b=>b=a) d.size (oI$ y.map λp=>(d[p]?).getD (0,.none))
   (λi s=>cR s.heap I (.ref P) i S d.size G/\s.heap.get? S=δ O/\s.heap.get? P=δ oP) where
 sub:=λb H=>by simp at H;simp [H]
 grefl:=λ_=>Z
 gtrans:=λ_ _ _ F J=>J.trans F
 frame:=λi s v T st _ k=>#[st.1.at λo e=>k I NN o e,k S NN _ st.2.1,k P NN _ st.2.2]
 item:=λi s Q E K st j=>by
  let B:ο y=d.size:=by rw[n.length_eq,Sn]
  let h:i < ο y:=NO
  let C:y[i] < d.size:=tf.mp (n.mem_iff.mp$ RW h);erw[Zi (p:=y[i]) (hx:=(d[y[i]]).1) (x:=(d[y[i]]).2) st.1 st.2.1 f u st.2.2 g (by simp [h,rawInt]) (by simp [C]) λv q r=>?_];erw[j _ _ #[d[y[i]],by simp [h,C],Z] #[q,?_,?_] #[λb o H e=>?_,Z,Z,Z,Ou _]]
  .rw[r.2 S l];rwa[st.2.1]
  .rw[r.2 P m];rwa[st.2.2]
  .rw[r.2 b (λz=>H (by simp [z]))];rwa[e]
 done:=λs Q E st j=>by
  let B:ο y=d.size:=by rw[n.length_eq,Sn]
  erw[Qo D st.1 st.2.1 f u st.2.2 g (by simp [B]) λv k=>j _ #[λb o H e=>k b o (λz=>H (by simp [z])) e,Z,Z,Z,Ou _]]
 self:=λ_ _ _ _ st j=>q9 st.1 j
def uK(r:A.handled=θ)(m:w.params.followText "set-order"=μ)(I S:ζ)(l:S≠I){O:hG}(h:O.data= .set c d t)
  (j:t.fits c.size=μ):
  WalksS prog w A I [I,S] [I] (λa b=>b=a) c.size (oI (pickOrder (w.params.setOrder S d) c).toList)
   (λi s=>cR s.heap I (.int (0:Nat) 0) i S c.size d/\s.heap.get? S=δ O) where
 sub:=λb H=>by simp at H;simp [H]
 grefl:=λ_=>Z
 gtrans:=λ_ _ _ u v=>v.trans u
 frame:=λi s n T st _ k=>#[st.1.at λo e=>k I NN o e,k S NN _ st.2]
 item:=λi s Q E D st f=>by
  let y:(pickOrder (w.params.setOrder S d) c).size=c.size:=by rw[<- OT,(ky _ _).length_eq,OT]
  let g:i < (pickOrder (w.params.setOrder S d) c).size:=NO
  erw[Q7 (x:=(pickOrder (w.params.setOrder S d) c)[i].2) (nx:=0) st.1 st.2 h j (λB C q=>JC m st.2 h j (by rw[Rv g];rwa[q])) λn q p=>?_];erw[f _ _ #[(pickOrder (w.params.setOrder S d) c)[i],by rw[Ra];rwa[Rv g],Z] #[q,?_] #[λb o H e=>?_,Z,Z,Z,Ou _]]
  .rw[p.2 S l];rwa[st.2]
  .rw[p.2 b (λz=>H (by simp [z]))];rwa[e]
 done:=λs Q E st f=>by
  let y:(pickOrder (w.params.setOrder S d) c).size=c.size:=by rw[<- OT,(ky _ _).length_eq,OT]
  erw[qT r st.1 st.2 h j (λB C q=>JC m st.2 h j (by rw[To NO];rwa[q])) λn k=>f _ #[λb o H e=>k b o (λz=>H (by simp [z])) e,Z,Z,Z,Ou _]]
 self:=λ_ _ _ _ st f=>q9 st.1 f
def Zk(p:Nat):SetTable.below (ε [p]) 0=0:=by simp [SetTable.below,SetTable.below.go]
def Zl(p:Nat):SetTable.below (ε [p]) (p+1)=1:=by simp [SetTable.below,SetTable.below.go]
def yS(G:A.handled=θ)(u:w.params.followText "set-order"=ν)(I S:ζ)(n:S≠I){O:hG}(h:O.data= .set c L t)
  (g:t.fits c.size=μ) (v:t.led=μ) (y:c.size<=1):
  WalksS prog w A I [I,S] [I] (λa b=>b=a) c.size (oI c.toList)
   (λi s=>(∃j:Nat,cR s.heap I (.int j 0) i S c.size L/\(i=0->j=0)/\(i=1->∃p,t.place=(ε [p])/\j=p+1))/\s.heap.get? S=δ O) where
 sub:=λb d=>by simp at d;simp [d]
 grefl:=λ_=>Z
 gtrans:=λ_ _ _ K M=>M.trans K
 frame:=λi s B W st _ k=>#[let #[j,a,r]:=st.1;#[j,a.at λo e=>k I NN o e,r],k S NN _ st.2]
 item:=λi s Q E X st l=>by
  obtain⟨⟨j,H,J,C⟩,f⟩:=st;let N:i=0:=NO
  subst N;cases J Z;let D:c.size=1:=NO
  let P:t.place.size=1:=by simp only[SetTable.fits,PU,beq_iff_eq]at g;omega
  let⟨p,m⟩:=Array.size_eq_one_iff.mp P;erw[Q7 (x:=(c[0]'NO).2) (nx:=p+1) H f h g (λR T q=>J5 u f h g v y (by rw[m,Zk,Rv NO];rwa[q])) λB q F=>?_];erw[l _ _ #[c[0]'NO,by rw[Ra];rwa[Rv NO],Z] #[#[_,q,λz=>by omega,λ_=>#[p,m,Z]],?_] #[λb o d e=>?_,Z,Z,Z,Ou _]]
  .rw[F.2 S n];rwa[f]
  .rw[F.2 b (λz=>d (by simp [z]))];rwa[e]
 done:=λs Q E st l=>by
  obtain⟨⟨j,H,J,C⟩,f⟩:=st;erw[qT G H f h g (λR T q=>J5 u f h g v y ?_) λB k=>l _ #[λb o d e=>k b o (λz=>d (by simp [z])) e,Z,Z,Z,Ou _]];by_cases z:c.size=0
  .rw[To (show c.size<=_ by omega)];rwa[q]
  .let D:c.size=1:=by omega
   let⟨p,U,V⟩:=C D;subst V;rw[U,Zl,To (show c.size<=1 by rwa[N09])];rwa[q]
 self:=λ_ _ _ _ st l=>let #[#[_,a,_],_]:=st;q9 a l
end
def ql{prog:ψ}{w:bF}(h:ElemsOf (cJ prog w) E)(i:Nat)(v:η)(b:oI E i v):∃x t,(E.map λe=>nB e.2)[i]?=δ x/\v= .str x t:=by let⟨e,H,rfl⟩:=b;obtain⟨⟨k,c,_⟩,_⟩:=h e (OX H);let⟨t,a⟩:=SH c;exact#[k,t,by rw[OL,H];show δ (nB e.2)=_;rw[a];rfl,a]
def DN(p:ψ)(w:bF)(s c:ι)(S I:ζ)(L:xL ρ):Prop:=
 ∃(f:xL ζ) (d:xL ρ) (P:Nat->η->Prop) (St:Nat->ι->Prop),(∀b o,s.heap.get? b=δ o->c.heap.get? b=δ o)/\c.gens=s.gens/\c.os=s.os/\s.toks<=c.toks/\
  -s<=I/\I < -c/\c.TypeIs (.ref I) "set_iterator"/\(∀b∈f,b=S∨-s<=b)/\(∀A:bS,A.handled=θ->WalksS p w A I f [I] (λa b=>b=a) d.length P St)/\St 0 c/\
  (∀i v,P i v->∃x t,d[i]?=δ x/\v= .str x t)/\d.Perm L
section
#print v
def Zm{S:ζ}(V:dy prog w s.heap S L){Q:η->ι->Prop}(h:∀f I,DN prog w s f S I L->Q (.ref I) f):π (υ prog w) A (pyIter$ .ref S) Q E s:=by
 let⟨o,a,x,t,H,W,m,n,M,X,r,u,Y,N⟩:=V;let P:s.TypeIs (.ref S) "set":=#[o,H,W.1];let v:S < -s:=Ox H;erw[Uv P UT$ O7 UT P Ka ?_$ PySem.F.args_set_iter_1 _];unfold dO.«frozenset.__iter__»;show π _ _ (Builtin.Frozenset.sizeOf S >>= _) _ _ s;unfold Builtin.Frozenset.sizeOf;erw[Om$ Om$ Sf H m u$ Op ?_];unfold setDrawn;erw[Om$ Om$ Ro H m u ?_];dsimp only;unfold setsByText;erw[Om$ Om$ Sa$ Op$ Op ?_];split
 .rename_i z
  let B:(!(w.params.followText "set-order")&&(!t.plain&&decide (a.size > 1)))=μ:=z;simp only[PU,decide_eq_true_eq]at B;erw[Om$ YE a.size (dw a.size) s NN λy d G=>?_];let C:ο y=a.size:=by rw[G.length_eq,Sn]
  let O:((y.map λ(i:Nat)=>rawInt i).length)<=τ:=by rw[Oq,C];rwa[Tu r]
  erw[Om$ Sw (s:={ s with drawn:=d }) ?_ O];erw[Om ?_];unfold setEpoch;erw[Om$ Ro (Oo _ H) m u$ Op ?_];erw[Om$ Pd$ Op #[_,Z,"set_iterator",_,#[_,Oy _ Z,Z],kh.lookup,h _ _ ?_]];generalize J:s.heap.push { cls:=.type "tuple",data:=.seq (y.map λ(i:Nat)=>rawInt i).toArray }=g;let R:g.objs.size=-s+1:=by rw[<- J,Pn]
  let gP:g.get? (-s)=δ { cls:=.type "tuple",data:=.seq (y.map λ(i:Nat)=>rawInt i).toArray }:=by rw[<- J];rwa[Oy _ Z]
  let gS:g.get? S=δ o:=by rw[<- J];rwa[Oo _ H]
  refine#[[g.objs.size,S,-s],(y.map λp=>(a[p]?).getD (0,.none)).map λe=>nB e.2,oI$ y.map λp=>(a[p]?).getD (0,.none),
   (λi f=>cR f.heap g.objs.size (.ref (-s)) i S a.size x/\f.heap.get? S=δ o/\f.heap.get? (-s)=δ { cls:=.type "tuple",data:=.seq (y.map λ(i:Nat)=>rawInt i).toArray }),λb o e=>?_,Z,Z,Ou _,?_,?_,#[_,Oy _ Z,Z],λb r=>?_,
   λT D=>?_,#[#[_,Oy _ Z,Z,Z],Oo _ gS,Oo _ gP],?_,?_]
  .rwa[Oo _ (by rw[<- J];rwa[Oo _ e])]
  .show -s<=g.objs.size;omega
  .show g.objs.size < (g.push _).objs.size;rw[Pn];rwa[P8 _]
  .simp only[RF,O5,TH]at r;rcases r with e |e |e
   .subst e;rwa[.inr NO]
   .rwa[.inl e]
   .rw[e];rwa[.inr (Ou _)]
  .let q:=Zj (prog:=prog) (w:=w) D g.objs.size S (-s) (OH (by rw[R];rwa[RD v])) (OH (by rw[R];rwa[P8 _])) m u (oP:={ cls:=.type "tuple",data:=.seq (y.map λ(i:Nat)=>rawInt i).toArray }) (c:=0) Z G;simpa [C] using q
  .erw[ql (prog:=prog) (w:=w)$ n.perm ?_];let q:=G.map λp=>(a[p]?).getD ((0:Int),Ω);rw[Js]at q;assumption
  .let q:=G.map λp=>(a[p]?).getD ((0:Int),Ω);rw[Js]at q;exact(q.map _).trans M
 .rename_i z
  let B:¬(!(w.params.followText "set-order")&&(!t.plain&&decide (a.size > 1)))=μ:=z;erw[Om$ Op ?_];erw[Om ?_];unfold setEpoch;erw[Om$ Ro H m u$ Op ?_];erw[Om$ Pd$ Op #[_,Z,"set_iterator",_,#[_,Oy _ Z,Z],kh.lookup,h _ _ ?_]];let k:∀b∈[-s,S],b=S∨-s<=b:=λb r=>by
   simp only[RF,O5,TH]at r;rcases r with e |e
   .subst e;rwa[.inr (Ou _)]
   .rwa[.inl e]
  let l:∀U:hG,-s < (s.heap.push U).objs.size:=λU=>by rw[Pn];rwa[P8 _]
  cases K:w.params.followText "set-order" with
  |true=>
   let pl:(pickOrder (w.params.setOrder S x) a).toList.length=a.size:=by rw[(ky _ _).length_eq,OT]
   refine#[[-s,S],(pickOrder (w.params.setOrder S x) a).toList.map λe=>nB e.2,oI (pickOrder (w.params.setOrder S x) a).toList,
    (λi f=>cR f.heap (-s) (.int (0:Nat) 0) i S a.size x/\f.heap.get? S=δ o),λb o e=>Oo _ e,Z,Z,Ou _,Ou _,l _,#[_,Oy _ Z,Z],k,
    λT D=>?_,#[#[_,Oy _ Z,Z,Z],Oo _ H],?_,?_]
   .let q:=uK (prog:=prog) (w:=w) D K (-s) S (OH v) m u;rw[Oq,pl];rwa[q]
   .rwa[ql (prog:=prog) (w:=w)$ n.perm$ ky _ _]
   .exact((ky _ _).map _).trans M
  |false=>
   let hs:a.size<=1:=by
    rw[K]at B;rcases N with e |e
    .rw[e]at B;simp at B;rwa[B]
    .omega
   refine#[[-s,S],a.toList.map λe=>nB e.2,oI a.toList,
    (λi f=>(∃j:Nat,cR f.heap (-s) (.int j 0) i S a.size x/\(i=0->j=0)/\(i=1->∃p,t.place=(ε [p])/\j=p+1))/\f.heap.get? S=δ o),λb o e=>Oo _ e,Z,Z,Ou _,Ou _,l _,#[_,Oy _ Z,Z],k,
    λT D=>?_,#[#[0,#[_,Oy _ Z,Z,Z],λ_=>Z,λz=>by cases z],Oo _ H],?_,?_]
   .let q:=yS (prog:=prog) (w:=w) D K (-s) S (OH v) m u (by rw[Y,K];rfl) hs;rw[Oq,OT];rwa[q]
   .rwa[ql (prog:=prog) (w:=w) n]
   .rwa[M]
theorem qU:∀(V:xL η) (S:xL ρ),ο V=ο S->(∀(i:Nat) (v:η),V[i]?=δ v->∃x t,S[i]?=δ x/\v=mT x t)->StrsAre V S
 | [],[],_,_=>.nil
 | [],_::_,h,_ |_::_,[],h,_=>by cases h
 |v::V,y::S,h,k=>by let⟨x,t,e,rfl⟩:=k 0 v Z;cases e;rwa[.cons y t$ qU V S (h:) λi u H=>k (i+1) u (H:)]
def QC{S:ζ}(hh:A.handled=θ)(y:dy prog w s.heap S L){Q:xL η->ι->Prop}
  (h:∀a V g,-s<=-a->(∀b o,s.heap.get? b=δ o->a.heap.get? b=δ o)->a.gens=s.gens->a.os=s.os->s.toks<=a.toks->StrsAre V g->g.Perm L->Q V a):π (υ prog w) A (collect$ .ref S) Q E s:=by
 let n:ο L < scanBound:=by let⟨o,es,ep,t,j,M,hd,h0,u,h1,k,hf,hl,h2⟩:=y;rw[<- u.length_eq,Oq,OT];rwa[k]
 unfold collect;erw[Om$ U9$ P6 Uj ?_];rw[Pt Ui];show π _ A.in1 (newList [] >>= λl=>again (.builtin "list.__iadd__" #[[l,.ref S],[]])) _ _ s;erw[Om$ Pd$ Op #[RG R4 _,P6 UB ?_]];rw[Pt R4];show π _ A.in1 (gs (.ref (-s)) (.ref S)$ .ref (-s)) _ _ _;unfold gs;let p:S < -s:=by let⟨o,_,_,_,j,_⟩:=y;rwa[Ox j]
 generalize x:s.heap.push { cls:=.type "list",data:=.seq ([]:xL η).toArray }=H;let gl:H.get? (-s)=δ { cls:=.type "list",data:=.seq ([]:xL η).toArray }:=by rw[<- x];rwa[Oy _ Z]
 let R:dy prog w H S L:=y.at λo e=>by rw[<- x];rwa[Oo _ e]
 let gk:∀b o,s.heap.get? b=δ o->H.get? b=δ o:=λb o e=>by rw[<- x];rwa[Oo _ e]
 let T:Shared.TypeIs ‹H› (.ref S) "set":=by let⟨o,_,_,_,j,M,_⟩:=R;exact#[o,j,M.1]
 erw[Om$ Rt T ?_];let n1:eT (.ref (-s)) (.ref S)=ν:=by simp only[eT,beq_eq_false_iff_ne];rwa[Pq p]
 let n2:(fr "set"==fr "list")=ν:=NP
 let n3:(fr "set"==fr "tuple")=ν:=NP
 simp only[n1,n2,n3,UW,OJ,PX];erw[Om$ Zm (s:=‹H›) R λr I B=>?_];let⟨fp,g,P,St,K,kg,ko,kt,C,h3,h4,D,W,st,hv,u⟩:=B;let G:H.objs.size=-s+1:=by rw[<- x,Pn]
 let f:r.TypeIs (.ref S) "set":=by let⟨o,j,hc⟩:=T;exact#[o,K _ _ j,hc]
 erw[Om$ OV ?_];unfold ls;erw[Om$ Rq f PySem.F.slot_set_len.lookup ?_]
 wp_delta
 erw[Om$ RL (b:=μ) f sub_set_self ?_];show π _ A.in1 (typeOf (Θ S) >>= _) _ _ _;erw[Om$ Rt f$ Op ?_];rw[OB NP];erw[Om$ Ry ?_];let U:=K _ _ gl;erw[Om ?_];show π _ A.in1 (updateSeq (-s) (·.push .none) >>= λ_=>updateSeq (-s) (·.pop)) _ _ _;erw[Om$ TY U Z ?_];let X:=O9 (γ (·.push Ω)) U Z;erw[TY X Z ?_];let g3:=O9 (γ (·.pop)) X Z;let N:¬-s∈fp:=λm=>by
  rcases D _ m with e |e
  .rwa[absurd p (by rw[<- e];rwa[Pr _])]
  .let e':H.objs.size<=-s:=e;omega
 let O:∀b o,b≠-s->r.heap.get? b=δ o->((r.heap.update (-s)$ γ (·.push Ω)).update (-s)$ γ (·.pop)).get? b=δ o:=
  λb o k e=>(OP _ _$ O3 k).trans ((OP _ _$ O3 k).trans e)
 let Y:=W A.in1 (hh:);let hn:ο g<=τ:=by rw[u.length_eq];rwa[Tu n]
 erw[Op #[RG Up _,VW Y hn _ N _ g.length 0 _ _ _ Z (OA _) (Y.frame 0 r _ r.toks st (Ou _) λb k o e=>O b o (λz=>N (z▸k)) e) g3 (V9 P) λa J c m gS d=>?_]];show π _ A (load (-s) >>= _) _ _ a;erw[Om$ Wf gS$ Op$ h a J.toList g (RE$ Ox gS) (λb o e=>?_) ?_ ?_ ?_ ?_ u]
 .let ne:b≠-s:=OH (Ox e);erw[m.heap b o ?_$ O b o ne$ K b o$ gk b o e];simp only[RF,O5,TH,not_or];erw[#[ne,λz=>?_]];let q:-s+1<=I:=G▸C;let q2:=Ox e;rw[z]at q2;rwa[absurd (OM (RD q2) q)$ Pr _]
 .rwa[m.gens.trans kg]
 .rwa[m.os.trans ko]
 .rwa[OK kt m.toks]
 .erw[qU _ _ (by rw[OT,d.1]) λi v e=>hv i v (d.2 i v (by rw[Ra]at e;assumption))]
end
section
#print v
def XJ{S:ζ}(z:A.handled=θ)(B:dy prog w s.heap S L)(j:ο L < 64){Q:η->ι->Prop}
  (h:∀f a c v i,-s<=a->(∀b o,s.heap.get? b=δ o->f.heap.get? b=δ o)->f.gens=s.gens->f.os=s.os->f.heap.get? a=δ (seqObj "list" v c)->StrsAre v.toList i->i.Perm L->sortedS i=μ->Q (.ref a) f):
  π (υ prog w) A (call (.builtin "sorted") [.ref S]) Q E s:=by
 erw[RX UP Uw Ux (Uy _) ?_];unfold dO.«sorted»;erw[Om (m:=checkCount "sorted" 1 1 _)$ Op ?_];erw[Om$ QC (z:) B λd v i K k C D P H r=>?_];let F:ο v < 64:=by rw[<- _L.StrsAre.len H,r.length_eq];rwa[j]
 erw[Om$ Sj ?_ (by let q:τ=1000000000∨64<=τ:=.inr NP;omega)];let g:=Oy d.heap (o:=seqObj "list" v.toArray 0) Z;erw[Om$ OV$ O7 Ub #[_,g,Z] T3 (list_sort_treeK strKind_oneLt g H.keysOf (λV t R e=>keyKind_strs (by rw[<- e];rwa[H])) F λl G I=>#[_,Z,?_]) (Ue _)];let⟨n,u,J,M⟩:=sorted_out_str H G I;generalize (arrOf l).map (·.2)=out at u ⊢;let⟨c,N⟩:=sortedHeap_at (out:=out) g;let O:∀b o,s.heap.get? b=δ o->(sortedHeap (d.heap.push$ seqObj "list" v.toArray 0) (-d) v out).get? b=δ o:=by
  intro b o e;let x:=k b o e;let y:b < -d:=Ox x;let p:b < (d.heap.push$ seqObj "list" v.toArray 0).objs.size:=by rw[Vd];rwa[RD y]
  rw[sortedHeap_old (OH y) p];rwa[Oo _ x]
 rwa[Op #[_,Z,h { d with heap:=sortedHeap (d.heap.push$ seqObj "list" v.toArray 0) (-d) v out } (-d) c out n K O C D N u (J.trans r) M]]
end
def JD(h:StrsAre v s):aG (s.map tT) v:=by
 induction h with
 |nil=>rwa[.nil]
 |cons y t _ i=>rwa[.cons #[t,Z] i]
def LJ(P:ψ)(w:bF)(a:ζ)(L:xL ρ):HO:=.ext λh=>dy P w h a L
section
variable {X:Cx}
def qm(i:X.calm=μ):fo X (.builtin "sorted") (λx H Q=>∃(p:ζ) (L:xL ρ),x=[.ref p]/\H p=δ (LJ X.prog X.w p L)/\ο L < 64/\
  ∀l S,H l=θ->S.Perm L->L.Nodup->sortedS S=μ->Q (.ref l) (af H l$ .lst$ S.map tT)):=by
 intro P s B H x U Q I r h;let⟨p,L,rfl,j,d,q⟩:=h;let⟨u,rfl,R⟩:=gr r;cases R;let⟨f,_,_⟩:=I.hok p _ j;let b:L.Nodup:=by let⟨_,_,_,_,_,_,_,_,_,b,_⟩:=f;rwa[b]
 erw[XJ (I.ok.hd i) f d λm a c v S e k K o t y g A=>?_];let len:(S.map tT).length<=τ:=by rw[Oq,g.length_eq];rwa[OK (RE d) NP]
 let n:a6 X.prog X.w (af H a$ .lst$ S.map tT) m.heap a (.lst$ S.map tT):=#[len,v.toList,c,JD y,t];erw[#[.ref a,_,I.call' (ch:=[]) o (Un.laid k e$ I.hok.fresh e) (I.hok.laid k e n) (by rw[K];rwa[I.bare]) (λ_ z=>nomatch z),Z,q _ _ (I.hok.fresh e) g b A]]
def XL:fo X (.builtin "sorted") (λx H Q=>∃(p:ζ) (a:xL ρ),x=[.ref p]/\aL X.K H p (a.map tT)/\ο a < 64/\
  ∀l S,H l=θ->S.Perm a->sortedS S=μ->Q (.ref l) (af H l$ .lst$ S.map tT)):=by
 intro P s v H x U Q I r h;let⟨p,a,rfl,f,b,q⟩:=h;let⟨u,rfl,R⟩:=gr r;cases R;let⟨i,g,j,y⟩:=I.list f;let d:=qj g;let k:ο i=ο a:=(_L.StrsAre.len d).symm;erw[sorted_strs j.isList d (by rw[k];rwa[b]) λo S m A n=>?_];let⟨c,t⟩:=sortedAll_at s.heap i o;let len:(S.map tT).length<=τ:=by rw[Oq,A.length_eq];rwa[OK (RE b) NP]
 erw[#[.ref$ -s+1,_,I.laid (t':=s.toks) (λ_ _ e=>sortedAll_old e) (PY _) (show a6 X.prog X.w _ _ _ (.lst$ S.map tT) from #[len,o.toList,c,JD m,t]),Z,q _ _ (I.hok.fresh$ PY _) A n]]
end
def ZX:mroOf (.type "reversed")=pure [.type "reversed",.type "object"]:=by rw[mroOf_type];kernel_rfl
def Qp:typeLookup (.type "reversed") "__new__"=pure (δ$ .builtin "reversed.__new__"):=by rw[P5,Pl];kernel_rfl
def QD:Slot "reversed" "__init__" "object.__init__":=by
 erw[.of (owner:="object") (n:="__init__") ?_ NM NM NM ?_ ?_]
 .rw[P5,Pl];kernel_rfl
 .first |exact .inl NM |exact .inr NM
 .rw[Rm];kernel_rfl
def Zn:TypeCalled "reversed" "reversed.__new__" "object.__init__":=by erw[#[NM,NM,#[_,_,ZX],madeBy_type ZX Qp NM,NM,?_,QD]];rw[Rm];kernel_rfl
def XN(a:η):checkTypeCall "reversed" #[[a],[]]=pure ():=by kernel_rfl
def YI(a:η):checkBuiltinCall "reversed.__new__" #[[.type "reversed",a],[]]=pure ():=by kernel_rfl
def QE:entryFor table "reversed.__new__"=δ dO.«reversed.__new__»:=TR (by kernel_rfl)
def Cu:isSubtype (.type "reversed") (.type "reversed")=pure μ:=by rw[Rm];kernel_rfl
def XO:typeLookup (.type "tuple") "__reversed__"=pure θ:=by rw[P5,Pl];kernel_rfl
def Qq:isSubtype (.type "tuple") (.type "dict")=pure ν:=by rw[Rm];kernel_rfl
def revObj(t:ζ)(n:Int):hG:={ cls:=.type "reversed",data:=.fields (ε [.ref t,.int (n - 1) 0]) }
section
#print v
def vf{Q:η->ι->Prop}(H:IsTup s.heap t i)(c:(i.size:Int) < 2 ^ 63)
  (h:Q (.ref (-s)) { s with heap:=s.heap.push (revObj t i.size),toks:=s.toks+1+1 }):π (υ prog w) A (call (.type "reversed") [.ref t]) Q E s:=by
 refine VC (S:=λ_ R a=>a=s/\R (.ok$ .ret$ .ref (-s)) { s with heap:=s.heap.push (revObj t i.size),toks:=s.toks+1+1 }) Zn NP (XN _) (YI _) (λo=>SI o _) QE
  (.of_wp λp W f R a d=>?_) #[Z,#[_,Oy _ Z,Z],h]
 let⟨rfl,e⟩:=d;unfold dO.«reversed.__new__» Builtin.SmallTypes.newClass;erw[Om ?_];dsimp only;erw[Om$ Op ?_];simp only[SE,OJ,PX];erw[Om$ Ts Cu ?_];simp only[SE,OJ,PX];erw[Op ?_];erw[Om (m:=Builtin.SmallTypes.refuseKeywords _ _ _)$ Op ?_];erw[Om (m:=checkCount "reversed" 1 1 _)$ Op ?_];dsimp only;erw[Om$ Rq H.typeIs XO ?_];dsimp only;erw[Om ?_];show π _ _ (isInstance (.ref t) (.type "dict") >>= _) _ _ _;erw[Om$ RL (b:=ν) H.typeIs Qq ?_];simp only[OJ,PX];erw[Om$ Rq H.typeIs PyProof.Rows.slot_tuple_getitem.lookup ?_];dsimp only;rw[OB NM];erw[Op ?_];simp only[SE,OJ,PX];erw[Om$ len_tuple H c ?_];erw[Om (m:=asInt? _)$ Op ?_];dsimp only;show π _ _ (newObj (.type "reversed") (.fields [Θ t,rawInt ((i.size:Int) - 1)].toArray) >>= _) _ _ _;rwa[Om$ Pd$ Op #[_,Z,e]]
end
def zW:Slot "reversed" "__next__" "reversed.__next__":=by
 erw[.of (owner:="reversed") (n:="__next__") ?_ NM NM NM ?_ ?_]
 .rw[P5,Pl];kernel_rfl
 .first |exact .inl NM |exact .inr NM
 .rw[Rm];kernel_rfl
def qV:Slot "reversed" "__iter__" "reversed.__iter__":=by
 erw[.of (owner:="reversed") (n:="__iter__") ?_ NM NM NM ?_ ?_]
 .rw[P5,Pl];kernel_rfl
 .first |exact .inl NM |exact .inr NM
 .rw[Rm];kernel_rfl
def Qr:entryFor table "reversed.__next__"=δ dO.«reversed.__next__»:=TR (by kernel_rfl)
def Qs:entryFor table "reversed.__iter__"=δ dO.«dict_keyiterator.__iter__»:=by erw[Ud (id':="dict_keyiterator.__iter__") ?_ Z NM ?_]<;>kernel_rfl
def QF(a:η):argsOk "reversed.__next__" #[[a],[]]:=by unfold argsOk;kernel_rfl
def QG(a:η):argsOk "reversed.__iter__" #[[a],[]]:=by unfold argsOk;kernel_rfl
def eK(h:de)(I t:ζ)(k:Int):Prop:=∃o,h.get? I=δ o/\o.cls= .type "reversed"/\o.data= .fields (ε [.ref t,.int k 0])
def eK.at{H:de}(x:eK h I t k)(e:∀o,h.get? I=δ o->H.get? I=δ o):eK H I t k:=by let⟨o,a,r⟩:=x;rwa[#[o,e o a,r]]
def eK.is{s:ι}(x:eK s.heap I t k):s.TypeIs (.ref I) "reversed":=by let⟨o,h,H,_⟩:=x;rwa[#[o,h,H]]
section
#print v
def X8(H:eK s.heap I t k)
  (h:π (υ prog w) A.in1 (dO.«reversed.__next__» #[[.ref I],[]]) (λf S=>∃v,f= .done (.ret v)/\Q (δ v) S) (λe S=>S.TypeIs e "StopIteration"/\Q θ S) s):
  π (υ prog w) A (pyNext$ .ref I) Q E s:=by
 unfold pyNext;erw[Om$ Sl$ Pa (name:=Str.ofString "__next__") H.is zW$ O7 zW H.is Qr ?_$ QF _];erw[Px h (λf S q=>?_) λe S q=>?_]
 .let⟨v,e,q⟩:=q;exact#[v,e,Op q]
 .rwa[Om$ RL (T:="StopIteration") (b:=μ) q.1 Uc$ Op q.2]
def Ip{I t:ζ}{k:Nat}{items:Array η}{x:η}{Q:ym η->ι->Prop}(H:eK s.heap I t k)(c:IsTup s.heap t items)(d:items[k]?=δ x)(e:(items.size:Int) < 2 ^ 63)
  (f:∀b,eK b I t ((k:Int) - 1)->fx I s.heap b->Q (δ x) { s with heap:=b,toks:=s.toks+1 }):π (υ prog w) A (pyNext$ .ref I) Q E s:=by
 erw[X8 H ?_];let⟨o,a,g,h⟩:=H;let i:k < items.size:=(ab.mp d).1;show π _ _ (field (.ref I) 0 >>= _) _ _ s;erw[Om$ O0 a h (x:=.ref t) Z$ Om$ O0 a h (x:=.int k 0) Z ?_];dsimp only;rw[OD NO];erw[Om$ Rq c.typeIs PyProof.Rows.slot_tuple_getitem.lookup ?_];simp only[Vh,OJ,PX];erw[Om$ wpAny_mkInt$ Om$ Sl ?_];erw[getItem_tuple (s:={ s with toks:=s.toks+1 }) c NO NO (j:=k) ?_ d ?_]
 .unfold seqIndex?;simp;omega
 erw[Om$ O0 (s:={ s with toks:=s.toks+1 }) a h (x:=.int k 0) Z ?_];dsimp only;erw[Om$ Pp a h NN$ Op #[x,Z,f _ ?_$ Rl ..]];exact#[_,O9 _ a$ PM$ O6 h _,(Sr ..).trans g,by rw[O6 h];simp [rawInt]]
def tM(f:A.handled=θ){Q:ym η->ι->Prop}(h:eK s.heap I t (-1))
  (g:∀a,(∀b o,b≠I->s.heap.get? b=δ o->a.get? b=δ o)->Q θ ‹a›):π (υ prog w) A (pyNext$ .ref I) Q E s:=by
 erw[X8 h ?_];let⟨o,c,j,H⟩:=h;show π _ _ (field (.ref I) 0 >>= _) _ _ s;erw[Om$ O0 c H (x:=.ref t) Z$ Om$ O0 c H (x:=.int (-1) 0) Z ?_];dsimp only;rw[OB NP];erw[Om$ Ry$ Om ?_];show π _ _ (setField (.ref I) 1 (rawInt (-1)) >>= λ_=>setField (.ref I) 0 .none) _ _ _;erw[Om$ Pp c H NN ?_];erw[Pp (O9 _ c$ PM$ O6 H _) (O6 H _) NN ?_];erw[Om ?_];erw[Kf (s:=‹_›) (f:) λa e k T=>#[T,g a λb o d i=>k b o ?_]];exact(OP _ _$ O3 d).trans ((OP _ _$ O3 d).trans i)
def Dh(H:eK s.heap I t k){Q:η->ι->Prop}(h:Q (.ref I) s):π (υ prog w) A (pyIter$ .ref I) Q E s:=by erw[Uv H.is qV$ O7 qV H.is Qs ?_$ QG _];show π _ _ (ret$ .ref I) _ _ s;rwa[Op #[_,Z,"reversed",_,H.is,zW.lookup,h]]
end
def J6:entryFor table "dict.update.loop"=δ dO.«dict.update.loop»:=TR (by kernel_rfl)
def zP:plainId "dict.update.loop"=μ:=NM
section
variable {X:Cx}{o lo hi:dr}{to tl th:TE}{pos p2:Pos}
inductive Ie(v:V)(h:St)(Q:St->Hp->Prop)(e a c:V)(d:Hp):Prop
 |mk(l b f g i j:_)(_:e= .ref l)(_:v= .ref b)(_:a= .int i)(_:c= .int j)(_:d l=δ (.lst f))(_:d b=δ (.lst g))(_:l≠b)(_:0<=i)(_:i<=j)(_:j<=(f.length:Int))(_:ο f+ο g<=τ)(_:Q h (af d l (.lst (f.take i.toNat++g++f.drop j.toNat))))
def Nr(to tl th:TE):TG:=λv b H Q=>to b H λO h=>tl b h λa c=>th b c (Ie v b Q O a)
def xo(n:PE X o to)(t:PE X lo tl)(w:PE X hi th)
  (A:∀v,assign (.Subscript o (.Slice (δ lo) (δ hi) θ p2) pos) X.env v=(do
   let O <- mB [v] (eval o X.env)
   let c <- mB [v,O] (eval (.Slice (δ lo) (δ hi) θ p2) X.env)
   standAt pos
   mB [v,O,c] (setItem O c v)
   release [c,v,O] []):=by intro _;rfl):PG X (.Subscript o (.Slice (δ lo) (δ hi) θ p2) pos) (Nr to tl th):=by
 intro p s a H v u Q I r h;rw[A];erw[Om$ OV$ a8 (n p s a H _ I h) λO B d=>?_];let⟨x,C,D,R,E⟩:=d;erw[Om$ OV ?_];erw[wpAny_Slice$ a8 (t p B a C _ D E) λV F #[y,G,J,K,L]=>a8 (w p F a G _ J L) λm S f=>?_];let⟨z,M,N,P,l,b,xs,ys,i,j,T,U,W,Y,h1,h2,g,h0,k,hj,hz,q⟩:=f;subst T U W Y;cases (show O=Θ l from R);cases (show u=Θ b from r);erw[Op ?_];let I4:ax X p a M { S with heap:=S.heap.push { cls:=.type "slice",data:=.fields (ε [V,m,.none]) } }:=N.kept (t':=S.toks) λb o e=>Oo _ e;erw[Om$ RU$ Om$ OV ?_];rwa[uG I4 h1 h2 g (Ut S.heap V m .none) K P h0 k hj hz λs5 I5=>wpAny_release #[a,_,I5,q]]
end
end _L
namespace _L
open PySem PySem.Spec PyProof.Rows Builtin Builtin.Str
section
#print v
def JG{lo:ym Int}{Q:η->ι->Prop}(H:IsTup s.heap t i)(d:s.heap.IsSliceOf e v j .none)(p:IsPart v lo)(P:IsPart j f)
  (g:HT.sIx i.size 0 lo=0/\HT.sIx i.size i.size f=i.size) (h:Q (.ref t) s):π (υ prog w) A (getItem (.ref t)$ .ref e) Q E s:=by
 let⟨os,a,b,k⟩:=id d;let c:s.TypeIs (.ref e) "slice":=#[os,a,b];unfold getItem;try with_reducible erw[OV ?_]
 first |refine Om (Op ?_) |skip
 erw[Om$ Uu H.typeIs NP ?_];refine Om (Pa (name:=Str.ofString "__getitem__") H.typeIs Ru
  (O7 Ru H.typeIs PyProof.Rows.entry_tuple_getitem ?_$ PyProof.Rows.args_tuple_getitem _ _))
 show π _ _ (pz (.ref t) >>= _) _ _ s;erw[Om$ Y' H ?_];erw[Om$ Rt c ?_];rw[OB NP];erw[Om$ HT.sliceApplied_gen d p P ?_];show π _ _ (if (((HT.sIx i.size 0 lo:Nat):Int)==0&&(1:Int)==1&&(HT.sIx i.size i.size f - HT.sIx i.size 0 lo)==i.size)=μ then _ else _) _ _ s;rw[g.1,g.2,OB NN];unfold Builtin.Tuple.tupleIsExact;erw[Om$ Om$ Rt H.typeIs$ Op ?_];rw[OB NP];first
  |exact Ry (Op #[_,Z,Op h])
  |exact Om (Ry (Op #[_,Z,Op h]))
  |exact Om (Op (Op #[_,Z,Op h]))
end
section
variable {X:Cx}
inductive xA(x y:V)(H:Hp)(Q:VK):Prop
 |mk(a b c d:_)(_:x= .ref a)(_:y= .ref b)(_:H a=δ (.tup c))(_:H b=δ (.tup d))(_:ο c+ο d<=τ)(_:∀r H',H' r=δ (.tup (c++d))->aa H H'->Q (.ref r) H')
def jU:fq X (binaryOp .Add) xA:=by
 intro P s G H x y v u Q I r R h;let⟨a,b,m,Y,rfl,rfl,d,f,J,q⟩:=h;let t:=aF.of (K:=X.K) d;let w:=aF.of (K:=X.K) f;by_cases z:m=[]
 .subst z;cases r;cases R;let⟨l,L,M,_⟩:=I.tuple t;let⟨i,r2,N,_⟩:=I.tuple w;let O:l=[]:=L.nil_iff.mpr Z;subst O;obtain⟨⟨T,U,A,V⟩,B,C,n,E⟩:=id M;obtain⟨⟨F,D,data2,S⟩,g,j,W,k⟩:=id N;simp only at C E j k;subst C E j k;exact VA #[_,B,Z] #[_,g,Z] UH Vm Tc SW (SV _ _)
   (tuple_addW0 a b ([]:xL η).toArray i.toArray n W U D V S Z) #[B,g,.ref b,H,I,Z,q b H f$ aa.refl H]
 .refine Bv P s G H _ _ v u Q I r R #[a,b,m,Y,Z,Z,t,w,z,J,λe=>?_,λ_ p np=>?_]
  .subst e;rwa[q a H (by rw[O2];rwa[d])$ aa.refl H]
  .exact q p _ jc λc o e=>by rw[jh$ jk e np];rwa[e]
inductive FJ(x:V)(c b:ym Int)(H:Hp)(Q:VK):Prop
 |mk(a d:_)(_:x= .ref a)(_:H a=δ (.tup d))(_:∀r H',H' r=δ (.tup (aT d c b))->aa H H'->Q (.ref r) H')
def kc:LI X FJ:=by
 intro P s u H x v V w lo j S Q I R k l m h;let⟨a,b,rfl,d,q⟩:=h;let n:=aF.of (K:=X.K) d;by_cases g:HT.sIx b.length 0 lo=0/\HT.sIx b.length b.length j=ο b
 .cases R;let⟨i,r,t,y⟩:=I.tuple n;let f:i.toArray.size=ο b:=by rw[Ov];exact r.length.symm
  erw[#["tuple",_,PyProof.Rows.slot_tuple_getitem.lookup,t.typeIs,?_]];erw[JG t k l m (by rw[f];rwa[g]) #[.ref a,H,I,Z,q a H ?_$ aa.refl H]];rw[d];unfold aT;rw[g.1,g.2,UE,SQ,Pg]
 .rwa[Gi P s u H _ v V w lo j S Q I R k l m #[a,b,Z,n,g,λp N=>q p _ jc λc o e=>by rw[jh$ jk e N];rwa[e]]]
end
end _L
namespace _L
open PySem PySem.Spec PyProof.Rows
def CV{G:Bool->Hp->Prop}(y:G μ H)(n:b=ν->G b H):G b H:=by
 cases b
 .rwa[n Z]
 .rwa[y]
def aX{A:Prop}(h:∀G:Prop,(A->G)->G):A:=h A λz=>z
section
variable {t u:TS}{D:bp}{σ:St}{H:Hp}
def gO(h:∀E:bp,(∀a b,u D a b->E.nx a b)->t E σ H):fh t u D σ H:=h { D with nx:=u D } λ_ _ h=>h
def ah(h:∀F:St->Hp->Prop,(∀a b,u D a b->F a b)->t { D with nx:=F } σ H):fh t u D σ H:=h _ λ_ _ h=>h
def pU{c:TT}(h:∀F:Bool->Hp->Prop,(∀b a,(if b=μ then t D σ a else u D σ a)->F b a)->c σ H F):lQ c t u D σ H:=h _ λ_ _ x=>x
def oU{c:TT}(h:∀F:Bool->Hp->Prop,(∀a,t D σ a->F μ a)->(∀a,u D σ a->F ν a)->c σ H F):lQ c t u D σ H:=by
 erw[h _ (λa x=>?_) λa x=>?_]
 .show if μ=μ then _ else _;rw[OB Z];rwa[x]
 .show if ν=μ then _ else _;rw[OD NP];rwa[x]
def dX(R:St->Hp->Prop)(c:∀E:bp,E.rt=D.rt->(∀a b,R a b->E.nx a b)->t E σ H)(d:∀a b,R a b->D.nx a b):Lq t D σ H:=#[R,c { D with nx:=R } Z λ_ _ h=>h,d]
def nC{c:TT}{T:TS}(W:Nat->St->Hp->Prop)(d:Nat)(e:W d σ H)
  (f:∀m σ H,∀E:bp,E.rt=D.rt->(∀M a b,M < m->W M a b->E.nx a b)->∀F:Bool->Hp->Prop,(∀b,T E σ b->F μ b)->(∀b,D.nx σ b->F ν b)->∀G:Prop,(c σ H F->G)->W m σ H->G):yL c T D σ H:=by
 erw[#[W,#[d,e],λm σ H w=>?_]];erw[f m σ H { D with nx:=λa b=>∃M,M < m/\W M a b,ct:=λa b=>∃M,M < m/\W M a b,bk:=D.nx } Z (λM a b l g=>#[M,l,g]) _ (λb x=>?_) (λb x=>?_) _ (λz=>z) w]
 .show if μ=μ then _ else _;rw[OB Z];exact#[_,λ_ _ h=>h,x]
 .show if ν=μ then _ else _;rw[OD NP];rwa[x]
def sJ(J:It)(g:TG)(T:TS)(D:bp)(σ:St)(H:Hp):Prop:=∃W:Nat->Nat->St->Hp->Prop,(∃m,W 0 m σ H)/\∀i m σ H,W i m σ H->
 (J.stop i H/\D.nx σ H)∨(J.go i H/\∃N:St->Hp->Prop,(∀a h,N a h->∃M,M < m/\W (i+1) M a h)/\∀x h,J.yld i H x h->g x σ h λb c=>T { D with nx:=N,ct:=N,bk:=D.nx } b c)
def fQ{w:TI}(h:∀F:It->Hp->Prop,(∀J a,sJ J g T D σ a->F J a)->w σ H F):Gu w g T D σ H:=h _ λ_ _ z=>z
def NC{g:TG}{Q:St->Hp->Prop}(h:∀F:St->Hp->Prop,(∀a b,Q a b->F a b)->g x σ H F):g x σ H Q:=h _ λ_ _ z=>z
def zj{lo:Int}{g:TG}{T:TS}{D:bp}{σ:St}{H:Hp}(Pv:Nat->St->Hp->Prop)(d:Pv 0 σ H)
  (e:∀E:bp,E.rt=D.rt->∀i σ H,i < n->(∀a c,Pv (i+1) a c->E.nx a c)->∀G:Prop,((g (.int$ lo+i) σ H λb f=>T E b f)->G)->Pv i σ H->G) (j:∀σ H,Pv n σ H->D.nx σ H):sJ (uS lo n) g T D σ H:=
 QT Pv d (λi σ H k p=>e { D with nx:=Pv (i+1),ct:=Pv (i+1),bk:=D.nx } Z i σ H k (λ_ _ h=>h) _ (λz=>z) p) j
def JS{K:β}{a:ζ}{xs:xL V}{g:TG}{T:TS}{D:bp}{σ:St}{H:Hp}(Pv:Nat->St->Hp->Prop)(e:Pv 0 σ H)(f:∀i σ H,i<=ο xs->Pv i σ H->aL K H a xs)
  (j:∀E:bp,E.rt=D.rt->∀i x σ H,xs[i]?=δ x->(∀b d,Pv (i+1) b d->E.nx b d)->∀G:Prop,((g x σ H λc k=>T E c k)->G)->Pv i σ H->G) (l:∀σ H,Pv xs.length σ H->D.nx σ H):sJ (y8 K a) g T D σ H:=
 vP Pv e f (λi x σ H m p=>j { D with nx:=Pv (i+1),ct:=Pv (i+1),bk:=D.nx } Z i x σ H m (λ_ _ h=>h) _ (λz=>z) p) l
def KR{K:β}{xs:xL V}{g:TG}{T:TS}{D:bp}{σ:St}{H:Hp}(Pv:Nat->St->Hp->Prop)(e:Pv 0 σ H)(f:∀i σ H,i<=ο xs->Pv i σ H->aF K H a xs)
  (j:∀E:bp,E.rt=D.rt->∀i x σ H,xs[i]?=δ x->(∀b d,Pv (i+1) b d->E.nx b d)->∀G:Prop,((g x σ H λc k=>T E c k)->G)->Pv i σ H->G) (l:∀σ H,Pv xs.length σ H->D.nx σ H):sJ (Ai K a) g T D σ H:=
 AN Pv e f (λi x σ H m p=>j { D with nx:=Pv (i+1),ct:=Pv (i+1),bk:=D.nx } Z i x σ H m (λ_ _ h=>h) _ (λz=>z) p) l
end
end _L
namespace _L
open PySem PySem.Spec PyProof.Rows PySem.SeqAt
section
#print v
def Zo{P:Fin->ι->Prop}(H:s.heap.get? a=δ (seqObj "list" [v].toArray n))
  (h:P (.done$ .ret .none) ‹sortedHeap s.heap a [v] (ε [v])›):π (υ prog w) A (dO.«list.sort» #[[.ref a],[]]) P E s:=by
 rw[UX];erw[Om$ Vz H Z ?_];erw[Om$ SM H Z ?_];obtain⟨e,b⟩:∃e,(s.heap.update a$ γ λ_=>(ε [])).get? a=δ (seqObj "list" (ε []) e):=#[_,UY H (λ_=>(ε []))];erw[Om$ Tt b Z ?_];erw[Om$ Sw ?_];erw[Om$ Sj ?_];erw[OV ?_];let g:(((s.heap.update a$ γ λ_=>(ε [])).push$ seqObj "tuple" [v].toArray 0).push$ seqObj "list" (ε []) 0).get? a=δ (seqObj "list" (ε []) e):=Oo _ (Oo _ b);show π (υ prog w) A _ P E ‹((s.heap.update a$ γ λ_=>(ε [])).push$ seqObj "tuple" [v].toArray 0).push (seqObj "list" (ε []) 0)›;dsimp only;let S:[v].toArray.size < 2:=by show 1 < 2;decide
 rw[OB S,OB S];erw[Om$ Op ?_];rw[VD];erw[Om$ Op ?_];dsimp only;erw[Om$ Tt g Z ?_];let c:(arrOf$ SortSt.mk' general' ([v].toArray.zip [v].toArray) (ε []) 7 θ).map (·.2)=(ε [v]):=by show([v].toArray.zip [v].toArray).map (·.2)=(ε [v]);simp
 rw[c];erw[Om$ SM g Z ?_ (hsz2:=by show 1<=τ+1;omega)];simp only[P7,OJ,PX];rwa[Op h]
def Cn{Q:η->ι->Prop}(H:s.heap.IsList l [v].toArray)
  (h:Q (.ref$ -s+1) ‹sortedAll s.heap [v] (ε [v])›):π (υ prog w) A (call (.builtin "sorted") [.ref l]) Q E s:=by
 erw[RX UP Uw Ux (Uy _) ?_];unfold dO.«sorted»;erw[Om (m:=checkCount "sorted" 1 1 _)$ Op ?_];erw[Om$ VB H ?_];erw[Om$ Sj ?_];let z:((s.heap.push$ seqObj "list" (ε []) 0).update (-s)$ γ (·++[v].toArray)).objs.size=-s+1:=by rw[Ul,Vd]
 let g:(((s.heap.push$ seqObj "list" (ε []) 0).update (-s)$ γ (·++[v].toArray)).push$ seqObj "list" [v].toArray 0).get? (-s+1)=δ (seqObj "list" [v].toArray 0):=by rw[<- z];rwa[Oy _ Z]
 show π _ _ _ _ _ ‹((s.heap.push$ seqObj "list" (ε []) 0).update (-s)$ γ (·++[v].toArray)).push (seqObj "list" [v].toArray 0)›;rw[z];erw[Om$ OV$ O7 Ub #[_,g,Z] T3 (Zo g #[_,Z,?_]) (Ue _)];rwa[Op #[_,Z,h]]
end
inductive Tr where
 |lf (v:V) |tp (l:Tr) |nil |cons (h t:Tr)
def Tr.dep:Tr->Nat
 | .lf _=>0
 | .tp l=>l.dep+1
 | .nil=>0
 | .cons h t=>max h.dep t.dep
def Tr.isL:Tr->Bool
 | .nil | .cons _ _=>μ
 |_=>ν
def Nw:V->Bool
 | .byt _ | .flt _=>ν
 |_=>μ
end _L
namespace _L
open PySem PySem.Spec PyProof.Rows
def L9(K:β)(a:ζ)(n:Nat):It:=
 #[λi H=>∃X x,aF K H a X/\ο X=n/\X.reverse[i]?=δ x,λi H x h=>h=H/\∀X,aF K H a X->X.reverse[i]?=δ x,λi H=>∃X,aF K H a X/\ο X=n/\i=n]
def yO{P:ψ}{K:β}(a f:ζ)(n:Nat):oO P w K tg (L9 K a n) [f] f (λi h=>eK h f a ((n:Int) - 1 - i)) where
 mem:=by simp
 obj:=λi h st b j=>by
  let e:b=f:=by simpa using j
  subst e;let⟨o,e,c,d⟩:=st;exact#[o,e,λv z=>by rw[d]at z;cases z]
 keep:=λi h q st k=>st.at λo e=>k f NN o e
 item:=by
  intro X y A B O i g s Q H E I t st C;subst y A B;let⟨l,x,D,T,m⟩:=C;let⟨r,R,p,hz⟩:=I.tuple D;let hl:=R.length;let U:=gf;let V:i < ο l:=by
   rcases Tx i l.length with z |z
   .rwa[z]
   .rw[Pk (z:)]at m;cases m
  let F:l[ο l - 1 - i]?=δ x:=by rw[Sv V]at m;rwa[m]
  let⟨u,W,Y⟩:=R.get F;let⟨G,J,f2,L,M,N⟩:=t f NN;let e:((n:Int) - 1 - i)=((ο l - 1 - i:Nat):Int):=by rwa[N09]
  rw[e]at st;erw[Ip (items:=r.toArray) st (show IsTup s.heap a r.toArray from p) (x:=u) (W:) (by simp only[Ov];omega) λq S sb=>?_];let I1:ax X g Q H { s with heap:=q,toks:=s.toks+1 }:=I.turned (t':=s.toks+1) (λb o j e=>(sb.2 b j).trans e) G J L M N;let⟨o,e',c,d⟩:=id S;erw[#[u,Z,ZF (s:={ s with heap:=q,toks:=s.toks+1 }) e' c d NP #[x,H,I1,Y,#[Z,λys hy=>by rw[I.tuple_inj hy D];rwa[m]],?_,λb j=>(t b j).1]]];let e2:((n:Int) - 1 - ((i+1:Nat):Int))=((ο l - 1 - i:Nat):Int) - 1:=NO
  show eK q f a ((n:Int) - 1 - ((i+1:Nat):Int));rw[e2];rwa[S]
 done:=by
  intro X y A B O i g s Q H E I t st C;subst y A B;let⟨l,D,T,m⟩:=C;let⟨G,J,f2,L,M,N⟩:=t f NN;let e:((n:Int) - 1 - (i:Int))= -1:=NO
  rw[e]at st;rwa[tM (I.ok.hd O) st λq eb=>#[Z,I.turned (t':=s.toks) (λb o j e=>eb b o j e) G J L M N]]
 self:=λ_ _ _ _ _ st h=>Dh st h
section
variable {X:Cx}{tg:dr}
inductive De(K:β)(R:It->Hp->Prop)(x:V)(b:Hp):Prop
 |mk(a c:_)(_:x= .ref a)(_:aF K b a c)(_:R (L9 K a c.length) b)
def Ms(K:β)(t:TE):TI:=λa H R=>t a H (De K R)
def xp{e:dr}{t:TE}{c:ρ}{p P:Pos}(j:Gl X c)(k:X.mg c=θ)(l:bootBuiltins c=δ (.type "reversed"))(y:PE X e t)(m:↥(c≠"__name__"))(n:↥((c==("__debug__":ρ))=ν))
  (r:↥(Δ [e] X.env=(ν,eval e X.env)::Δ [] X.env)) (A:↥((fy P$ Δ [] X.env).any (·.1)=ν)):PI X tg (.Call (.Name c p) [e] [] P) (Ms X.K t):=by
 intro d s B H R I h;erw[Py$ zQ I j k l ?_ m n];erw[Pf ?_ r A];rw[r];show π _ _ (spliced ((ν,eval e X.env)::fy P (Δ [] X.env))) _ _ s;erw[Rr$ a8 (y d s B H _ I h) λu S z=>?_];let⟨x,C,g,D,a,v,E,F,q⟩:=z;subst E;cases (show u=Θ a from D);let⟨i,G,J,N⟩:=g.tuple F;let f:=G.length;let L:=gf;erw[RQ$ vf (show IsTup S.heap a i.toArray from J) (by simp only[Ov];omega) ?_];let w:eK (S.heap.push$ revObj a i.toArray.size) (-S) a ((v.length:Int) - 1 - ((0:Nat):Int)):=#[_,Oy _ Z,Z,by rw[Ov,<- f];simp [revObj]];erw[Dh (s:={ S with heap:=S.heap.push (revObj a i.toArray.size),toks:=S.toks+1+1 }) w ?_];erw[#[-S,[-S],_,_,C,Z,g.kept (t':=S.toks+1+1) λb o e=>Oo _ e,yO a _ v.length,w,λb M=>?_,q]];let e:b=-S:=by simpa using M
 subst e;rwa[g.fpOk (Ou _)$ g.hok.fresh$ Ou _]
end
def X9{K:β}{xs:xL V}{g:TG}{t:TS}{D:bp}(Pv:Nat->St->Hp->Prop)(k:Pv 0 b H)(l:∀i b H,i<=ο xs->Pv i b H->aF K H a xs)
  (n:∀E:bp,E.rt=D.rt->∀i x b H,xs.reverse[i]?=δ x->(∀c f,Pv (i+1) c f->E.nx c f)->∀G:Prop,((g x b H λj o=>t E j o)->G)->Pv i b H->G) (r:∀b H,Pv xs.length b H->D.nx b H):sJ (L9 K a xs.length) g t D b H:=by
 erw[#[λi m b H=>m=ο xs - i/\i<=ο xs/\Pv i b H,#[xs.length,NN,OA _,k],?_]];rintro i m b H ⟨rfl,s,p⟩;let q:=l i b H s p;by_cases d:i < ο xs
 .erw[.inr #[#[xs,_,q,Z,On (d:)],Pv$ i+1,λc f P=>#[ο xs - (i+1),N09,Z,d,P],λx f y=>?_]];let⟨e,y⟩:=y;subst e;rwa[n { D with nx:=Pv (i+1),ct:=Pv (i+1),bk:=D.nx } Z i x b _ (y xs q) (λ_ _ h=>h) _ (λz=>z) p]
 .let e:i=ο xs:=by omega
  subst e;rwa[.inl #[#[xs,q,Z,Z],r b H p]]
def yu:Slot "list_reverseiterator" "__length_hint__" "list_reverseiterator.__length_hint__":=by erw[Slot.of (owner:="list_reverseiterator") (n:="__length_hint__") (by rw[P5,Pl];kernel_rfl) NM NM NM ?_ (by rw[Rm];kernel_rfl)];first |exact .inl NM |exact .inr NM
def tO:typeLookup (.type "list_reverseiterator") "__len__"=pure θ:=by rw[P5,Pl];kernel_rfl
def Go:isSubtype (.type "list_reverseiterator") (.type "list_reverseiterator")=pure μ:=by rw[Rm];kernel_rfl
section
#print v
def Eg(H:s.heap.IsRevIter I t k){Q:Bool->ι->Prop}(h:Q ν s):π (υ prog w) A (ls$ .ref I) Q E s:=by
 unfold ls;erw[Om$ Rq H.typeIs tO ?_];show π _ A (specialOf (Θ I) (Str.ofString "__length_hint__") >>= _) _ _ _;erw[Om$ Rq H.typeIs yu.lookup ?_];let e:splitId "list_reverseiterator.__length_hint__"=δ ("list_reverseiterator","__length_hint__"):=NM
 dsimp only;rw[e];dsimp only;erw[Om$ RL (b:=μ) H.typeIs Go ?_];simp only[SE,OJ,PX];rw[OB NM,OD NM];rwa[Op h]
def sN{a:Array η}{Q:xL η->ι->Prop}(z:A.handled=θ)(f:s.heap.IsRevIter I t ((a.size:Int) - 1))(r:s.heap.IsList t a)(B:t≠I)(C:a.size<=τ)
  (D:∀S,(∀b o,b≠I->s.heap.get? b=δ o->S.heap.get? b=δ o)->-s<=-S->S.gens=s.gens->S.os=s.os->Q a.toList.reverse S):π (υ prog w) A (collect$ .ref I) Q E s:=by
 let j:I < -s:=by let⟨o,k,_⟩:=f;rwa[Ox k]
 let n:t < -s:=by let⟨o,k,_⟩:=r;rwa[Ox k]
 let u:I≠-s:=OH j;let F:t≠-s:=OH n;unfold collect;refine Om (U9 (P6 Uj (by
  rw[Pt Ui _];show π _ A.in1 (newList [] >>= λl=>again (.builtin "list.__iadd__" #[[l,.ref I],[]])) _ _ s;erw[Om$ Pd$ Op #[RG R4 _,P6 UB ?_]];rw[Pt R4 _];generalize v:s.heap.push { cls:=.type "list",data:=.seq ([]:xL η).toArray }=H;let J:H.get? (-s)=δ { cls:=.type "list",data:=.seq (ε []) }:=by rw[<- v];rwa[Oy _ Z]
  let G:∀b o,s.heap.get? b=δ o->H.get? b=δ o:=λb o e=>by rw[<- v];rwa[Oo _ e]
  let h:H.IsRevIter I t ((a.size:Int) - 1):=f.at λo e=>G I o e;let p:H.IsList t a:=r.at λo e=>G t o e;show π _ A.in1 (gs (.ref (-s)) (.ref I)$ .ref (-s)) _ _ ‹H›;unfold gs;erw[Om$ Rt (s:=‹H›) h.typeIs ?_];let K:eT (.ref (-s)) (.ref I)=ν:=by simp only[eT,beq_eq_false_iff_ne];rwa[O3 u]
  let L:(fr "list_reverseiterator"==fr "list")=ν:=NP
  let M:(fr "list_reverseiterator"==fr "tuple")=ν:=NP
  simp only[K,L,M,UW,OJ,PX];erw[Om$ wpAny_pyIter_revIter (s:=‹H›) h$ Om$ OV$ Eg (s:=‹H›) h ?_];let N:¬-s∈[I,t]:=by simp only[RF,O5,TH,not_or];exact#[O3 u,O3 F]
  rw[OD NM];erw[Op #[RG Up _,?_]];let W:=(Walks.listRev (prog:=prog) (w:=w) (A:=A.in1) (z:) I t B a).toS;erw[VW W C _ N _ a.size 0 _ (ε []) _ Z (OA _) #[OA _,by simpa using h,p] J (V9 _) λS d U m x c=>?_];let O:d=a.toList.reverse.toArray:=by
   apply Array.ext';erw[VE λi=>?_];by_cases y:i < a.size
   .let g:i < d.size:=by rw[c.1];exact y
    let q:=c.2 i d[i] (by simp [g]);rw[Ra,Rv g,<- q];show a[a.size - 1 - i]?=a.toList.reverse[i]?;rw[Sv (y:)];simp
   .rw[Pk (by rw[OT,c.1];omega),Pk (by simp;omega)]
  subst O;show π _ A (load (-s) >>= _) _ _ S;erw[Om$ Wf x$ Op ?_];let P:a.toList.reverse.toArray.toList=a.toList.reverse:=by simp
  rw[P];erw[D S (λb o R e=>?_) ?_ m.gens m.os]
  .let T:b≠-s:=OH (Ox e);rwa[m.heap b o (by simp only[RF,O5,TH,not_or];exact#[T,R])$ G b o e]
  .rwa[RE$ Ox x])))
end
section
#print v
def XQ{i:Array η}{Q:η->ι->Prop}(f:A.handled=θ)(H:s.heap.IsRevIter I t ((i.size:Int) - 1))(g:s.heap.IsList t i)(j:t≠I)(d:i.size<=τ)
  (h:∀S:ι,(∀b o,b≠I->s.heap.get? b=δ o->S.heap.get? b=δ o)->-s<=-S->S.gens=s.gens->S.os=s.os->
   Q (.ref (-S)) { S with heap:=S.heap.push { cls:=.type "tuple",data:=.seq i.toList.reverse.toArray } }):
  kz (υ prog w) A (.call (.builtin "tuple.__new__") #[[.type "tuple",.ref I],[]]) (wants Q E) s:=by
 erw[UZ (show π _ A.in1 (do checkBuiltinCall "tuple.__new__" #[[.type "tuple",.ref I],[]];again (.builtin "tuple.__new__" #[[.type "tuple",.ref I],[]])) _ _ s from ?_)];refine Om (Ts (PySem.F.newCall_tuple_1 _) (Op #[RG UA _,P6 PySem.F.entry_tuple_new (by
  rw[Pt UA _];let e:=sub_tuple_self;let a:=init_tuple_lookup;let l:=madeHere_tuple;let c:=H.typeIs;wp_walk using Rt c,sN (f:) H g j d;intro S k z m n;show π _ _ (ef i.toList.reverse.toArray >>= λv=>ret v) _ _ _;unfold ef;rwa[Om$ Pd (Op$ h S k z m n) (by show i.toList.reverse.toArray.size<=τ;simpa using d)])]))
def XS{items:Array η}{Q:η->ι->Prop}(d:A.handled=θ)(c:s.heap.IsRevIter I t ((items.size:Int) - 1))(e:s.heap.IsList t items)(f:t≠I)(g:items.size<=τ)
  (h:∀a:ι,(∀b o,b≠I->s.heap.get? b=δ o->a.heap.get? b=δ o)->-s<=-a->a.gens=s.gens->a.os=s.os->
   Q (.ref (-a)) { a with heap:=a.heap.push { cls:=.type "tuple",data:=.seq items.toList.reverse.toArray } }):π (υ prog w) A (call (.type "tuple") [.ref I]) Q E s:=by
 erw[callType_codes (Q₁:=λO S=>S.TypeIs O "tuple"/\Q O S) nz (PySem.F.typeCall_tuple_1 _) PySem.F.entry_object_init (XQ (d:) c e f g λa k z i j=>#[#[_,Oy _ Z,Z],h a k z i j]) λO S H=>?_];exact#[H.1,SI O _,object_init_meets nz.init.lookup nz.made NP prog w A.in1 _ S #[H.1,Z,H.2]]
end
section
variable {X:Cx}{e:dr}{te:TE}{xl xr:ρ}{p p2 pos pos2:Pos}
inductive ou(K:β)(Q:VK)(x:V)(b:Hp):Prop
 |mk(a c:_)(_:x= .ref a)(_:aL K b a c)(_:∀l,b l=θ->Q (.ref l) (af b l (.tup c.reverse)))
def Cz(K:β)(te:TE):TE:=λa H Q=>te a H (ou K Q)
def uj(M:X.calm=μ)(g:Gl X xl)(j:X.mg xl=θ)(l:bootBuiltins xl=δ (.type "tuple"))(m:Gl X xr)(n:X.mg xr=θ)(r:bootBuiltins xr=δ (.type "reversed"))(O:PE X e te)
  (t:↥(xl≠"__name__")) (v:↥((xl==("__debug__":ρ))=ν)) (y:↥(xr≠"__name__")) (A:↥((xr==("__debug__":ρ))=ν))
  (E:↥(Δ [.Call (.Name xr p2) [e] [] pos2] X.env=(ν,eval (.Call (.Name xr p2) [e] [] pos2) X.env)::Δ [] X.env)) (T:↥((fy pos$ Δ [] X.env).any (·.1)=ν))
  (F:↥(Δ [e] X.env=(ν,eval e X.env)::Δ [] X.env)) (U:↥((fy pos2$ Δ [] X.env).any (·.1)=ν)):
  PE X (.Call (.Name xl p) [.Call (.Name xr p2) [e] [] pos2] [] pos) (Cz X.K te):=by
 intro P s V H Q I h;erw[Py$ zQ I g j l ?_ t v];erw[Pf ?_ E T];rw[E];show π _ _ (spliced ((ν,eval (.Call (.Name xr p2) [e] [] pos2) X.env)::fy pos (Δ [] X.env))) _ _ s;erw[Rr ?_];erw[Py$ zQ I m n r ?_ y A];erw[Pf ?_ F U];rw[F];show π _ _ (spliced ((ν,eval e X.env)::fy pos2 (Δ [] X.env))) _ _ s;erw[Rr$ a8 (O P s V H _ I h) λu d B=>?_];let⟨x,W,f,Y,a,G,ex,hq,q⟩:=B;subst ex;cases (show u=Θ a from Y);let⟨i,R,C,hz⟩:=f.list hq;let J:=R.length;erw[RQ$ call_reversed_list C.isList$ RQ ?_];let D:a < -d:=by let⟨o,ho,_⟩:=C.isList;rwa[Ox ho]
 refine XS (s:={ d with heap:=d.heap.push (PySem.revObj a ((i.toArray.size:Int) - 1)) }) (items:=i.toArray) (I.ok.hd M) #[_,Oy _ Z,Z,Z] (C.isList.at λo e=>Oo _ e) (OH D)
  (by simp only[Ov];omega) λS k hl kg ko=>?_
 let c:-d<=-S:=OK (by show _<=(d.heap.push _).objs.size;rw[Pn];rwa[PY _]) hl;let L:∀b o,d.heap.get? b=δ o->(S.heap.push { cls:=.type "tuple",data:=.seq i.toArray.toList.reverse.toArray }).get? b=δ o:=λb o e=>Oo _ (k b o (OH$ Ox e)$ Oo _ e);let hg:(S.heap.push { cls:=.type "tuple",data:=.seq i.toArray.toList.reverse.toArray }).get? (-S)=δ { cls:=.type "tuple",data:=.seq i.toArray.toList.reverse.toArray }:=Oy _ Z;let N:a6 X.prog X.w (af W (-S)$ .tup G.reverse) (S.heap.push { cls:=.type "tuple",data:=.seq i.toArray.toList.reverse.toArray }) (-S) (.tup G.reverse):=by
  erw[#[by rw[Vp];rwa[hz],i.reverse,aG.reverse R,?_]];let ee:i.toArray.toList.reverse.toArray=i.reverse.toArray:=by simp
  rw[<- ee];exact#[_,hg,Z,_,Z]
 exact#[.ref (-S),_,f.call' (ch:=[]) ko (Un.laid L c$ f.hok.fresh c) (f.hok.laid L c N) (by show AllBare S.gens;rw[kg];rwa[f.bare]) (λ_ z=>nomatch z),Z,q _$ f.hok.fresh c]
end
section
#print v
def Qe{x:η}{Q:η->ι->Prop}(a:s.heap.IsTupleIter J T i)(e:s.heap.IsTuple T I)(f:I[i]?=δ x)
  (q:∀b,b.IsTupleIter J T (i+1)->fx J s.heap b->Q x ‹b›):π (υ prog w) A (Φ$ .ref J) Q E s:=by
 let⟨o,H,g,h⟩:=id a;let⟨O,c,_,n,d⟩:=e;unfold Φ;erw[Om$ Pa (name:=Str.ofString "__next__") a.typeIs PJ$ O7 PJ a.typeIs Sc (show π _ _ (field (.ref J) 0 >>= _) _ _ s from ?_)$ R0 _];erw[Om$ O0 H h (x:=.ref T) Z (show π _ _ (if (Θ T==Ω)=μ then _ else _) _ _ s from ?_)];rw[OD (show ¬((Θ T==Ω)=μ) from OG)];erw[(show π _ _ (field (.ref J) 1 >>= _) _ _ s from Om$ O0 H h (x:=.int i 0) Z (show π _ _ (seqItems? (.ref T) >>= _) _ _ s from Om$ Pu c d ?_))];simp only[Ph,f];erw[Om$ Pp H h NN$ Op #[x,Z,Op$ q _ #[_,O9 _ H$ PM$ O6 h _,(Sr ..).trans g,by rw[O6 h];simp [rawInt]] (Rl ..)]]
def tN(g:A.handled=θ)(H:s.heap.IsTupleIter J T i)(j:s.heap.IsTuple T I)(l:I[i]?=θ)
  (q:∀h e,nI J s.heap h->Shared.TypeIs ‹h› e "StopIteration"->E e ‹h›):π (υ prog w) A (Φ$ .ref J) Q E s:=by
 let⟨o,a,p,c⟩:=id H;let⟨O,d,_,N,f⟩:=j;unfold Φ;erw[Om$ Pa (name:=Str.ofString "__next__") H.typeIs PJ$ O7 PJ H.typeIs Sc (show π _ _ (field (.ref J) 0 >>= _) _ _ s from ?_)$ R0 _];erw[Om$ O0 a c (x:=.ref T) Z (show π _ _ (if (Θ T==Ω)=μ then _ else _) _ _ s from ?_)];rw[OD (show ¬((Θ T==Ω)=μ) from OG)];erw[(show π _ _ (field (.ref J) 1 >>= _) _ _ s from Om$ O0 a c (x:=.int i 0) Z (show π _ _ (seqItems? (.ref T) >>= _) _ _ s from Om$ Pu d f ?_))];simp only[Ph,l];erw[Om$ Ry$ Om$ Pp a c NN ?_];erw[Kf (g:) λh e k t=>q h e (λb o m n=>k b o ?_) t];exact(OP _ _$ O3 m).trans n
end
def iO(b:Bool)(h:de)(i l:ζ)(k:Nat):Prop:=match b with
 |true=>h.IsListIter i l k
 |false=>h.IsTupleIter i l k
def lR(b:Bool)(h:de)(l:ζ)(x:Array η):Prop:=match b with
 |true=>h.IsList l x
 |false=>h.IsTuple l x
def g9:Bool->String
 |true=>"list_iterator"
 |false=>"tuple_iterator"
def iO.kp{b:Bool}{H:de}(x:iO b h i l k)(e:∀o,h.get? i=δ o->H.get? i=δ o):iO b H i l k:=by
 cases b
 .rwa[Wa x e]
 .let⟨o,a,r⟩:=x;exact#[o,e o a,r]
def lR.kp{b:Bool}{H:de}(x:lR b h l a)(e:∀o,h.get? l=δ o->H.get? l=δ o):lR b H l a:=by
 cases b
 .let⟨o,c,r⟩:=x;exact#[o,e o c,r]
 .rwa[Heap.IsList.at x e]
def iO.ob(x:iO b h i l k):∃o,h.get? i=δ o/\o.cls= .type (g9 b)/\∀v,o.data≠ .cell v:=by
 cases b
 .let⟨o,H,c,d⟩:=x;exact#[o,H,c,λv z=>by rw[d]at z;cases z]
 .let⟨o,H,c,d⟩:=x;exact#[o,H,c,λv z=>by rw[d]at z;cases z]
section
#print v
def qk{Q:η->ι->Prop}(H:iO b s.heap J T i)(a:lR b s.heap T I)(c:I[i]?=δ x)
  (q:∀h,iO b h J T (i+1)->fx J s.heap h->Q x ‹h›):π (υ prog w) A (Φ$ .ref J) Q E s:=by
 cases b
 .rwa[Qe H a c q]
 .rwa[wpAny_nextOf_list_item H a c q]
def Q8(H:A.handled=θ)(a:iO b s.heap J T i)(c:lR b s.heap T I)(d:I[i]?=θ)
  (q:∀h e,nI J s.heap h->Shared.TypeIs ‹h› e "StopIteration"->E e ‹h›):π (υ prog w) A (Φ$ .ref J) Q E s:=by
 cases b
 .rwa[tN H a c d q]
 .rwa[wpAny_nextOf_list_end H a c d λh e k #[o,f,g]=>q h (.ref e) k #[o,f,g]]
def Di{Q:η->ι->Prop}(h:lR b s.heap T i)
  (q:Q (.ref (-s)) ‹s.heap.push { cls:=.type (g9 b),data:=.fields (ε [.ref T,.int 0 0]) }›):π (υ prog w) A (pyIter$ .ref T) Q E s:=by
 cases b
 .rwa[Sq h q]
 .rwa[Tq h q]
structure Aq(z u v c d a b:ζ):Prop where
 uz:u≠z
 vz:v≠z
 cz:c≠z
 dz:d≠z
 uv:u≠v
 uc:u≠c
 ud:u≠d
 vc:v≠c
 vd:v≠d
 cd:c≠d
 az:a≠z
 av:a≠v
 ac:a≠c
 ad:a≠d
 bz:b≠z
 bv:b≠v
 bc:b≠c
 bd:b≠d
def CH{Q:ym η->ι->Prop}(D:Aq z u v c d a b)
  (H:IsZip s.heap z u v .none) (hu:IsPair s.heap u (.ref c) (.ref d)) (hv:IsPair s.heap v p q) (h1:iO B s.heap c a k) (h2:iO C s.heap d b k) (g1:lR B s.heap a xs) (g2:lR C s.heap b ys) (hx:xs[k]?=δ x) (hy:ys[k]?=δ y)
  (hQ:∀h,IsZip h z u v (rawInt (-s))->IsPair h v x y->iO B h c a (k+1)->iO C h d b (k+1)->IsPair h (-s) x y->h.objs.size=-s+1->
   (∀e o,e≠z->e≠v->e≠c->e≠d->s.heap.get? e=δ o->h.get? e=δ o)->Q (δ$ .ref (-s)) ‹h›):π (υ prog w) A (pyNext$ .ref z) Q E s:=by
 let W:s.TypeIs (.ref z) "zip":=#[_,H,Z];unfold pyNext;erw[Om$ Sl$ Pa (name:=Str.ofString "__next__") W PV$ O7 PV W Si (show π _ _ (field (.ref z) 2 >>= _) _ _ _ from ?_)$ R6 _];erw[Om$ O0 H Z (x:=.bool ν) Z (show π _ _ (field (.ref z) 3 >>= _) _ _ _ from Om$ O0 H Z (x:=.ref u) Z$ Om$ Pu hu Z ?_)];erw[(show π _ _ (bx (.ref z) >>= _) _ _ _ from Om ?_)];unfold bx;erw[Om$ O0 H Z (x:=.none) Z$ Op ?_];simp only[SN];erw[Om$ Ry$ Om$ O0 H Z (x:=.ref v) Z$ Om$ RS H NN λX F S=>?_];replace F:IsZip X z u v .ellipsis:=F;erw[Om ?_];simp only[VN,VY,RN,SR];erw[Om$ Om$ Vk (show π _ _ (Φ (.ref c) >>= _) _ _ _ from ?_)];erw[Om$ qk (s:=‹X›) (h1.kp λo e=>S.extBut _ _ D.cz e) (g1.kp λo e=>S.extBut _ _ D.az e) hx λG i2 l=>Op ?_];let Y:IsPair G v p q:=l.extBut _ _ D.vc (S.extBut _ _ D.vz hv);erw[Om$ Pu (s:=‹G›) Y Z$ Om$ VR (s:=‹G›) Y λI J r=>?_];replace J:IsPair I v x q:=J;erw[Om$ VT$ Op$ Om$ Om$ Vk (show π _ _ (Φ (.ref d) >>= _) _ _ _ from ?_)];let K:∀e o,e≠z->e≠c->e≠v->s.heap.get? e=δ o->I.get? e=δ o:=λe o N f g w=>r.extBut _ _ g (l.extBut _ _ f$ S.extBut _ _ N w);erw[Om$ qk (s:=‹I›) (h2.kp λo e=>K _ _ D.dz D.cd.symm D.vd.symm e) (g2.kp λo e=>K _ _ D.bz D.bc D.bv e) hy λL i4 i=>Op ?_];let v4:IsPair L v x q:=i.extBut _ _ D.vd J;erw[Om$ Pu (s:=‹L›) v4 Z$ Om$ VR (s:=‹L›) v4 λm V j=>?_];replace V:IsPair m v x y:=V;erw[Om$ VT$ Op$ Op$ Om$ Pu (s:=‹m›) V Z$ Om$ Sw ?_];let e5:m.objs.size=-s:=by rw[j.1,i.1,r.1,l.1,S.1]
 let k5:∀e o,e≠z->e≠v->e≠c->e≠d->s.heap.get? e=δ o->m.get? e=δ o:=λe o N f g O w=>j.extBut _ _ f (i.extBut _ _ O$ K e o N g f w);let z5:IsZip m z u v .ellipsis:=j.extBut _ _ D.vz.symm (i.extBut _ _ D.dz.symm$ r.extBut _ _ D.vz.symm$ l.extBut _ _ D.cz.symm F);let j1:iO B m c a (k+1):=i2.kp λo e=>j.extBut _ _ D.vc.symm (i.extBut _ _ D.cd$ r.extBut _ _ D.vc.symm e);let j2:iO C m d b (k+1):=i4.kp λo e=>j.extBut _ _ D.vd.symm e;let lz:z < m.objs.size:=Ox z5;erw[(show π _ _ (mI (.ref z) (.ref m.objs.size) >>= _) _ _ _ from Om ?_)];unfold mI;let z6:IsZip (m.push { cls:=.type "tuple",data:=.seq (ε [x,y]) }) z u v .ellipsis:=Oo _ z5;erw[Om$ RS z6 NN λm7 P R=>?_];replace P:IsZip m7 z u v (rawInt m.objs.size):=P;erw[RS P NN λM t T=>?_];replace t:IsZip M z u v (rawInt m.objs.size):=t;let U:∀e o,e≠z->m.get? e=δ o->M.get? e=δ o:=λe o n w=>T.extBut _ _ n (R.extBut _ _ n$ Oo _ w);let t8:IsPair M m.objs.size x y:=T.extBut _ _ (Pq lz) (R.extBut _ _ (Pq lz)$ Oy _ Z);let e8:M.objs.size=m.objs.size+1:=by rw[T.1,R.1,Pn]
 rw[e5]at t t8 e8;erw[Op #[_,Z,Op ?_]];show Q (δ$ .ref m.objs.size) _;rw[e5];rwa[hQ M t (U _ _ D.vz V) (j1.kp λo e=>U _ o D.cz e) (j2.kp λo e=>U _ o D.dz e) t8 e8 λe o N f g O w=>U e o N (k5 e o N f g O w)]
def GK{b2:Bool}{ys:Array η}{p q:η}{Q:ym η->ι->Prop}(C:A.handled=θ)(D:Aq z u v c d a b)
  (h:IsZip s.heap z u v .none) (F:IsPair s.heap u (.ref c) (.ref d)) (G:iO I s.heap c a k) (J:lR I s.heap a L) (K:L[k]?=θ)
  (O:∀H,(∀e o,e≠z->e≠v->e≠c->e≠d->s.heap.get? e=δ o->H.get? e=δ o)->Q θ ‹H›):π (υ prog w) A (pyNext$ .ref z) Q E s:=by
 let g:s.TypeIs (.ref z) "zip":=#[_,h,Z];unfold pyNext;erw[Om$ Sl$ Pa (name:=Str.ofString "__next__") g PV$ O7 PV g Si (show π _ _ (field (.ref z) 2 >>= _) _ _ _ from ?_)$ R6 _];erw[Om$ O0 h Z (x:=.bool ν) Z (show π _ _ (field (.ref z) 3 >>= _) _ _ _ from Om$ O0 h Z (x:=.ref u) Z$ Om$ Pu F Z ?_)];erw[(show π _ _ (bx (.ref z) >>= _) _ _ _ from Om ?_)];unfold bx;erw[Om$ O0 h Z (x:=.none) Z$ Op ?_];simp only[SN];erw[Om$ Ry$ Om$ O0 h Z (x:=.ref v) Z$ Om$ RS h NN λm f S=>?_];replace f:IsZip m z u v .ellipsis:=f;erw[Om ?_];simp only[VN,VY,RN,SR];erw[Om$ Om$ Vk (show π _ _ (Φ (.ref c) >>= _) _ _ _ from ?_)];erw[Om$ Q8 (s:=‹m›) (C:) (G.kp λo e=>S.extBut _ _ D.cz e) (J.kp λo e=>S.extBut _ _ D.az e) K λM e i j=>?_];let l:IsZip M z u v .ellipsis:=i _ _ D.cz.symm f;erw[RS (s:=‹M›) l NN λn U r=>?_];let t:Shared.TypeIs ‹n› e "StopIteration":=by
  cases e with
  |ref x=>
   let⟨o,y,B⟩:=j;let P:x≠z:=λw=>by subst w;let:=y.symm.trans l;cases this;injection B with w;rwa[absurd w NP]
   exact#[o,r.extBut _ _ P y,B]
  |_=>rwa[j]
 rwa[Om$ RL (T:="StopIteration") (b:=μ) t Uc$ Op$ O n λe o N V R W w=>r.extBut _ _ N (i _ _ R$ S.extBut _ _ N w)]
def GL{b1 b2:Bool}{xs ys:Array η}{Q:η->ι->Prop}(J:lR b1 s.heap a xs)(L:lR b2 s.heap b ys)
  (h:∀H,IsZip H (-s+4) (-s+2) (-s+3) .none->IsPair H (-s+2) (.ref (-s)) (.ref$ -s+1)->
   IsPair H (-s+3) .none .none->iO b1 H (-s) a 0->iO b2 H (-s+1) b 0->(∀e o,s.heap.get? e=δ o->H.get? e=δ o)->Q (.ref$ -s+4) ‹H›):
  π (υ prog w) A (call (.type "zip") [.ref a,.ref b]) Q E s:=by
 refine VC (S:=λ_ R c=>c=s/\R (.ok$ .ret$ .ref$ -s+4) ‹((((s.heap.push { cls:=.type (g9 b1),data:=.fields (ε [.ref a,.int 0 0]) }).push { cls:=.type (g9 b2),data:=.fields (ε [.ref b,.int 0 0]) }).push { cls:=.type "tuple",data:=.seq (ε [.ref (-s),.ref$ -s+1]) }).push { cls:=.type "tuple",data:=.seq (ε [.none,.none]) }).push { cls:=.type "zip",data:=.fields (ε [.none,.bool ν,.bool ν,.ref$ -s+2,.ref$ -s+3]) }›)
  PySem.F.called_zip NP (PySem.F.typeCall_zip_2 _ _) (PySem.F.newCall_zip_2 _ _) (λO=>PySem.F.args_object_init_3 O _ _) PySem.F.entry_zip_new (.of_wp λp w' A' R c P=>?_) #[Z,?_]
 .let⟨rfl,q⟩:=P;let⟨r,g,D,t,os⟩:=c;let u:=sub_zip;let T:lR b1 (Shared.heap #[r,g,D,t,os]) a xs:=J;let _L:lR b2 (Shared.heap #[r.push { cls:=.type (g9 b1),data:=.fields (ε [.ref a,.int 0 0]) },g,D,t,os]) b ys:=L.kp λo e=>Oo _ e;wp_walk using Di T,Di _L;erw[#[_,Z,?_]];simp only[Pn]at q ⊢;rwa[q]
 .let z (h:de) (o:hG):(h.push o).objs.size=h.objs.size+1:=Pn ..;generalize d:s.heap.push { cls:=.type (g9 b1),data:=.fields (ε [.ref a,.int 0 0]) }=M;generalize f:M.push { cls:=.type (g9 b2),data:=.fields (ε [.ref b,.int 0 0]) }=i;generalize j:i.push { cls:=.type "tuple",data:=.seq (ε [.ref (-s),.ref$ -s+1]) }=k;generalize l:k.push { cls:=.type "tuple",data:=.seq (ε [.none,.none]) }=n;generalize v:n.push { cls:=.type "zip",data:=.fields (ε [.none,.bool ν,.bool ν,.ref$ -s+2,.ref$ -s+3]) }=m;let N:M.objs.size=-s+1:=by rw[<- d,z]
  let x:i.objs.size=-s+2:=by rw[<- f,z,N]
  let y:k.objs.size=-s+3:=by rw[<- j,z,x]
  let U:n.objs.size=-s+4:=by rw[<- l,z,y]
  let K:∀e o,n.get? e=δ o->m.get? e=δ o:=λe o w=>by rw[<- v];rwa[Oo _ w]
  let B:∀e o,k.get? e=δ o->m.get? e=δ o:=λe o w=>K e o (by rw[<- l];rwa[Oo _ w]);let C:∀e o,i.get? e=δ o->m.get? e=δ o:=λe o w=>B e o (by rw[<- j];rwa[Oo _ w]);let G:∀e o,M.get? e=δ o->m.get? e=δ o:=λe o w=>C e o (by rw[<- f];rwa[Oo _ w]);let V:∀e o,s.heap.get? e=δ o->m.get? e=δ o:=λe o w=>G e o (by rw[<- d];rwa[Oo _ w]);let I:IsZip m (-s+4) (-s+2) (-s+3) .none:=by rw[<- U,<- v];rwa[Oy _ Z]
  let W:IsPair m (-s+3) .none .none:=K _ _ (by rw[<- y,<- l];rwa[Oy _ Z]);let X:IsPair m (-s+2) (.ref (-s)) (.ref$ -s+1):=B _ _ (by rw[<- x,<- j];rwa[Oy _ Z]);let Y:m.get? (-s+1)=δ { cls:=.type (g9 b2),data:=.fields (ε [.ref b,.int 0 0]) }:=C _ _ (by rw[<- N,<- f];rwa[Oy _ Z]);let q1:m.get? (-s)=δ { cls:=.type (g9 b1),data:=.fields (ε [.ref a,.int 0 0]) }:=G _ _ (by rw[<- d];rwa[Oy _ Z]);erw[#[#[_,I,Z],h m I X W ?_ ?_ V]]
  .cases b1<;>exact#[_,q1,Z,Z]
  .cases b2<;>exact#[_,Y,Z,Z]
end
def CJ(n a b:Nat)(h:a < n)(H:b < n):Aq (n+4) (n+2) (n+3) n (n+1) a b:=by erw[#[?_,?_,?_,?_,?_,?_,?_,?_,?_,?_,?_,?_,?_,?_,?_,?_,?_,?_]]<;>(show(_:Nat)≠_;omega)
section
variable {prog:ψ}{w:bF}{A:bS}{E:η->ι->Prop}
theorem CZ(h:l≠J):∀(n i:Nat) (s:ι) (Q:xL η->ι->Prop),s.heap.IsListIter J l i->s.heap.IsList l I->i+n<=I.size->
  (∀a,a.IsListIter J l (i+n)->fx J s.heap a->Q ((I.toList.drop i).take n) ‹a›)->π (υ prog w) A (draw (.ref J) n) Q E s
 |0,i,s,Q,b,_,_,q=>show π _ _ (pure []) Q E s from Op (q s.heap b (UO ..):)
 |n+1,i,s,Q,b,c,d,q=>by
  let H:i < I.size:=NO
  erw[(show π _ _ (pyNext (.ref J) >>= _) Q E s from Om$ Vw b c (x:=I[i]) (by simp [H]) λm j S=>?_)];erw[Om$ OV$ CZ h n (i+1) _ _ j (c.extBut S.extBut h) NO λf g k=>Op ?_];let e:=q f (by rw[show i+(n+1)=i+1+n by omega];rwa[g]) (S.trans k);rw[show I.toList.drop i=I[i]::I.toList.drop (i+1) by simp [UN,H],List.take_succ_cons]at e;assumption
def CB{s:ι}{Q:xL η->ι->Prop}(f:A.handled=θ)(h:s.heap.IsList l i)(a:i.size=n)
  (q:∀c,nI (-s) s.heap c->Q i.toList ‹c›):π (υ prog w) A (unpackItems (.ref l) n θ) Q E s:=by
 let H:l≠-s:=by let⟨o,g,_⟩:=h;rwa[OH$ Ox g]
 unfold unpackItems;erw[Om ?_];unfold notIterableAtAll;erw[Om$ Rq h.typeIs slot_list_iter.lookup ?_];erw[Op ?_];simp only[OJ,PX];erw[Om$ OV$ Tq h ?_];let I:(s.heap.push { cls:=.type "list_iterator",data:=.fields (ε [.ref l,.int 0 0]) }).IsListIter (-s) l 0:=#[_,Oy _ Z,Z,Z];erw[Om$ OV$ CZ H n 0 _ _ I (h.push _) NO λj J S=>?_];let k:(i.toList.drop 0).take n=i.toList:=by rw[UE,Rp (by simp [a])]
 rw[k,OD (by simp [a])];let L:j.IsList l i:=(h.push _).extBut S.extBut H;erw[Om$ OV$ VL f J L (by simp [a]) λm p=>?_];simp only[Option.isSome_none,OJ,PX];rwa[Op$ q m λb o d e=>p b o d (S.extBut b o d$ Oo _ e)]
end
section
variable {X:Cx}{pos:Pos}
inductive Mr(K:β)(n:Nat)(t:Ap)(v:V)(c:St)(H:Hp)(Q:St->Hp->Prop):Prop
 |mk(a b:_)(_:v= .ref a)(_:aL K H a b)(_:ο b=n)(_:t b c H Q)
def ZY{E:xL dr}{k n:Nat}{t:Ap}(g:X.calm=μ)(h:GV X E t)
  (i:↥((assignEach E X.env).length=n)) (c:↥((assignEach E X.env).findIdx? (·.1)=θ)):PG X (.Tuple E k pos) (Mr X.K n t):=by
 intro P s f H v u Q I r d;let⟨a,x,j,l,m,d⟩:=d;subst j;cases r;let⟨q,R,p,A⟩:=I.list l;rw[assign_Tuple];erw[Om$ RU ?_];unfold unpack;rw[i,c];erw[Om$ OV$ CB (I.ok.hd g) p.isList (by simp [<- m,R.length]) λw y=>?_];let z:ax X P f H ‹w›:=I.kept (t':=s.toks) λb o e=>y b o (OH$ Ox e) e;rwa[h P _ f H x _ Q z (R:) d]
inductive yB(K:β)(i j k:Nat)(D:bp)(f:St)(x:V)(b:Hp):Prop
 |mk(a c d e:_)(_:x= .ref a)(_:aF K b a [c,d,e])(_:D.nx (((f.set k (δ e)).set j (δ d)).set i (δ c)) b)
def DA(K:β)(t:TE)(i j k:Nat):TS:=λD a H=>t a H (yB K i j k D a)
def BE{t e:dr}{T:TE}{x y z:ρ}{i j k:Nat}(n:X.calm=μ)(c:X.N.Nodup)(w:X.N[i]?=δ x)(A:X.N[j]?=δ y)(B:X.N[k]?=δ z)(L:uT X.env.scope x)(C:uT X.env.scope y)(E:uT X.env.scope z)(F:PE X e T)
  (G:X.fn x=μ∨X.env.scope.names.lookup x=δ .local:=by first |exact .inl Z |exact .inr Z) (J:X.fn y=μ∨X.env.scope.names.lookup y=δ .local:=by first |exact .inl Z |exact .inr Z) (M:X.fn z=μ∨X.env.scope.names.lookup z=δ .local:=by first |exact .inl Z |exact .inr Z)
  (O:↥(swapsWithSole [t] e pos.line X.env=pure ν)) (P:↥(swappedStores [t] e X.env=pure (δ [x,y,z]))):PS X (.Assign [t] e pos) (DA X.K T i j k):=by
 intro p s f H D I h;rw[exec_Assign_arm];erw[Om$ RU ?_];rw[O];erw[Om$ Op ?_];rw[OD NP];erw[Om$ a8 (F p s f H _ I h) λv S d=>?_];let⟨xv,g,l,R,a,v1,v2,v3,Q,V,q⟩:=d;rw[P];erw[Om$ Op ?_];subst Q;cases R;let⟨W,r,Y,hz⟩:=l.tuple V;cases r with
 |cons q1 r=>
  cases r with
  |cons q2 r=>
   cases r with
   |cons q3 r=>
    cases r
    rename_i u U m
    unfold assignStores;erw[Om$ Ry$ Om$ wpAny_unpackItems_tuple (items:=(ε [u,U,m])) (I.ok.hd n) Y λh' hx=>?_];let I2:ax X p f g { S with heap:=h' }:=l.kept (t':=S.toks) λb o e=>hx b o (OH$ Ox e) e;erw[Om ?_];show π _ _ (assignInOrder [λv=>bindName X.env z v,λv=>bindName X.env y v,λv=>bindName X.env x v] [m,U,u]) _ _ _;erw[Om$ OV$ Vc$ zH I2 c B E q3 (λs2 I3=>?_) M];erw[Om$ OV$ Vc$ zH I3 c A C q2 (λs3 I4=>?_) J];erw[Om$ OV$ Vc$ zH I4 c w L q1 (λs4 I5=>?_) G];rwa[Op$ Op #[_,g,I5,q]]
end
def AH(l b:ζ)(I i:Array η)(n N:Nat)(D:ym ζ)(S:Array (ym η))(e:¬(!I.isEmpty&&fz (I.size+i.size))=μ)(W:I.size<=τ)(a:I.size+i.size<=τ+1):
  Meets (dO.«list.extend» #[[.ref l,.ref b],[]]) (λ_ R s=>s.heap.get? l=δ { cls:=.type "list",dict:=θ,data:=.seq I n,slots:=(ε []) }/\s.heap.get? b=δ #[.type "tuple",D,.seq i N,S]/\R (.ok$ .ret Ω) { s with heap:=s.heap.update l (γ λx=>x++i),toks:=s.toks }):=by
 erw[Wq λp w A R s h=>?_];let⟨f,g,d,t,os⟩:=s;let⟨H,c,h⟩:=h;let F:=AutoSeq1.idx_int;let j:=AutoSeq1.sub_tuple_tuple;let k:=AutoSeq1.sub_list_list;let m:=AutoSeq1.sub_tuple_list;let o:=AutoSeq1.sub_list_tuple;let hz:(I++i).size<=τ+1:=by rw[Uf];rwa[a]
 wp_walk using (TY H Z (hz:=W) (_hz':=hz)),Rb H,Rb c;exact#[_,Z,h]
section
variable {X:Cx}
inductive lg(K:β)(x:V)(a:xL V)(H:Hp)(Q:VK):Prop
 |mk(l b c d:_)(_:x= .ref l)(_:a=[.ref b])(_:H l=δ (.lst c))(_:aF K H b d)(_:ο c+ο d<=τ)(_:Q .non (af H l (.lst (c++d))))
def Zp:LC X "list.extend" (lg X.K):=by
 intro p s A H x V v U Q I g j h;let⟨l,b,B,C,rfl,rfl,f,k,D,q⟩:=h;cases g;let⟨u,rfl,m⟩:=j.one;cases m;let⟨z,a,n,r,E,e⟩:=I.lstM f;let⟨i,R,P,F⟩:=I.tuple k;let o:=R.length;let d:a.toArray.size+i.toArray.size<=τ:=by rw[Ov,Ov];omega
 let c:¬(!a.toArray.isEmpty&&fz (a.toArray.size+i.toArray.size))=μ:=by rw[hV d,TX];rwa[OG]
 obtain⟨⟨G,O,J,S⟩,t,w,N,y⟩:=P;cases w;cases y;erw[Um V1 #[_,e,Z] VQ (VH _ _) (AH l b a.toArray i.toArray n N O S c (by rw[Ov];omega) NO) #[e,t,?_]];erw[#[.non,_,I.lset (its':=a++i) f e NN (r.append R) (by rw[Ot];rwa[N09]),Z,q]]
end
section
#print v
def JH{R:Result->ι->Prop}{P:Nat->η->Prop}{St:Nat->ι->Prop}
  (W:WalksS prog w A.in1 I N j G n P St) (S:ζ) (H:¬S∈N) (c:xL ρ) (O:ο c=n) (Q:∀i v,P i v->∃x t,c[i]?=δ x/\v= .str x t) (d:∀L:xL ρ,L.Nodup->(∀x∈L,x∈c)->ο L+1 < scanBound):
  ∀(k i:Nat) (s:ι) (L:xL ρ),n - i=k->i<=n->St i s->dy prog w s.heap S L->(∀x,x∈L↔x∈c.take i)->ο L<=i->
   (∀a l,Moved (S::j) G s a->dy prog w a.heap S l->(∀x,x∈l↔x∈c)->ο l<=n->R (.ok$ .ret .none) a)->
   kz (υ prog w) A (.builtin "set.update.loop" #[[.ref S,.ref I],[]]) R s:=by
 let f:¬S∈j:=λz=>H (W.sub _ z);let sub:∀b∈j,b∈S::j:=λb z=>OY _ z;intro k;induction k with
 |zero=>
  intro i s L T U st p q F r;let e:i=n:=NO
  subst e;erw[P6 S0 ?_];rw[Pt RM];show π _ A.in1 (pyNext (.ref I) >>= _) _ _ s;erw[Om$ W.done s _ _ st λa m=>?_];show π _ A.in1 (ret Ω) _ _ a;erw[Op$ r a L (m.mono sub) (p.at λo e=>m.heap S o f e) (λx=>?_) F];rw[q x,<- O,Pg]
 |succ k V=>
  intro i s L T U st p q F r;let J:i < n:=NO
  erw[P6 S0 ?_];rw[Pt RM];show π _ A.in1 (pyNext (.ref I) >>= _) _ _ s;erw[Om$ W.item i s _ _ J st λv a X u m=>?_];let⟨x,t,B,rfl⟩:=Q i v X;show π _ A.in1 (mB [mT x t] (setAdd S$ .str x t) >>= _) _ _ a;erw[Om$ OV ?_];let h:L.Nodup:=by let⟨_,_,_,_,_,_,_,_,_,h,_⟩:=p;rwa[h]
  erw[YF (p.at λo e=>m.heap S o f e) (d L h λx B=>Pw ((q x).mp B)) λb h' Y K S2 g=>?_];erw[Op #[RG RM _,V (i+1) _ _ NO J (W.frame _ a _ _ u g λb d o e=>?_) S2 (λy=>?_) ?_ λC l M D q1 q2=>?_]]
  .rw[K.2 b (λz:b=S=>H (by rw[<- z];rwa[d]))];rwa[e]
  .let tk:c.take (i+1)=c.take i++[x]:=by rw[RV,B];rfl
   rw[tk,Sd,T6,<- q y];split
   .rename_i hm
    exact#[.inl,λz=>z.elim id λe=>e▸hm]
   .rw[Sd,T6]
  .split
   .omega
   .rw[Ot,RP];omega
  .erw[r C l (Moved.trans W.gtrans ((m.mono sub).then_heap g λb o d e=>?_) M) D q1 q2];rw[K.2 b (λz:b=S=>d (by rw[z];rwa[ON]))];rwa[e]
end
section
#print v
set_option maxHeartbeats 3200000 in
def Kd{Q:η->ι->Prop}
  (hh:A.handled=θ) (hl:s.heap.IsList l I) (hi:StrsAre I.toList n) (C:∀L:xL ρ,L.Nodup->(∀x∈L,x∈n)->ο L+1 < scanBound)
  (h:∀(a:de) (t:Nat) L,dy prog w a (-s) L->(∀x,x∈L↔x∈n)->ο L<=I.size->
   (∀b o,b < -s->s.heap.get? b=δ o->a.get? b=δ o)->s.toks<=t->Q (.ref (-s)) { s with heap:=a,toks:=t }):
  π (υ prog w) A (call (.type "set") [.ref l]) Q E s:=by
 let⟨c,tl,m1⟩:=PySem.F.called_set.mro;let m0:=PySem.F.called_set.made;let sb:=PySem.F.called_set.sub;erw[Vb$ UZ ?_];show π _ _ (callAny (.type "set") _) _ _ _;erw[Op #[Code.quiet_builtin _ NM,P6 PySem.F.entry_type_call ?_]];rw[Around.under_plain (weight_type_call_type "set" [.ref l] []) Z];let n1:=PySem.F.called_set.notType;let n2:=PySem.F.called_set.canCreate;let ct:=PySem.F.typeCall_set_1 (.ref l);repeat (any_goals (first |assumption |wp_step))
 erw[Sb (QB (.ref l) (E:=E) (G:=λv S=>v= .ref (-s)/\S=‹s.heap.push (bM w)›) #[Z,Z]) λr S D=>?_];cases r with
 |error e=>rwa[D]
 |ok fl=>
  cases fl with
  |ret o2=>
   let⟨rfl,rfl⟩:=D;let J:(s.heap.push$ bM w).get? (-s)=δ (bM w):=Oy _ Z;let hT:Shared.TypeIs ‹s.heap.push (bM w)› (.ref (-s)) "set":=#[_,J,Z];let li:=PySem.F.called_set.init.lookup;let bi:=PySem.F.called_set.init.bind (.ref (-s));repeat (any_goals (first |assumption |wp_step))
   refine Sb (codeAny_call_builtin (R:=wants (λr d=>r= .none/\∃a t L,d={ s with heap:=a,toks:=t }/\dy prog w a (-s) L/\(∀x,x∈L↔x∈n)/\ο L<=I.size/\
     (∀b o,b < -s->s.heap.get? b=δ o->a.get? b=δ o)/\s.toks<=t) E) PySem.F.called_set.init.plain PySem.F.entry_set_init (check_set_init_1 hT ?_)) λp d H=>?_
   .let⟨ol,q,u,nl,y⟩:=hl;let⟨o1,g,K,O⟩:=ol;simp only at u y;subst u;subst y;let f:(s.heap.push$ bM w).get? l=δ { cls:=.type "list",dict:=g,data:=.seq I nl,slots:=O }:=Oo _ q;let ns:=PySem.F.sub_list_set;let nf:=PySem.F.sub_list_frozenset;let ne:(fr "list"==fr "dict")=ν:=by decide
    let j:(s.heap.push$ bM w).IsList l I:=#[_,f,Z,nl,Z];unfold bM at J hT f j ⊢;unfold dO.«set.__init__» noKeywords Builtin.Frozenset.updateFrom;generalize M:pyIter=PI;wp_walk;subst M;erw[Tq j ?_];erw[Om$ U9 ?_];let z:l < -s:=Ox q;let h3:A.in1.in1.in1.handled=θ:=by simp [hh]
    let N:l≠(s.heap.push$ bM w).objs.size:=by rw[Pn];rwa[OH$ RD z]
    let P:¬-s∈[(s.heap.push$ bM w).objs.size,l]:=by rw[Pn];simp only[RF,O5,TH,not_or];exact#[OH$ P8 _,Pq z]
    let B:ο n=I.size:=by rw[_L.StrsAre.len hi,OT]
    refine JH ((Walks.list h3 _ l N I).toS) (-s) P n B (λi v hv=>StrsAre.at' hi i v (by rw[Ra];exact hv)) C (I.size - 0) 0 _ [] NO (OA _)
     #[#[_,Oy _ Z,Z,Z],j.push _] (YG$ Oo _ J) (λx=>by simp) (Ou _) λs' L m T U V=>?_
    let⟨a,g',d',W,X⟩:=s';let eg:g'=s.gens:=m.gens;let ed:d'=s.drawn:=m.drawn;let eo:X=s.os:=m.os;subst eg;subst ed;subst eo;show π _ _ _ _ _ _;erw[Op ?_];show π _ _ (ret Ω) _ _ _;erw[Op #[Z,a,W,L,Z,T,U,V,λb o C e=>?_,m.toks]];let b1:b≠-s:=OH C;let b2:b≠(s.heap.push$ bM w).objs.size:=by rw[Pn];rwa[OH$ RD C]
    rwa[m.heap b o (by simp only[RF,O5,TH,not_or];exact#[b1,b2])$ Oo _$ Oo _ e]
   .cases p with
    |error e=>rwa[H]
    |ok k=>
     cases k with
     |ret r=>
      let⟨rfl,a,t,L,rfl,T,U,V,Y,q3⟩:=H;repeat (any_goals (first |assumption |wp_step))
      rwa[h _ _ _ T U V Y q3]
     |_=>rwa[H.elim]
  |_=>rwa[D.elim]
end
section
variable {X:Cx}
def Ja(m:X.calm=μ):fo X (.type "set") (λg H Q=>∃(p:ζ) (S:xL ρ),g=[.ref p]/\aL X.K H p (S.map tT)/\(∀L:xL ρ,L.Nodup->(∀x∈L,x∈S)->ο L+1 < scanBound)/\
  ∀l L,H l=θ->L.Nodup->(∀x,x∈L↔x∈S)->Q (.ref l) (af H l$ LJ X.prog X.w l L)):=by
 intro P s B H g U Q I r h;let⟨p,S,rfl,n,t,q⟩:=h;let⟨u,rfl,R⟩:=gr r;cases R;let⟨i,v,y,C⟩:=I.list n;let j:=qj v;let D:ο i=ο S:=(_L.StrsAre.len j).symm;erw[Kd (I.ok.hd m) y.isList (j:) t λc T L d z E k _=>?_];let a:L.Nodup:=by let⟨_,_,_,_,_,_,_,_,_,a,_⟩:=d;rwa[a]
 let A:∀b o,s.heap.get? b=δ o->c.get? b=δ o:=λb o e=>k b o (Ox e) e;obtain⟨o,f⟩:∃o,c.get? (-s)=δ o:=let #[o,_,_,_,f,_]:=d;#[o,f]
 exact#[.ref (-s),_,I.laid A (Ou _) (show a6 X.prog X.w _ c _ (LJ X.prog X.w (-s) L) from #[d,#[o,f],λF G x e=>dy.at x e]),Z,q _ _ (I.hok.fresh$ Ou _) a z]
end
section
variable {X:Cx}{CX:sq}{k:Nat}{f C:ζ}{fd:cc}{ps:xL ρ}{sp:Sp}{dvs:xL V}{ds:xL η}{E:XK}{x m:ρ}{p pos apos:Pos}{e:dr}{es:xL dr}{t:TA}
structure uQ(K:β)(C:ζ)(m:ρ)(f:ζ):Prop where
 rd:PySem.W.readsIn K C (.type "type")=μ
 ga:specialIn K (.ref C) "__getattribute__"=δ (δ$ .builtin "type.__getattribute__")
 at_:PySem.W.findCls K (.ref C) (.type "type") m=δ (.val$ .ref f)
 kp:gb K (.ref f)=μ
def ZZ{pl:Sem Bool}(j:Gl X x)(l:X.mg x=↑C)(M:uQ X.K C m f)(F:ai X.prog X.w X.K X.mg X.base CX k f fd ps sp)(n:bY k X.A)(q:aE X.K fd ps ds)(u:aG dvs ds)(v:eh CX X E)(y:PA X (e::es) t)
  (a:↥((x==("__debug__":ρ))=ν))
  (c:↥(Δ (e::es) X.env=(ν,eval e X.env)::Δ es X.env)) (d:↥((fy pos$ Δ es X.env).any (·.1)=ν))
  (z:↥(eval (.Call (.Attribute (.Name x p) m apos) (e::es) [] pos) X.env=(do
   let O <- eval (.Name x p) X.env
   standAt apos.atName
   let (f,first) <- mB [O] (getMethod O m pl)
   callWith pos f first (fy pos$ Δ (e::es) X.env) (backToKw pos$ keywordEach [] X.env)))):
  PE X (.Call (.Attribute (.Name x p) m apos) (e::es) [] pos) (fb sp dvs E t):=by
 intro P s g H Q I h;erw[Tg (pl:=pl) (qe I j l ?_ a) z];erw[PySem.W.method_cls I.kIn M.ga$ PySem.W.cls_value I.kIn M.rd M.at_ Z ?_];let B:ax X P g H { s with toks:=s.toks+1 }:=I.kept (h':=s.heap) λb o e=>e;erw[Uo (h₀:=X.base) I.ok.mod.kin M.kp (a8 (y pos P _ g H _ B h) λU S #[G,J,i,r,D]=>#[i.kIn,?_]) c d];rwa[Xi F n q u v i r D]
end
abbrev gJ(h:de)(z u v T:ζ)(f:Bool):Prop:=
 h.get? z=δ { cls:=.type "zip",dict:=θ,data:=.fields (ε [rawInt T,.bool f,.bool ν,.ref u,.ref v]),slots:=(ε []) }
section
#print v
def uL{Q:ym hG->ι->Prop}(h:Q (s.heap.get? a) s):π M A (loadIfAlive a) Q E s:=λ_ _ _=>h
def Hu{Q:Bool->ι->Prop}(H:gJ s.heap z u v T f)(a:∃o,s.heap.get? T=δ o)
  (q:∀h,gJ h z u v T μ->nI z s.heap h->h.objs.size=-s->Q ν ‹h›):π (υ prog w) A (bx$ .ref z) Q E s:=by
 unfold bx;erw[Om$ O0 H Z (x:=rawInt T) Z ?_];show π _ _ (loadIfAlive ((T:Int).toNat) >>= _) _ _ s;erw[Om$ uL ?_];let⟨o,c⟩:=a;rw[Ph,c];simp only[Vh,OJ,PX];erw[Om$ O0 H Z (x:=.bool f) Z ?_];cases f with
 |true=>simp only[P7,OJ,PX];rwa[Om$ Op$ Op$ q s.heap H (λb o _ e=>e) Z]
 |false=>rw[OB NP];erw[Om$ RS H NN λh d S=>Op (q h d S.extBut S.1)]
def CG{Q:ym η->ι->Prop}(D:Aq z u v c d a b)
  (g:gJ s.heap z u v T f) (p:∃o,s.heap.get? T=δ o) (q:IsPair s.heap u (.ref c) (.ref d)) (r:iO B s.heap c a k) (t:iO l s.heap d b k) (G:lR B s.heap a C) (F:lR l s.heap b Y) (I:C[k]?=δ x) (J:Y[k]?=δ y)
  (L:∀h,gJ h z u v T μ->iO B h c a (k+1)->iO l h d b (k+1)->IsPair h (-s) x y->h.objs.size=-s+1->
   (∀e o,e≠z->e≠c->e≠d->s.heap.get? e=δ o->h.get? e=δ o)->Q (δ$ .ref (-s)) ‹h›):π (υ prog w) A (pyNext$ .ref z) Q E s:=by
 let H:s.TypeIs (.ref z) "zip":=#[_,g,Z];unfold pyNext;erw[Om$ Sl$ Pa (name:=Str.ofString "__next__") H PV$ O7 PV H Si (show π _ _ (field (.ref z) 2 >>= _) _ _ _ from ?_)$ R6 _];erw[Om$ O0 g Z (x:=.bool ν) Z (show π _ _ (field (.ref z) 3 >>= _) _ _ _ from Om$ O0 g Z (x:=.ref u) Z$ Om$ Pu q Z ?_)];erw[(show π _ _ (bx (.ref z) >>= _) _ _ _ from Om$ Hu g p λO P i n=>?_)];simp only[OJ,PX];erw[Om ?_];simp only[Vt,RN,SR];erw[Om$ Om$ OV (show π _ _ (Φ (.ref c) >>= _) _ _ _ from ?_)];erw[Om$ qk (s:=‹O›) (r.kp λo e=>i _ _ D.cz e) (G.kp λo e=>i _ _ D.az e) I λM R j=>Op (Op ?_)];erw[Om$ Om$ OV (show π _ _ (Φ (.ref d) >>= _) _ _ _ from ?_)];let K:∀e o,e≠z->e≠c->s.heap.get? e=δ o->M.get? e=δ o:=λe o n U w=>j.extBut _ _ U (i _ _ n w);erw[Om$ qk (s:=‹M›) (t.kp λo e=>K _ _ D.dz D.cd.symm e) (F.kp λo e=>K _ _ D.bz D.bc e) J λm V S=>Op (Op$ Op ?_)];show π _ _ (newTuple [x,y] >>= _) _ _ _;erw[Om$ Sw$ Op #[_,Z,Op ?_]];let N:m.objs.size=-s:=by rw[S.1,j.1];rwa[n]
 let W:gJ m z u v T μ:=S.extBut _ _ D.dz.symm (j.extBut _ _ D.cz.symm P);show Q (δ$ .ref m.objs.size) _;rw[N];erw[L _ (Oo _ W) (R.kp λo e=>Oo _ (S.extBut _ _ D.cd e)) (V.kp λo e=>Oo _ e) (by rw[<- N];rwa[Oy _ Z]) (by rw[Pn,N]) λe o X a2 a3 w=>Oo _ (S.extBut _ _ a3$ K _ _ X a2 w)]
def GJ{b2:Bool}{ys:Array η}{Q:ym η->ι->Prop}(j:A.handled=θ)(D:Aq z u v c d a b)
  (H:gJ s.heap z u v T f) (l:∃o,s.heap.get? T=δ o) (m:IsPair s.heap u (.ref c) (.ref d)) (p:iO B s.heap c a k) (G:lR B s.heap a q) (r:q[k]?=θ)
  (t:∀i,(∀e o,e≠z->e≠c->e≠d->s.heap.get? e=δ o->i.get? e=δ o)->Q θ ‹i›):π (υ prog w) A (pyNext$ .ref z) Q E s:=by
 let h:s.TypeIs (.ref z) "zip":=#[_,H,Z];unfold pyNext;erw[Om$ Sl$ Pa (name:=Str.ofString "__next__") h PV$ O7 PV h Si (show π _ _ (field (.ref z) 2 >>= _) _ _ _ from ?_)$ R6 _];erw[Om$ O0 H Z (x:=.bool ν) Z (show π _ _ (field (.ref z) 3 >>= _) _ _ _ from Om$ O0 H Z (x:=.ref u) Z$ Om$ Pu m Z ?_)];erw[(show π _ _ (bx (.ref z) >>= _) _ _ _ from Om$ Hu H l λM F g n=>?_)];simp only[OJ,PX];erw[Om ?_];simp only[Vt,RN,SR];erw[Om$ Om$ OV (show π _ _ (Φ (.ref c) >>= _) _ _ _ from ?_)];erw[Om$ Q8 (s:=‹M›) (j:) (p.kp λo e=>g _ _ D.cz e) (G.kp λo e=>g _ _ D.az e) r λy e S C=>?_];rwa[Om$ RL (T:="StopIteration") (b:=μ) C Uc$ Op$ t y λe o n N I w=>S _ _ N (g _ _ n w)]
end
def JW:typeLookup (.type "zip") "__getattr__"=pure θ:=by rw[P5,Pl];kernel_rfl
def YJ:typeLookup (.type "zip") "keys"=pure θ:=by rw[P5,Pl];kernel_rfl
def XT:entryFor table "zip.__getattribute__"=δ dO.«object.__getattribute__»:=
 Ud (id':="object.__getattribute__") (by kernel_rfl) NM NM (by kernel_rfl)
def Qt(a:ζ)(x:Array η)(S:Array (ym η))(u:Tok):
  Meets (dO.«object.__getattribute__» #[[.ref a,.str "keys" u],[]]) (λA R s=>s.heap.get? a=δ { cls:=.type "zip",dict:=θ,data:=.fields x,slots:=S }/\raisesAttr (.ref a) "keys" A R s):=
 Wq λp w A R s H=>by
  let⟨c,g,d,t,os⟩:=s;let⟨e,H⟩:=H;let f:(#[c,g,d,t,os]:ι).TypeIs (.ref a) "zip":=#[_,e,Z];let b:=YJ;let h:(["__module__","__name__","__qualname__","__doc__","__annotations__"]:xL ρ).contains "keys"=ν:=NM
  unfold dO.«object.__getattribute__»;repeat (any_goals (first |assumption |wp_step))
  try simp only[h,OJ,PX]
  repeat (any_goals (first |assumption |wp_step))
  rwa[wpAny_raiseAttrError H.1 H.2$ attrMsg_fits NM (by size_fits)]
section
#print v
def A4{Q:ym η->ι->Prop}(f:s.heap.get? a=δ { cls:=.type "zip",dict:=θ,data:=.fields x,slots:=j })(k:A.handled=θ)
  (h:∀c T,(∀b o,s.heap.get? b=δ o->c.get? b=δ o)->Q θ { s with heap:=c,toks:=T }):π (υ prog w) A (getAttr? (.ref a) "keys") Q E s:=by
 let⟨l,g,d,T,os⟩:=s;let i:∀t,(#[l,g,d,t,os]:ι).TypeIs (.ref a) "zip":=λ_=>#[_,f,Z];let m:=sub_AttributeError;let n:=lu.lookup;let p:=lu.bind (.ref a);let q:=JW;unfold getAttr? getAttrBy? getAttrBy;repeat (any_goals (first |assumption |exact i _ | ((with_reducible show π _ _ (call (Value.builtin "zip.__getattribute__") _ _) _ _ _);erw[Um lu (i _) XT (PySem.F.args_zip_getattribute_2 _ _) (Qt a x j _) #[f,by simpa using k,λc t e H=>?_]]) |wp_step))
 let⟨r,u,v⟩:=H.there;show π _ _ (getattributeRaised _ _ _ _ _ _ _) _ _ _;unfold getattributeRaised;repeat (any_goals (first |assumption |wp_step))
 rwa[h _ _ H.keeps]
def DP(h:de)(z u v c d a b Dd:ζ)(x y:Array η)(i:Nat):Prop:=
 ((IsZip h z u v .none/\∃p q,IsPair h v p q)∨∃T f o,gJ h z u v T f/\h.get? T=δ o/\T≠z/\T≠c/\T≠d/\T≠Dd)/\IsPair h u (.ref c) (.ref d)/\iO ν h c a i/\iO ν h d b i/\lR ν h a x/\lR ν h b y
def CM{Dd:ζ}{Q:ym η->ι->Prop}(D:Aq z u v c d a b)(l:Dd < -s)(S:DP s.heap z u v c d a b Dd J Y k)(L:J[k]?=δ x)(M:Y[k]?=δ y)
  (N:∀h,DP h z u v c d a b Dd J Y (k+1)->IsPair h (-s) x y->h.objs.size=-s+1->(∀e o,e≠z->e≠v->e≠c->e≠d->s.heap.get? e=δ o->h.get? e=δ o)->Q (δ$ .ref (-s)) ‹h›):π (υ prog w) A (pyNext$ .ref z) Q E s:=by
 let⟨H,g,j,m,G,i⟩:=S;let⟨oc,n,_⟩:=j.ob;let⟨od,r,_⟩:=m.ob;rcases H with ⟨H,p,q,U⟩ | ⟨T,f,o,H,O,t,P,R,V⟩
 .erw[CH D H g U j m G i L M λh B v1 I C t F K=>N h #[.inr #[-s,ν,_,B,t,Pq$ Ox H,Pq$ Ox n,Pq$ Ox r,Pq l],K _ _ D.uz D.uv D.uc D.ud g,I,C,G.kp λo e=>K _ _ D.az D.av D.ac D.ad e,i.kp λo e=>K _ _ D.bz D.bv D.bc D.bd e] t F K]
 .erw[CG D H #[o,O] g j m G i L M λh B I C W F K=>N h #[.inr #[T,μ,o,B,K _ _ t P R O,t,P,R,V],K _ _ D.uz D.uc D.ud g,I,C,G.kp λo e=>K _ _ D.az D.ac D.ad e,i.kp λo e=>K _ _ D.bz D.bc D.bd e] W F λe o X n2 n3 n4 w=>K e o X n3 n4 w]
def GN{Dd:ζ}{Q:ym η->ι->Prop}(g:A.handled=θ)(D:Aq z u v c d a b)(n:DP s.heap z u v c d a b Dd x ys k)(i:x[k]?=θ)
  (j:∀H,(∀e o,e≠z->e≠v->e≠c->e≠d->s.heap.get? e=δ o->H.get? e=δ o)->Q θ ‹H›):π (υ prog w) A (pyNext$ .ref z) Q E s:=by
 let⟨h,l,m,B,G,C⟩:=n;rcases h with ⟨h,p,q,F⟩ | ⟨T,f,o,h,r,I,J,L,M⟩
 .rwa[GK (b2:=ν) (p:=p) (q:=q) (ys:=ys) g D h l m G i j]
 .rwa[GJ (b2:=ν) (ys:=ys) g D h #[o,r] l m G i λH K=>j H λe o N O t y w=>K e o N t y w]
structure LZ(D z u v c d a b:ζ):Prop where
 z:D≠z
 u:D≠u
 v:D≠v
 c:D≠c
 d:D≠d
 a:D≠a
 b:D≠b
def DP.keep{h j:de}{Dd:ζ}(F:LZ Dd z u v c d a b)(k:∀e o,e≠Dd->h.get? e=δ o->j.get? e=δ o)(st:DP h z u v c d a b Dd x y i):DP j z u v c d a b Dd x y i:=by
 let⟨H,l,m,n,G,r⟩:=st;erw[#[?_,k _ _ F.u.symm l,m.kp λo e=>k _ _ F.c.symm e,n.kp λo e=>k _ _ F.d.symm e,G.kp λo e=>k _ _ F.a.symm e,r.kp λo e=>k _ _ F.b.symm e]];rcases H with ⟨H,p,q,B⟩ | ⟨T,f,o,H,g,C,D,I,t⟩
 .rwa[.inl #[k _ _ F.z.symm H,p,q,k _ _ F.v.symm B]]
 .rwa[.inr #[T,f,o,k _ _ F.z.symm H,k _ _ t g,C,D,I,t]]
def Qu{K:Type}[DecidableEq K]{knd:KeyKind prog w K}{R:Result->ι->Prop}{Dd:ζ}{x:Array η}(X:A.handled=θ)(D:Aq z u v c d a b)(F:LZ Dd z u v c d a b)(m:xL (K×η))(Y:ο m=x.size)(h0:x.size<=τ)
  (hP:∀(i:Nat),i < x.size->∃f V k,x[i]?=δ f/\ys[i]?=δ V/\knd.is k f=μ/\m[i]?=δ (k,V)):
  ∀(j i:Nat) (s:ι) (n:Int),x.size - i=j->i<=x.size->DP s.heap z u v c d a b Dd x ys i->s.heap.DictOf knd Dd (merged []$ m.take i)->
   (∀h T,(∀e o,e≠Dd->e≠z->e≠v->e≠c->e≠d->s.heap.get? e=δ o->h.get? e=δ o)->h.DictOf knd Dd (merged [] m)->R (.ok$ .ret .none) { s with heap:=h,toks:=T })->
   kz (υ prog w) A (.builtin "dict.update.loop" #[[.ref Dd,.ref z,.int n 0,.none],[]]) R s:=by
 intro j;induction j with
 |zero=>
  intro i s n hj hi st q C;let e:i=x.size:=NO
  subst e;erw[P6 J6 ?_];rw[Pt zP];show π _ A.in1 (pyNext (.ref z) >>= _) _ _ s;erw[Om$ GN (X:) D st NN λh g=>?_];show π _ A.in1 (Builtin.Dict.addKeywords Dd [] >>= λ_=>ret Ω) _ _ ‹h›;erw[Om ?_];unfold Builtin.Dict.addKeywords;erw[Op$ Op$ C h s.toks (λe o _ N t y B w=>g e o N t y B w) ?_];rw[<- Y,Pg]at q;let⟨o,es,ep,ho,r⟩:=q;exact#[o,es,ep,g _ _ F.z F.v F.c F.d ho,r]
 |succ j ih=>
  intro i s n hj hi st q C;let M:i < x.size:=NO
  let⟨f,V,k,hx,hy,O,hm⟩:=hP i M;erw[P6 J6 ?_];rw[Pt zP];show π _ A.in1 (pyNext (.ref z) >>= _) _ _ s;let⟨oD,G,I,H,rD⟩:=id q;let L:Dd < -s:=Ox H;erw[Om$ CM D L st hx hy λl S P N g=>?_];let hb:Shared.TypeIs ‹l› (.ref (-s)) "tuple":=#[_,P,Z];let J:l.DictOf knd Dd (merged []$ m.take i):=#[oD,G,I,g _ _ F.z F.v F.c F.d H,rD];dsimp only;erw[Om$ OV ?_];erw[Om$ wpAny_tryCatch ?_];unfold Builtin.Dict.pairItems;erw[Om$ Rt hb ?_];rw[OB NP];erw[Om$ Pu P Z$ Op ?_];show π _ A.in1 (mB [f,V]$ dictSet Dd f V) _ _ ‹l›;unfold dictSet;erw[OV$ OV$ Om$ knd.pyHash O ?_];let Q:(merged ([]:xL (K×η))$ m.take i).length<=i:=by let:=Wz ([]:xL (K×η)) (m.take i);rw[OZ]at this;simp only[Us]at this;omega
  erw[wpAny_dictSetHashed_pairs (s:={ s with heap:=l,toks:=s.toks+1 }) O J (λh p sb=>?_) NO];rw[<- merged_take_succ [] m i (k,V) hm]at p;let U:∀e o,e≠Dd->l.get? e=δ o->h.get? e=δ o:=λe o ne w=>(sb.2 e ne).trans w;erw[Op #[RG zP _,ih (i+1) _ (n+1) NO M (S.keep F U) p λh2 T k2 d2=>C h2 T (λe o W N t y B w=>k2 e o W N t y B (U _ _ W$ g e o N t y B w)) d2]]
def QH{K:Type}[DecidableEq K]{knd:KeyKind prog w K}{more:xL (K×η)}{Q:η->ι->Prop}(N:A.handled=θ)(D:Aq z u v c d a b)
  (j:IsZip s.heap z u v .none) (P:IsPair s.heap u (.ref c) (.ref d)) (m:∃p q,IsPair s.heap v p q) (U:iO ν s.heap c a 0) (V:iO ν s.heap d b 0) (W:lR ν s.heap a x) (X:lR ν s.heap b ys)
  (hn:ο more=x.size) (n:x.size<=τ) (hP:∀(i:Nat),i < x.size->∃Y vu k,x[i]?=δ Y/\ys[i]?=δ vu/\knd.is k Y=μ/\more[i]?=δ (k,vu))
  (h:∀l t,l.DictOf knd (-s) (merged [] more)->(∀e o,e≠z->e≠v->e≠c->e≠d->s.heap.get? e=δ o->l.get? e=δ o)->Q (.ref (-s)) { s with heap:=l,toks:=t }):
  π (υ prog w) A (call (.type "dict") [.ref z]) Q E s:=by
 erw[callType_codes (Q₁:=λO S=>O= .ref (-s)/\S=‹s.heap.push { cls:=.type "dict",data:=.dict (ε []) }›) PySem.F.kt_called_dict (PySem.F.kt_typeCall_dict_1 _) PySem.F.entry_dict_init (kt_code_dict_new _ #[Z,Z]) ?_];rintro O S ⟨rfl,rfl⟩;let f:(s.heap.push { cls:=.type "dict",data:=.dict (ε []) }).DictOf knd (-s) []:=U8 s.heap;erw[#[f.typeIs,PySem.F.args_dict_init_2 _ _,?_]];unfold dO.«dict.__init__»;erw[Om ?_];unfold Builtin.Dict.selfAndRest;erw[Om$ wpAny_notOrdered_dict f.typeIs ?_];show π _ _ (pure (-s,[Θ z])) _ _ _;erw[Op ?_];show π _ _ (Builtin.Dict.updateFrom "dict.__init__" (-s) (.ref z) [] .none) _ _ _;unfold Builtin.Dict.updateFrom;generalize hH:s.heap.push { cls:=.type "dict",data:=.dict (ε []) }=H at f ⊢;let G:∀b o,s.heap.get? b=δ o->H.get? b=δ o:=λb o e=>by rw[<- hH];rwa[Oo _ e]
 erw[Om$ Rt #[_,G _ _ j,Z] ?_];rw[OB NP];erw[Om$ A4 (s:=‹H›) (G _ _ j) (N:) λM t k1=>?_];simp only[Vi,SN];erw[Om$ Ry ?_];let g:∀b o,s.heap.get? b=δ o->M.get? b=δ o:=λb o e=>k1 _ _ (G _ _ e);erw[Om$ wpAny_pyIter_zip (s:={ s with heap:=M,toks:=t }) (g _ _ j) ?_];let⟨oD,eD,y,B,rD⟩:=f;let⟨p,q,m⟩:=m;let⟨oc,C,_⟩:=U.ob;let⟨od,I,_⟩:=V.ob;let⟨oa,J,_⟩:=id W;let⟨ob,L,_⟩:=id X;let F:LZ (-s) z u v c d a b:=#[Pq$ Ox j,Pq$ Ox P,Pq$ Ox m,Pq$ Ox C,Pq$ Ox I,Pq$ Ox J,Pq$ Ox L];refine Op #[RG zP _,Sb (Qu (knd:=knd) (A:=A.in1) (R:=λr s'=>r= .ok (.ret .none)/\Q (.ref (-s)) s') (N:) D F more hn n hP x.size 0 { s with heap:=M,toks:=t } 0 Z (OA _)
  #[.inl #[g _ _ j,p,q,g _ _ m],g _ _ P,U.kp λo e=>g _ _ e,V.kp λo e=>g _ _ e,W.kp λo e=>g _ _ e,X.kp λo e=>g _ _ e] #[oD,eD,y,k1 _ _ B,rD] λl T k2 d2=>#[Z,?_]) λr s' q=>?_]
 .rwa[h l T d2 λe o n1 n2 n3 n4 w=>k2 e o (OH$ Ox w) n1 n2 n3 n4 (g _ _ w)]
 .let⟨rfl,q⟩:=q;exact#[Z,q]
end
section
variable {X:Cx}{e1 e2:dr}{ta:TA}{p p2 pos pos2:Pos}
inductive Lo(K:β)(Q:VK)(e:xL V)(c:Hp):Prop
 |mk(a b:ζ)(d:xL cf)(f:xL V)(_:e=[.ref a,.ref b])(_:aF K c a (d.map kV))(_:aF K c b f)(_:ο d=ο f)(_:∀l,c l=θ->Q (.ref l) (af c l (.dK (dN [] (d.zip f)))))
def Ny(K:β)(ta:TA):TE:=λa H Q=>ta a H (Lo K Q)
theorem Z0{P:ψ}{w:bF}:∀{K:xL cf} {U:xL η},aG (K.map kV) U->∀(i:Nat) (k:cf),K[i]?=δ k->∃u,U[i]?=δ u/\(bf P w).is k u=μ
 | [],_,_,i,k,h=>by simp at h
 |k0::K,_,.cons (b:=u) h t,0,k,e=>by
  let E:k0=k:=by simpa using e
  subst E;exact#[u,Z,QO h]
 |k0::K,_,.cons h t,i+1,k,e=>by simpa using Z0 (P:=P) (w:=w) t i k (e:)
theorem wm:∀{K:xL cf} {y:xL V} {u:xL η},aG y u->KV (K.zip y) (K.zip u)
 | [],_,_,_=>by simp only[List.zip_nil_left];rwa[.nil]
 |_::_,_,_,.nil=>by simp only[List.zip_nil_right];rwa[.nil]
 |k::K,_,_,.cons h t=>.cons #[Z,h] (wm t)
def Z1(m:Gl X "dict")(n:X.mg "dict"=θ)(t:Gl X "zip")(v:X.mg "zip"=θ)(N:X.calm=μ)(O:PA X [e1,e2] ta)
  (T:↥(Δ [e1,e2] X.env=(ν,eval e1 X.env)::Δ [e2] X.env)) (U:↥((fy pos2$ Δ [e2] X.env).any (·.1)=ν))
  (f:↥(Δ [Expr.Call (.Name "zip" p2) [e1,e2] [] pos2] X.env=(ν,eval (.Call (.Name "zip" p2) [e1,e2] [] pos2) X.env)::Δ [] X.env)) (x:↥((fy pos$ Δ [] X.env).any (·.1)=ν)):
  PE X (.Call (.Name "dict" p) [.Call (.Name "zip" p2) [e1,e2] [] pos2] [] pos) (Ny X.K ta):=by
 intro P s V H Q I h;erw[Py$ zQ I m n PyProof.Rows.boot_dict ?_];erw[Pf ?_ f x];rw[f];show π _ _ (spliced ((ν,eval _ X.env)::fy pos (Δ [] X.env))) _ _ s;erw[Rr ?_];erw[Py$ zQ I t v PyProof.Rows.boot_zip ?_];erw[Pf (a8 (O pos2 P s V H _ I h) λus S z=>?_) T U];let⟨vs,H1,d,W,Y⟩:=z;let⟨a,b,c,ys,e,gx,gy,hl,q⟩:=Y;subst e;cases W with
 |cons r rr=>
  cases rr with
  |cons r' y=>
   cases y;cases r;cases r';let⟨A,F,G,z1⟩:=d.tuple gx;let⟨j,R,C,z2⟩:=d.tuple gy;let l1:=F.length;let l2:=R.length;rw[Oq]at l1 z1;let la:a < -S:=by let⟨o,D,_⟩:=G;rwa[Ox D]
   let lb:b < -S:=by let⟨o,D,_⟩:=C;rwa[Ox D]
   erw[GL (b1:=ν) (b2:=ν) (xs:=A.toArray) (ys:=j.toArray) G C λE J u' v' i1 i2 k=>?_];erw[RQ ?_];let Dz:=CJ (-S) a b la lb;erw[QH (s:={ S with heap:=E }) (knd:=bf X.prog X.w) (more:=c.zip j) (d.ok.hd N) Dz J u' #[_,_,v'] i1 i2 (lR.kp (b:=ν) G λo e=>k _ _ e) (lR.kp (b:=ν) C λo e=>k _ _ e) (by rw[Ur,Ov];omega) (by rw[Ov];omega) (λi hi=>?_) λh2 tk dd k2=>?_]
   .rw[Ov]at hi;let L:i < ο c:=by omega
    let M:i < ο j:=NO
    let⟨u,hu,ku⟩:=Z0 F i _ (On L);erw[#[u,j[i],c[i],by simpa using hu,by simp [M],ku,?_]];rw[UM];exact#[On L,On M]
   .let g:KV (dN []$ c.zip ys) (merged []$ c.zip j):=KV.merge (wm R) .nil;let zl:(dN []$ c.zip ys).length<=τ:=by rw[g.length];let:=Wz ([]:xL (cf×η)) (c.zip j);rw[Ur]at this;simp only[Us]at this;omega
    let k3:∀e o,S.heap.get? e=δ o->h2.get? e=δ o:=λe o w=>by let l:=Ox w;rwa[k2 e o (OH$ OM l$ RY _ _) (OH$ OM l$ RY _ _) (OH l) (OH$ OM l$ RY _ _)$ k _ _ w]
    let B:-S<=E.objs.size:=RE (PR (RY _ 4)$ Ox J);exact#[.ref E.objs.size,_,d.laid k3 B$ YT zl (beq_eq_false_iff_ne.mpr$ O3$ OH$ OM d.big B) g dd,Z,q _$ d.hok.fresh B]
end
section
variable {X:Cx}{st:bU}{ss:xL bU}{e:dr}{es:xL dr}
def Nx:TS:=λ_ _ _=>False
def xu:nG X ss Nx:=λ_ _ _ _ _ _ h=>False.elim h
end
end _L
namespace _L
open PySem PySem.Spec PyProof.Rows PySem.SeqAt
inductive IQ(K:β)(x y:V)(H:Hp)(Q:VK):Prop
 |mk(a b d e:_)(_:x= .ref a)(_:y= .ref b)(_:aF K H a d)(_:aF K H b e)(_:(d.all dC=μ/\e.all dC=μ/\Q (.bl (vI d e)) H)∨∃(w:ρ) (c:ζ) (zs:xL V) (u:ρ) (i:Int),d=[.str w,.ref c]/\aF K H c zs/\e=[.str u,.int i]/\Q (.bl ν) H)
def Fk{X:Cx}(d:X.A.units+1 < cLine):fq X (compareOp .Eq) (IQ X.K):=by
 intro p s m H x y v U Q I f g h;obtain⟨a,b,n,Y,rfl,rfl,k,l,h | ⟨w,c,M,u,i,rfl,o,rfl,q⟩⟩:=h
 .rwa[Fj (Su d) p s m H _ _ v U Q I f g #[a,b,n,Y,Z,Z,k,l,h.1,h.2.1,h.2.2]]
 cases f;cases g;let⟨N,r,P,_⟩:=I.tuple k;let⟨O,R,t,_⟩:=I.tuple l;let⟨S,V,z,_⟩:=I.tuple o;cases r with
 |cons B r=>
  cases r with
  |cons C r=>
   cases r;cases R with
   |cons D R=>
    cases R with
    |cons E R=>
     cases R;let⟨T,rfl⟩:=B;cases C;let⟨F,rfl⟩:=D;let⟨G,rfl⟩:=E;erw[eq_tupleAt (e:=λj=>if j=0 then w==u else ν) (show s.heap.IsTuple a _ from P) (show s.heap.IsTuple b _ from t) (Su d) (λj J L=>?_) ?_]
     .match j,J,L with
      |0,_,_=>rwa[Wt w T u F]
      |1,_,_=>rwa[Wc i G (show s.heap.IsTuple c _ from z) (by simpa [Around.in1,Around.units] using d)]
     .let e:((dw$ min 2 2).all (λj=>if j=0 then w==u else ν)&&(2:Nat)==2)=ν:=by show((if 0=0 then w==u else ν)&&((if 1=0 then w==u else ν)&&μ)&&μ)=ν;simp
      exact#[.bl ν,H,I,PL sn e,q]
end _L
namespace _L
open PySem PySem.Spec PyProof.Rows
def YK(l:ζ)(i:Array η)(n:Nat)(D:ym ζ)(S:Array (ym η)):
  Meets (dO.«enumerate.__new__» #[[.type "enumerate",.ref l],[]]) (λ_ R s=>s.heap.get? l=δ { cls:=.type "tuple",dict:=D,data:=.seq i n,slots:=S }/\
   R (.ok$ .ret$ .ref (s.heap.push { cls:=.type "tuple_iterator",data:=.fields (ε [.ref l,.int 0 0]) }).objs.size)
    ‹(s.heap.push { cls:=.type "tuple_iterator",data:=.fields (ε [.ref l,.int 0 0]) }).push { cls:=.type "enumerate",data:=.fields (ε [.none,.bool ν,.ref (-s),rawInt 0,.none,.none]) }›):=
 .of_wp λp w A R s h=>by
  let⟨e,g,d,t,os⟩:=s;let⟨H,h⟩:=h;let b:=sub_enumerate;let a:Heap.IsTuple (Shared.heap #[e,g,d,t,os]) l i:=#[_,H,Z,n,Z];wp_walk using Rb H;erw[wpAny_stack_any λst=>Op ?_];split
  .rename_i c _ _ _ _ _
   cases (c==fr "enumerate")
   .wp_walk using Rb H,Sq a;exact#[_,Z,h]
   .wp_walk using Rb H,Sq a;exact#[_,Z,h]
  .wp_walk using Rb H,Sq a;exact#[_,Z,h]
section
#print v
def Zq{Q:η->ι->Prop}(j:s.heap.IsTuple l i)
  (h:∀H,IsEnum H (-s+1) (-s) 0 .none->H.IsTupleIter (-s) l 0->(∀b o,s.heap.get? b=δ o->H.get? b=δ o)->Q (.ref$ -s+1) ‹H›):
  π (υ prog w) A (call (.type "enumerate") [.ref l]) Q E s:=by
 obtain⟨⟨c,d,D,S⟩,k,a,n,e⟩:=j;replace a:c= .type "tuple":=a;replace e:D= .seq i n:=e;subst a e;erw[VC PySem.F.called_enumerate NP (PySem.F.typeCall_enumerate_1 _) (PySem.F.newCall_enumerate_1 _) (λO=>SI O _) PySem.F.entry_enumerate_new (YK l i n d S) #[k,?_]];let f:(s.heap.push { cls:=.type "tuple_iterator",data:=.fields (ε [.ref l,.int 0 0]) }).objs.size=-s+1:=Pn ..;show _/\_;rw[f];let g:IsEnum ((s.heap.push { cls:=.type "tuple_iterator",data:=.fields (ε [.ref l,.int 0 0]) }).push { cls:=.type "enumerate",data:=.fields (ε [.none,.bool ν,.ref (-s),rawInt 0,.none,.none]) }) (-s+1) (-s) 0 .none:=by let:=Oy (s.heap.push { cls:=.type "tuple_iterator",data:=.fields (ε [.ref l,.int 0 0]) }) (o:={ cls:=.type "enumerate",data:=.fields (ε [.none,.bool ν,.ref (-s),rawInt 0,.none,.none]) }) Z;rw[f]at this;rwa[this]
 exact#[#[_,g,Z],h _ g #[_,Oo _$ Oy _ Z,Z,Z] λb o x=>Oo _ (Oo _ x)]
def yW{c:Type}{Q:c->ι->Prop}(d:A.handled=θ)
  (h:∀H (e:ζ),(∀b o,s.heap.get? b=δ o->H.get? b=δ o)->Shared.TypeIs ‹H› (.ref e) "StopIteration"->E (.ref e) ‹H›):
  π (υ prog w) A (do raiseNew (<- newExc (.type "StopIteration") []):Sem c) Q E s:=by
 erw[Om ?_];simp only[newExc,newTuple];erw[Om$ Pd ?_ (by size_fits)];erw[Om (m:=firstArgMember _ _)$ Ts (a:=Ω) ?_ ?_]
 .first |rfl | (simp only[firstArgMember];rfl)
 erw[Pd ?_ (by size_fits)];simp only[raiseNew];erw[Om$ wpAny_handled ?_];rw[d];erw[Om$ Op$ wpAny_throw$ h _ _ (λb o e=>Oo _ (Oo _ e)) ?_];exact#[_,Oy _ Z,Z]
def Qg{J T:ζ}{i:Nat}{I:Array η}{Q:η->ι->Prop}(g:A.handled=θ)(H:s.heap.IsTupleIter J T i)(j:s.heap.IsTuple T I)(l:I[i]?=θ)
  (q:∀h (e:ζ),nI J s.heap h->Shared.TypeIs ‹h› (.ref e) "StopIteration"->E (.ref e) ‹h›):π (υ prog w) A (Φ$ .ref J) Q E s:=by
 let⟨o,a,p,c⟩:=id H;let⟨O,d,_,N,f⟩:=j;unfold Φ;erw[Om$ Pa (name:=Str.ofString "__next__") H.typeIs PJ$ O7 PJ H.typeIs Sc (show π _ _ (field (.ref J) 0 >>= _) _ _ s from ?_)$ R0 _];erw[Om$ O0 a c (x:=.ref T) Z (show π _ _ (if (Θ T==Ω)=μ then _ else _) _ _ s from ?_)];rw[OD (show ¬((Θ T==Ω)=μ) from OG)];erw[(show π _ _ (field (.ref J) 1 >>= _) _ _ s from Om$ O0 a c (x:=.int i 0) Z (show π _ _ (seqItems? (.ref T) >>= _) _ _ s from Om$ Pu d f ?_))];simp only[Ph,l];erw[Om$ Ry$ Om$ Pp a c NN ?_];erw[yW (g:) λh e k t=>q h e (λb o m n=>k b o ?_) t];exact(OP _ _$ O3 m).trans n
def sS(m:A.handled=θ)(a l:ζ)(d:l≠a)(I:Array η):
  Draws prog w A a [a,l] I.size (λi v=>I[i]?=δ v) (λi h=>h.IsTupleIter a l i/\h.IsTuple l I) where
 live:=λ_ _ st=>let #[o,H,_]:=st.1;#[o,H]
 frame:=λ_ _ _ st g=>#[st.1.at λo e=>g a NN o e,let #[o,H,r]:=st.2;#[o,g l NN o H,r]]
 item:=λi s Q E j st n=>Qe st.1 st.2 (x:=I[i]) (by simp [j]) λf b c=>n _ f s.toks (by simp [j]) #[b,let #[o,H,r]:=st.2;#[o,c.extBut l o d H,r]] c
 done:=λs Q E st p=>Qg m st.1 st.2 NN λf e k t=>p f e k t
def Zr(c:A.handled=θ)(a l:ζ)(I:Array η)(i:Nat)(d:I[i]?=θ):
  Draws prog w A a [a,l] i (λ_ _=>True) (λj h=>j=i/\h.IsTupleIter a l i/\h.IsTuple l I) where
 live:=λ_ _ st=>let #[o,H,_]:=st.2.1;#[o,H]
 frame:=λ_ _ _ st b=>#[st.1,st.2.1.at λo e=>b a NN o e,let #[o,H,r]:=st.2.2;#[o,b l NN o H,r]]
 item:=λj s Q E f st n=>absurd st.1 (OH f)
 done:=λs Q E st g=>Qg c st.2.1 st.2.2 d λm e k t=>g m e k t
end
def DI(K:β)(a:ζ):It:=
 #[λi H=>∃X x,aF K H a X/\X[i]?=δ x,λi H x h=>∃p v,x= .ref p/\H p=θ/\h=af H p (.tup [.int i,v])/\∀X,aF K H a X->X[i]?=δ v,λi H=>∃X,aF K H a X/\ο X<=i]
def Zs{P:ψ}{K:β}(a e g:ζ)(r:e≠g):oO P w K (.Tuple e0 kx tp) (DI K a) [e,g] e (λi h=>(∃O,IsEnum h e g i O)/\h.IsTupleIter g a i) where
 mem:=by simp
 obj:=λi h st b hb=>by
  obtain⟨⟨O,j⟩,⟨o,ei,c,d⟩⟩:=st;rcases Ξ.mp hb with rfl |hb
  .exact#[_,j,λv z=>by cases (show Data.fields _=Data.cell v from z)]
  .let q:b=g:=by simpa using hb
   subst q;exact#[o,ei,λv z=>by rw[d]at z;cases z]
 keep:=λi h A st k=>#[let #[O,j]:=st.1;#[O,k e NN _ j],st.2.at λo q=>k g NN o q]
 item:=by
  intro X Q S T U i f s J H E I L st W;subst Q S T;obtain⟨⟨O,j⟩,l⟩:=st;let⟨xs,x,M,N⟩:=W;let⟨m,R,p,hz⟩:=I.tuple M;let⟨u,hu,ru⟩:=R.get N;let Y:e < -s:=Ox j;let l0:g < -s:=by let⟨_,q,_⟩:=l;rwa[Ox q]
  let h0:a≠g:=λz=>by rw[z]at p;let⟨o1,e1,c1,_⟩:=l;let⟨o2,B,c2,_⟩:=p;rw[e1]at B;cases B;rwa[absurd (c1.symm.trans c2) NP]
  let h1:e∉[g,a]:=λz=>by
   rcases Ξ.mp z with z |z
   .rwa[r z]
   .rw[χ.mp z]at j;let⟨o2,B,c2,_⟩:=p;unfold IsEnum at j;rw[j]at B;cases B;rwa[absurd (show fr "enumerate"=fr "tuple" from c2) NP]
  erw[wpAny_pyNext_enum_itemD (sS (I.ok.hd U:) g a h0 m.toArray) j #[l,p] (by let:=R.length;let:=(ξ.mp N).1;simp;omega) r h1 λx' A t C ho y hT h4 hk=>#[_,Z,?_]];let D:=y.1;let ex:u=x':=by
   let h2:m.toArray[i]?=δ u:=by simpa using hu
   rw[h2]at C;rwa[Po C]
  subst ex;let hn:H (-s)=θ:=I.hok.fresh (Ou _);let I1:ax X f J H { s with heap:=A,toks:=t+1 }:=I.turnedN L λb o hb q=>hk b o (λz=>hb (by simp [z])) (λz=>hb (by simp [z])) q;let r2:aG [vr i,x] [kw i t,u]:=.cons #[_,Z] (.cons ru .nil);let I2:ax X f J (af H (-s)$ .tup [.int i,x]) { s with heap:=A,toks:=t+1 }:=
   I1.track (I.fpOk (Ou _) hn) I.sz #[by show 2<=τ;decide,_,r2,_,hT,Z,_,Z]
  let F:∀b∈[e,g],gY X f (af H (-s)$ .tup [.int i,x]) b:=λb hb=>by
   let⟨f0,f1⟩:=L b hb;erw[#[?_,f1]];rw[jh]
   .rwa[f0]
   .rcases Ξ.mp hb with rfl |hb
    .rwa[OH Y]
    .let q:b=g:=by simpa using hb
     subst q;rwa[OH l0]
  erw[wpAny_letOwnedTupleGo_enum (s:={ s with heap:=A,toks:=t+1 }) ho λG h3 n=>?_];replace n:fx e A G:=n;let I3:ax X f J (af H (-s)$ .tup [.int i,x]) { s with heap:=G,toks:=t+1 }:=I2.turnedN F λb o hb q=>(n.2 b λz=>hb (by simp [z])).trans q;erw[#[.ref (-s),_,I3,Z,#[_,x,Z,hn,Z,λys hy=>by rw[I.tuple_inj hy M];rwa[N]],#[#[u,by simpa using h3],D.at λo q=>(n.2 g r.symm).trans q],λb hb=>(F b hb).1]]
 done:=by intro X Q S T U i f s J H E I L st W;subst Q S T;obtain⟨⟨O,j⟩,l⟩:=st;let⟨xs,M,N⟩:=W;let⟨m,R,p,hz⟩:=I.tuple M;let hl:=R.length;erw[wpAny_pyNext_enum_endD (Zr (I.ok.hd U:) g a m.toArray i (by simp;omega)) j #[Z,l,p] λA eb=>#[Z,?_]];rwa[I.turnedN (t':=s.toks) L λb o hb q=>eb b o (λz=>hb (by simp [z])) q]
 self:=λ_ _ _ _ _ st h=>by obtain⟨⟨O,j⟩,_⟩:=st;rwa[Wl j h]
section
variable {X:Cx}{elts:xL dr}{kx:Nat}{tp:Pos}
inductive pR(K:β)(R:It->Hp->Prop)(c:xL V)(b:Hp):Prop
 |mk(a:_)(_:c=[.ref a])(_:∃xs,aF K b a xs)(_:R (DI K a) b)
def Eh(K:β)(t:TA):TI:=λa H R=>t a H (pR K R)
def KS(g:Gl X "enumerate")(j:X.mg "enumerate"=θ)(k:PA X [a] t)(m:↥(Δ [a] X.env=[(ν,eval a X.env)])):PI X (.Tuple elts kx tp) (.Call (.Name "enumerate" p) [a] [] c) (Eh X.K t):=by
 intro P s n H R I h;erw[Call_$ zQ I g j PyProof.Rows.boot_enumerate$ Pf (a8 (k c P s n H _ I h) λU S z=>?_) m Z];let⟨V,o,i,u,Q⟩:=z;obtain⟨l,e,⟨A,v⟩,q⟩:=Q;subst e;cases u with
 |cons r w=>
  cases w;cases r;let⟨x,B,p,C⟩:=i.tuple v;erw[Zq p λD f d y=>?_];erw[Wl f ?_];erw[#[-S+1,[-S+1,-S],_,_,o,Z,i.kept (t':=S.toks) y,Zs l _ _$ Pq$ P8 _,#[#[_,f],d],λb hb=>?_,q]];rcases Ξ.mp hb with rfl |hb
  .rwa[i.fpOk (PY _)$ i.hok.fresh$ PY _]
  .let e:b=-S:=by simpa using hb
   subst e;rwa[i.fpOk (Ou _)$ i.hok.fresh$ Ou _]
end
def Jb{K:β}{xs:xL V}{g:TG}{t:TS}{D:bp}(Pv:Nat->St->Hp->Prop)(j:Pv 0 b H)(k:∀i b H,i<=ο xs->Pv i b H->aF K H a xs)
  (l:∀E:bp,E.rt=D.rt->∀i x p b H,xs[i]?=δ x->H p=θ->(∀c e,Pv (i+1) c e->E.nx c e)->∀G:Prop,((g (.ref p) b (af H p$ .tup [.int i,x]) λf n=>t E f n)->G)->Pv i b H->G) (o:∀b H,Pv xs.length b H->D.nx b H):sJ (DI K a) g t D b H:=by
 erw[#[λi m b H=>m=ο xs - i/\i<=ο xs/\Pv i b H,#[xs.length,NN,OA _,j],?_]];rintro i m b H ⟨rfl,s,p⟩;let q:=k i b H s p;by_cases d:i < ο xs
 .erw[.inr #[#[xs,xs[i],q,On d],Pv$ i+1,λc e P=>#[ο xs - (i+1),N09,Z,d,P],λx e y=>?_]];let⟨r,v,rfl,u,rfl,w⟩:=y;rwa[l { D with nx:=Pv (i+1),ct:=Pv (i+1),bk:=D.nx } Z i v r b H (w xs q) u (λ_ _ h=>h) _ (λz=>z) p]
 .rwa[.inl #[#[xs,q,NO],o _ _ (by rw[show ο xs=i by omega];rwa[p])]]
abbrev Nq(K:β)(i j:Nat):TG:=sX K 2 (dZ (bH i)$ dZ (bH j) vV)
def Il{t:St}(h:ο t=2):∃a b,t=[a,b]:=by
 cases t with
 |nil=>cases h
 |cons a r=>
  cases r with
  |nil=>cases h
  |cons b R=>
   cases R with
   |nil=>exact#[a,b,Z]
   |cons _ _=>cases h
def YL{K:β}{X:xL V}{t:TE}{n:xL V->Hp->Prop}(f:Nat->V)(u:ο X<=τ)(b:aL K H a X)
  (p:∀(i:Nat) (x:V),X[i]?=δ x->∃q y z,x= .ref q/\aF K H q [y,z]/\∀Q:VK,Q (f i) H->t (δ y::δ z::c) H Q) (r:n ((dw X.length).map f) H):
  eZ (y8 K a) 2 c (Nq K 0 1) nq t n H:=by
 erw[#[λi m o d=>m=ο X - i/\i<=ο X/\o=(dw i).map f/\d=H,#[X.length,NN,OA _,NN,Z],?_]];rintro i m o d ⟨rfl,w,rfl,rfl⟩;by_cases h:i < ο X
 .refine .inr #[#[X,X[i],b,On h],?_,λY g=>Y=(dw$ i+1).map f/\g=d,λY g #[P,s]=>#[ο X - (i+1),NO,Z,h,P,s],λv g T j y=>?_]
  .rw[Oq,Sn];omega
  let⟨e,y⟩:=y;subst e;let⟨q,A,B,rfl,k,l⟩:=p i v (y X b);let⟨C,D,rfl⟩:=Il j;erw[#[q,_,Z,k,Z,_,_,Z,_,_,Z,Z,#[[δ _,δ _],Z,Z],l _ #[?_,Z]]];rw[List.range_succ,OU];rfl
 .let e:i=ο X:=by omega
  subst e;rwa[.inl #[#[X,b,Ou _],r]]
end _L
namespace _L
open PySem PySem.Spec PyProof.Rows PySem.SeqAt PySem.W
def gE:xL Int->xL Int->Bool
 | [],[]=>ν
 | [],_::_=>μ
 |_::_,[]=>ν
 |a::p,b::q=>if a=b then gE p q else decide (a < b)
theorem Jt:∀{p q:xL Int},gE p q=μ->gE q p=ν
 | [],[],h=>by cases h
 | [],_::_,_=>rfl
 |_::_,[],h=>by cases h
 |a::p,b::q,h=>by
  let h:(if a=b then gE p q else decide (a < b))=μ:=h;show(if b=a then gE q p else decide (b < a))=ν;by_cases e:a=b
  .rw[OB e]at h;rw[OB e.symm];rwa[Jt h]
  .rw[OD e]at h;rw[OD$ O3 e];let:=Pe h;rwa[Oz NO]
section
variable {prog:ψ}{w:bF}{A:bS}{E:η->ι->Prop}{s:ι}{Q:Bool->ι->Prop}
def uh(f:Bool)(h:Q (decide$ a < b) s):π (υ prog w) A (oneLt' f (.int a t)$ .int b u) Q E s:=by
 cases f with
 |true=>rwa[oneLt_int h]
 |false=>rwa[kat_one _ _ (lt_int h)]
theorem Ya:∀{p q:xL Int} {U v:xL η},aG (p.map vr) U->aG (q.map vr) v->∀i,f=decide (ο p < ο q)->Q (gE p q) s->KatLex prog w A b f Q (U.zip v) i s
 | [],[],_,_,.nil,.nil,_,e,h | [],_::_,_,_,.nil,.cons _ _,_,e,h |_::_,[],_,_,.cons _ _,.nil,_,e,h=>by subst e;rwa[h]
 |x::p,y::q,_,_,.cons #[t,c] r,.cons #[u,d] R,i,e,h=>by
  subst c;subst d;let h:Q (if x=y then gE p q else decide (x < y)) s:=h;erw[kat_cons$ Wv x t y u prog w _ _ ?_];by_cases H:x=y
  .rw[OB H]at h;rw[beq_iff_eq.mpr H];erw[kat_yes$ Ya r R (i+1) ?_ h];rw[e];show decide (ο p+1 < ο q+1)=_;by_cases a:ο p < ο q
   .rw[OE a,OE NO]
   .rw[Oz a,Oz NO]
  .rw[OD H]at h;rw[beq_eq_false_iff_ne.mpr H];rwa[kat_no$ uh _ h]
def CT(h:de)(v:η)(p:xL Int):Prop:=∃a o u n,v= .ref a/\h.get? a=δ o/\o.cls= .type "tuple"/\o.data= .seq u n/\aG (p.map vr) u.toList
def Lu(c:CT s.heap x p)(d:CT s.heap y q)(h:Q (gE p q) s):π (υ prog w) A (keyLt' (tuples' b) x y) Q E s:=by let⟨a,o,U,n,rfl,e,_,f,H⟩:=c;let⟨i,O,u,N,rfl,K,_,g,k⟩:=d;erw[kat_lt e f K g$ Ya H k 0 ?_ h];let l:=H.length;let L:=k.length;rw[Oq]at l L;rw[<- OT,<- OT,<- l,<- L]
def cp(l:Nat->Nat->Bool)(n:Nat){b:Type}(R:b->Prop):KasT b->Prop
 | .ret a=>R a
 | .ask i j k=>i < n/\j < n/\cp l n R (k (l i j))
theorem cp.bind{b c:Type}{R:b->Prop}{S:c->Prop}{f:b->KasT c}(H:∀a,R a->cp l n S (f a)):∀{t:KasT b},cp l n R t->cp l n S (t.bind f)
 | .ret _,h=>H _ h
 | .ask _ _ _,z=>by let⟨d,e,g⟩:=z;rwa[#[d,e,cp.bind H g]]
theorem cp.wp{l:Nat->Nat->Bool}{n:Nat}{b:Type}{R:b->Prop}{c:Nat->Nat->(Bool->ι->Prop)->ι->Prop}(H:∀i j (C:Bool->ι->Prop),i < n->j < n->C (l i j) s->c i j C s){G:b->ι->Prop}(d:∀a,R a->G a s):∀{t:KasT b},cp l n R t->t.kasWp c G s
 | .ret _,h=>d _ h
 | .ask i j _,z=>by let⟨e,f,g⟩:=z;rwa[H i j _ e f (cp.wp H d g)]
theorem Z2:∀{vs:xL η} {ps:xL (xL Int)},ο vs=ο ps->(∀(i:Nat) (v:η) (p:xL Int),vs[i]?=δ v->ps[i]?=δ p->CT h v p/\p≠[])->∃F:xL η,ο F=ο vs/\(∀f∈F,∃i t,f= .int i t)/\KatTups h vs F
 | [],[],_,_=>#[[],Z,λ_ z=>(nomatch z),trivial]
 | [],_::_,e,_ |_::_,[],e,_=>by cases e
 |v::vs,p::ps,e,k=>by
  let⟨F,g,j,l⟩:=Z2 (vs:=vs) (ps:=ps) (e:) λi v p b c=>k (i+1) v p (b:) (c:);obtain⟨⟨a,o,U,n,rfl,b,c,m,H⟩,q⟩:=k 0 v p Z Z;cases p with
  |nil=>rwa[absurd Z q]
  |cons i p=>
   cases d:U.toList with
   |nil=>rw[d]at H;cases H
   |cons u r=>
    rw[d]at H;cases H with
    |cons R y=>
     let⟨t,rfl⟩:=(show ∃t,u=kw i t from R);let x:U[0]?=δ (kw i t):=by rw[<- Ra,d];rfl
     exact#[kw i t::F,by simp [g],λf hf=>by
      rcases Ξ.mp hf with rfl |hf
      .exact#[_,_,Z]
      .rwa[j f hf],KatTups.cons b c m x l]
def Zt{V:xL η}{d:xL (xL Int)}{P:Fin->ι->Prop}(u:s.heap.get? a=δ (seqObj "list" V.toArray n))(I:ο V=ο d)(N:2<=ο V)(y:ο V < 64)
  (O:∀(i:Nat) (v:η) (p:xL Int),V[i]?=δ v->d[i]?=δ p->CT s.heap v p/\p≠[]/\v≠ .ref a) {R:Array Nat->Prop} (U:cp (λi j=>gE (d.getD i []) (d.getD j [])) d.length R (kas_sort d.length))
  (h:∀p,R p->P (.done$ .ret .none) ‹sortedHeap s.heap a V (p.toList.map λi=>V.getD i Ω).toArray›):
  π (υ prog w) A (dO.«list.sort» #[[.ref a],[]]) P E s:=by
 rw[UX];let la:a < -s:=Ox u;erw[Om$ Vz u Z ?_];erw[Om$ SM u Z ?_];obtain⟨g,J⟩:∃g,(s.heap.update a$ γ λ_=>(ε [])).get? a=δ (seqObj "list" (ε []) g):=#[_,UY u (λ_=>(ε []))];erw[Om$ Tt J Z ?_];erw[Om$ Sw ?_ (by show ο V<=_;rw[RO];omega)];erw[Om$ Sj ?_];erw[OV ?_];let K:(((s.heap.update a$ γ λ_=>(ε [])).push$ seqObj "tuple" V.toArray 0).push$ seqObj "list" (ε []) 0).get? a=δ (seqObj "list" (ε []) g):=Oo _ (Oo _ J);let k:∀c v,c≠a->s.heap.get? c=δ v->(((s.heap.update a$ γ λ_=>(ε [])).push$ seqObj "tuple" V.toArray 0).push$ seqObj "list" (ε []) 0).get? c=δ v:=λc v W e=>
  Oo _ (Oo _ (by rw[Vq _ _ _ _ W];rwa[e]))
 show π (υ prog w) A _ P E ‹((s.heap.update a$ γ λ_=>(ε [])).push$ seqObj "tuple" V.toArray 0).push (seqObj "list" (ε []) 0)›;dsimp only;let H:∀(i:Nat) (v:η) (p:xL Int),V[i]?=δ v->d[i]?=δ p->CT (((s.heap.update a$ γ λ_=>(ε [])).push$ seqObj "tuple" V.toArray 0).push$ seqObj "list" (ε []) 0) v p/\p≠[]:=λi v p B x=>by obtain⟨⟨b,o,X,m,rfl,Y,b2,b3,b4⟩,l,D⟩:=O i v p B x;exact#[#[b,o,X,m,Z,k _ _ (λz=>D (by rw[z])) Y,b2,b3,b4],l]
 let⟨fs,f1,f2,f3⟩:=Z2 I H;let q:¬V.toArray.size < 2:=by rw[Ov];omega
 rw[OD q,OD q];erw[Om$ kat_kind (T:=.type "int") f3 NO (λf hf=>?_) NP ?_]
 .let⟨i,t,rfl⟩:=f2 f hf;rwa[V7 Z]
 refine Om (Px (kat_run (Q:=λS r=>r=‹((s.heap.update a$ γ λ_=>(ε [])).push$ seqObj "tuple" V.toArray 0).push (seqObj "list" (ε []) 0)›/\∃p,R p/\(arrOf S).map (·.2)=(p.toList.map λi=>V.getD i Ω).toArray/\failedOf S=θ/\(arrOf S).size=ο V)
  (G:=λp r=>r=‹((s.heap.update a$ γ λ_=>(ε [])).push$ seqObj "tuple" V.toArray 0).push (seqObj "list" (ε []) 0)›/\R p) Z N y (λp S r B x a3 L=>#[L.1,p,L.2,?_,a3,?_]) (cp.wp (n:=d.length) (R:=R) (λi j C F hj hC=>?_) (λp l=>#[Z,l]) (by rw[I];rwa[U]))) ?_ λ_ _ e=>e)
 .rw[kat_snds Z x]
 .rw[x,V2,B]
 .let M:∀i,i < ο d->CT (((s.heap.update a$ γ λ_=>(ε [])).push$ seqObj "tuple" V.toArray 0).push$ seqObj "list" (ε []) 0) (V.getD i Ω) (d.getD i []):=λi F=>by
   let g:V[i]?=δ (V.getD i Ω):=by rw[O4,On (NO:i < ο V)];rfl
   let e2:d[i]?=δ (d.getD i []):=by rw[O4,On F];rfl
   exact(H i _ _ g e2).1
  rwa[Lu (M i F) (M j hj) hC]
 rintro ⟨⟨⟩,S⟩ r ⟨rfl,p,l,q1,q2,q3⟩;dsimp only;erw[Om$ Tt K Z ?_];erw[Om$ SM K Z ?_ (hsz2:=by rw[V2,q3,RO];omega)];rw[q2];simp only[P7,OJ,PX];erw[Op ?_];rw[q1];rwa[h p l]
end
section
#print v
def Zu{P:Fin->ι->Prop}(H:s.heap.get? a=δ (seqObj "list" ([]:xL η).toArray n))
  (h:P (.done$ .ret .none) ‹sortedHeap s.heap a ([]:xL η) (ε [])›):π (υ prog w) A (dO.«list.sort» #[[.ref a],[]]) P E s:=by
 rw[UX];erw[Om$ Vz H Z ?_];erw[Om$ SM H Z ?_];obtain⟨e,b⟩:∃e,(s.heap.update a$ γ λ_=>(ε [])).get? a=δ (seqObj "list" (ε []) e):=#[_,UY H (λ_=>(ε []))];erw[Om$ Tt b Z ?_];erw[Om$ Sw ?_];erw[Om$ Sj ?_];erw[OV ?_];let g:(((s.heap.update a$ γ λ_=>(ε [])).push$ seqObj "tuple" ([]:xL η).toArray 0).push$ seqObj "list" (ε []) 0).get? a=δ (seqObj "list" (ε []) e):=Oo _ (Oo _ b);show π (υ prog w) A _ P E ‹((s.heap.update a$ γ λ_=>(ε [])).push$ seqObj "tuple" ([]:xL η).toArray 0).push (seqObj "list" (ε []) 0)›;dsimp only;let S:([]:xL η).toArray.size < 2:=by show 0 < 2;decide
 rw[OB S,OB S];erw[Om$ Op ?_];rw[VD];erw[Om$ Op ?_];dsimp only;erw[Om$ Tt g Z ?_];let c:(arrOf$ SortSt.mk' general' (([]:xL η).toArray.zip ([]:xL η).toArray) (ε []) 7 θ).map (·.2)=(ε []):=by show(([]:xL η).toArray.zip ([]:xL η).toArray).map (·.2)=(ε []);simp
 rw[c];erw[Om$ SM g Z ?_ (hsz2:=by show 0<=τ+1;omega)];simp only[P7,OJ,PX];rwa[Op h]
def Co{vs:xL η}{ps:xL (xL Int)}{Q:η->ι->Prop}(q:s.heap.IsList l vs.toArray)(H:ο vs=ο ps)(r:2<=ο vs)(b:ο vs < 64)
  (t:∀(i:Nat) (v:η) (p:xL Int),vs[i]?=δ v->ps[i]?=δ p->CT s.heap v p/\p≠[]) {R:Array Nat->Prop} (u:cp (λi j=>gE (ps.getD i []) (ps.getD j [])) ps.length R (kas_sort ps.length))
  (h:∀p,R p->Q (.ref$ -s+1) ‹sortedAll s.heap vs (p.toList.map λi=>vs.getD i Ω).toArray›):π (υ prog w) A (call (.builtin "sorted") [.ref l]) Q E s:=by
 erw[RX UP Uw Ux (Uy _) ?_];unfold dO.«sorted»;erw[Om (m:=checkCount "sorted" 1 1 _)$ Op ?_];erw[Om$ VB q ?_ (by rw[RO];omega)];erw[Om$ Sj ?_ (by rw[RO];omega)];let f:((s.heap.push$ seqObj "list" (ε []) 0).update (-s)$ γ (·++vs.toArray)).objs.size=-s+1:=by rw[Ul,Vd]
 let g:(((s.heap.push$ seqObj "list" (ε []) 0).update (-s)$ γ (·++vs.toArray)).push$ seqObj "list" vs.toArray 0).get? (-s+1)=δ (seqObj "list" vs.toArray 0):=by rw[<- f];rwa[Oy _ Z]
 let k:∀c v,s.heap.get? c=δ v->(((s.heap.push$ seqObj "list" (ε []) 0).update (-s)$ γ (·++vs.toArray)).push$ seqObj "list" vs.toArray 0).get? c=δ v:=λc v e=>
  Oo _ (by rw[Vq _ _ _ _$ OH$ Ox e];rwa[Oo _ e])
 show π _ _ _ _ _ ‹((s.heap.push$ seqObj "list" (ε []) 0).update (-s)$ γ (·++vs.toArray)).push (seqObj "list" vs.toArray 0)›;rw[f];erw[Om$ OV$ O7 Ub #[_,g,Z] T3 (Zt g H r b (λi v p x y=>?_) u λp d=>#[_,Z,?_]) (Ue _)]
 .obtain⟨⟨a,o,U,n,rfl,B,C,D,F⟩,d⟩:=t i v p x y;exact#[#[a,o,U,n,Z,k _ _ B,C,D,F],d,λz=>by injection z with z;rwa[absurd z$ OH$ RD$ Ox B]]
 .rwa[Op #[_,Z,h p d]]
def Cm{Q:η->ι->Prop}(H:s.heap.IsList l ([]:xL η).toArray)
  (h:Q (.ref$ -s+1) ‹sortedAll s.heap [] (ε [])›):π (υ prog w) A (call (.builtin "sorted") [.ref l]) Q E s:=by
 erw[RX UP Uw Ux (Uy _) ?_];unfold dO.«sorted»;erw[Om (m:=checkCount "sorted" 1 1 _)$ Op ?_];erw[Om$ VB H ?_];erw[Om$ Sj ?_];let z:((s.heap.push$ seqObj "list" (ε []) 0).update (-s)$ γ (·++([]:xL η).toArray)).objs.size=-s+1:=by rw[Ul,Vd]
 let g:(((s.heap.push$ seqObj "list" (ε []) 0).update (-s)$ γ (·++([]:xL η).toArray)).push$ seqObj "list" ([]:xL η).toArray 0).get? (-s+1)=δ (seqObj "list" ([]:xL η).toArray 0):=by rw[<- z];rwa[Oy _ Z]
 show π _ _ _ _ _ ‹((s.heap.push$ seqObj "list" (ε []) 0).update (-s)$ γ (·++([]:xL η).toArray)).push (seqObj "list" ([]:xL η).toArray 0)›;rw[z];erw[Om$ OV$ O7 Ub #[_,g,Z] T3 (Zu g #[_,Z,?_]) (Ue _)];rwa[Op #[_,Z,h]]
end
section
variable {X:Cx}
def Gy(I:ax X b f H s){p:xL Int}(h:H a=δ (.tup$ p.map vr)):CT s.heap (.ref a) p:=by let⟨i,r,P,_⟩:=I.tuple (aF.of (K:=X.K) h);let⟨o,c,d,n,e⟩:=P;exact#[a,o,i.toArray,n,Z,c,d,e,r]
end
end _L
namespace _L
open PySem PySem.W PySem.Spec PyProof.Rows
theorem cp.weak{c:Type}{R S:c->Prop}(h:∀a,R a->S a):∀{t:KasT c},cp l n R t->cp l n S t
 | .ret _,k=>h _ k
 | .ask _ _ _,z=>by let⟨a,b,k⟩:=z;rwa[#[a,b,cp.weak h k]]
def Yb{a:Array Nat}{u v i:Nat}(b:u < a.size)(c:v < a.size):(a.swapIfInBounds u v).getD i 0=if i=v then a.getD u 0 else if i=u then a.getD v 0 else a.getD i 0:=by
 unfold Array.swapIfInBounds;rw[dif_pos b,dif_pos c];simp only[Array.getD_eq_getD_getElem?,Array.getElem?_swap];by_cases h:v=i<;>by_cases H:u=i
 .subst h;subst H;simp [b]
 .subst h;let E:¬v=u:=λe=>H e.symm;simp [b,c,H,E]
 .subst H;let d:¬u=v:=λe=>h e.symm;simp [b,c,h,d]
 .let d:¬i=v:=λe=>h e.symm;let E:¬i=u:=λe=>H e.symm;simp [b,c,h,H,d,E]
theorem Qh(a:Array Nat)(k:Nat)(c:k < a.size):∀(d:Nat),d<=k->∀i,(bubble a k d).getD i 0=if i=k - d then a.getD k 0 else if k - d < i/\i<=k then a.getD (i - 1) 0 else a.getD i 0
 |0,_,i=>by
  show a.getD i 0=_;by_cases e:i=k - 0
  .rw[OB e,e,SQ]
  .rw[OD e,OD NO]
 |d+1,f,i=>by
  let I:=Qh a k c d NO;rw[bubble_succ,Yb (by rw[bubble_size];omega) (by rw[bubble_size];rwa[N09]),I,I,I];by_cases H:i=k - d - 1
  .rw[OB H,OB Z,OB N09]
  .rw[OD H,OD (show ¬i=k - (d+1) by rwa[N09])];by_cases h:i=k - d
   .rw[OB h,OD NO,OD N09,OB N09];congr 1;rwa[N09]
   .rw[OD h,OD h];by_cases b:k - d < i/\i<=k
    .rw[OB b,OB N09]
    .rw[OD b,OD NO]
theorem Qi(a:Array Nat)(k:Nat)(c:k<=a.size):∀(d:Nat),2*d<=k->∀i,(mirror a 0 k d).getD i 0=if i < d∨(k - d<=i/\i < k) then a.getD (k - 1 - i) 0 else a.getD i 0
 |0,_,i=>by show a.getD i 0=_;rw[OD NO]
 |d+1,e,i=>by
  let I:=Qi a k c d NO;rw[mirror_succ,Yb (by rw[mirror_size];omega) (by rw[mirror_size];rwa[N09]),I,I,I];by_cases h:i=k - 1 - d
  .rw[OB h,OD NO,OB NO];congr 1;rwa[N09]
  .rw[OD h];by_cases H:i=0+d
   .rw[OB H,OD NO,OB NO];congr 1;omega
   .rw[OD H];by_cases b:i < d∨(k - d<=i/\i < k)
    .rw[OB b,OB N09]
    .rw[OD b,OD NO]
def Z3{a:Array Nat}{k:Nat}(b:k<=a.size)(i:Nat):(kas_rev a 0 k).getD i 0=if i < k then a.getD (k - 1 - i) 0 else a.getD i 0:=by
 unfold kas_rev;rw[Qi a k b _ NO];by_cases h:i < k
 .rw[OB h];by_cases H:i < (k - 0) / 2∨(k - (k - 0) / 2<=i/\i < k)
  .rw[OB H]
  .rw[OD H];congr 1;omega
 .rw[OD h,OD NO]
structure M1(lt:Nat->Nat->Bool)(n:Nat):Prop where
 tot:∀i j,i < n->j < n->i≠j->lt i j=ν->lt j i=μ
 tr:∀i j k,i < n->j < n->k < n->lt i j=μ->lt j k=μ->lt i k=μ
 asy:∀i j,i < n->j < n->lt i j=μ->lt j i=ν
structure nD(n:Nat)(p:Array Nat):Prop where
 z:p.size=n
 m:∀i,i < n->p.getD i 0 < n
 inj:∀i j,i < n->j < n->p.getD i 0=p.getD j 0->i=j
 pm:p.toList.Perm (dw n)
def gI(l:Nat->Nat->Bool)(p:Array Nat)(m:Nat):Prop:=∀i,i+1 < m->l (p.getD i 0) (p.getD (i+1) 0)=μ
def sH(l:Nat->Nat->Bool)(p:Array Nat)(m:Nat):Prop:=∀i,i+1 < m->l (p.getD (i+1) 0) (p.getD i 0)=μ
def Dy{n:Nat}{p:Array Nat}(h:p.toList.Perm (dw n)):nD n p:=by
 let a:p.size=n:=by let:=h.length_eq;simpa using this
 let N:p.toList.Nodup:=h.nodup_iff.mpr List.nodup_range;let g:∀i (H:i < n),p.getD i 0=p.toList[i]'(by simpa using (NO:i < p.size)):=λi H=>by simp [Array.getD,show i < p.size by omega]
 erw[#[a,λi H=>?_,λi j H b e=>?_,h]]
 .rw[g i H];let:=h.mem_iff.mp (RW (l:=p.toList) (n:=i) (by simpa using (NO:i < p.size)));simpa using this
 .rw[g i H,g j b]at e;let L:i < ο p.toList:=by simpa using (NO:i < p.size)
  let c:j < ο p.toList:=by simpa using (NO:j < p.size)
  exact(SY L N).mp (by rw[On L,On c,e])
def nD.of{n:Nat}{p q:Array Nat}(h:nD n p)(k:q.Perm p):nD n q:=Dy (k.toList.trans h.pm)
section
variable {lt:Nat->Nat->Bool}{n:Nat}(O:M1 lt n)
include O
theorem u5{p:Array Nat}(h:nD n p){m:Nat}(b:m<=n)(a:gI lt p m):∀(d i:Nat),i+d+1 < m->lt (p.getD i 0) (p.getD (i+d+1) 0)=μ
 |0,i,H=>a i H
 |d+1,i,H=>O.tr _ _ _ (h.m _ NO) (h.m _ NO) (h.m _ NO) (u5 h b a d i NO) (a (i+d+1) N09)
def Kh{p:Array Nat}(h:nD n p){m:Nat}(H:m<=n)(a:gI lt p m){i j:Nat}(b:i < j)(c:j < m):lt (p.getD i 0) (p.getD j 0)=μ:=by let z:=u5 O h H a (j - i - 1) i N09;rw[show i+(j - i - 1)+1=j by rwa[N09]]at z;rwa[z]
theorem xg{p:Array Nat}(h:nD n p):∀f m,1<=m->m+f<=n->gI lt p m->cp lt n (λr=>m<=r/\r<=m+f/\gI lt p r/\(r < m+f->lt (p.getD r 0) (p.getD (r - 1) 0)=μ)) (kas_asc p f m)
 |0,m,b,d,a=>#[Ou _,Ou _,a,λz=>absurd z NO]
 |f+1,m,b,d,a=>by
  erw[#[h.m _ NO,h.m _ NO,?_]];by_cases c:lt (p.getD m 0) (p.getD (m - 1) 0)=μ
  .rw[c];exact#[Ou _,NO,a,λ_=>c]
  .let C:lt (p.getD m 0) (p.getD (m - 1) 0)=ν:=by simpa using c
   rw[C];let t:=O.tot _ _ (h.m m NO) (h.m (m - 1) NO) (λe=>by let:=h.inj _ _ NO NO e;omega) C;let A:gI lt p (m+1):=λi g=>by
    by_cases e:i+1 < m
    .rwa[a i e]
    .rw[show i=m - 1 by omega,show m - 1+1=m by omega];rwa[t]
   rwa[cp.weak (λr H=>#[N09,N09,H.2.2.1,λz=>H.2.2.2 N09])$ xg h f (m+1) NO NO A]
theorem xh{p:Array Nat}(h:nD n p):∀f m,2<=m->m+f=n->sH lt p m->cp lt n (λr:Array Nat×Nat×Nat=>r.1=p/\r.2.2=0/\m<=r.2.1/\r.2.1<=n/\sH lt p r.2.1) (kas_desc f p m 0)
 |0,m,b,d,a=>#[Z,Z,Ou _,(by show m<=n;omega),a]
 |f+1,m,b,d,a=>by
  erw[#[h.m _ NO,h.m _ NO,?_]];by_cases c:lt (p.getD m 0) (p.getD (m - 1) 0)=μ
  .rw[c];let A:sH lt p (m+1):=λi g=>by
    by_cases e:i+1 < m
    .rwa[a i e]
    .rw[show i=m - 1 by omega,show m - 1+1=m by omega];rwa[c]
   rwa[cp.weak (λr H=>#[H.1,H.2.1,Nat.le_of_succ_le H.2.2.1,H.2.2.2])$ xh h f (m+1) NO NO A]
  .let C:lt (p.getD m 0) (p.getD (m - 1) 0)=ν:=by simpa using c
   rw[C];let t:=O.tot _ _ (h.m m NO) (h.m (m - 1) NO) (λe=>by let:=h.inj _ _ NO NO e;omega) C;erw[#[h.m _ NO,h.m _ NO,?_]];rw[t];exact#[Z,Z,Ou _,(by show m<=n;omega),a]
def Fs{p:Array Nat}(h:nD n p){k:Nat}(c:1<=k)(H:k<=n)(a:sH lt p k):cp lt n (λr:Nat×Array Nat=>nD n r.2/\1<=r.1/\r.1<=n/\gI lt r.2 r.1) (kas_tail3 k n p):=by
 let b:nD n (kas_rev p 0 k):=h.of (mirror_perm _ _ _ _);let A:gI lt (kas_rev p 0 k) k:=λi d=>by rw[Z3 (by rw[h.z];rwa[H]),Z3 (by rw[h.z];rwa[H]),OB NO,OB d];let z:=a (k - 1 - (i+1)) N09;rw[show k - 1 - (i+1)+1=k - 1 - i by omega]at z;rwa[z]
 erw[cp.bind (R:=λr=>k<=r/\r<=k+(n - k)/\gI lt (kas_rev p 0 k) r/\(r < k+(n - k)->lt ((kas_rev p 0 k).getD r 0) ((kas_rev p 0 k).getD (r - 1) 0)=μ)) (λr e=>?_)$ xg O b _ _ c NO A];exact#[b,by show 1<=r;rwa[N09],by show r<=n;rwa[N09],e.2.2.1]
def By{p:Array Nat}(h:nD n p)(k:1<=n):cp lt n (λr:Nat×Array Nat=>nD n r.2/\1<=r.1/\r.1<=n/\gI lt r.2 r.1) (kas_count n p):=by
 erw[cp.bind (R:=λr=>1<=r/\r<=1+(n - 1)/\gI lt p r/\(r < 1+(n - 1)->lt (p.getD r 0) (p.getD (r - 1) 0)=μ)) (λr H=>?_)$ xg O h _ _ (Ou 1) N09 (λi a=>absurd a NO)];by_cases e:r=n
 .rw[OB (by simp [e])];exact#[h,H.1,NO,H.2.2.1]
 .rw[OD (by simp [e])];by_cases g:r > 1
  .rw[OB g];erw[#[h.m _ NO,h.m _ N09,?_]];rw[Kh O h N09 H.2.2.1 (show 0 < r - 1 by rwa[N09]) N09];exact#[h,H.1,N09,H.2.2.1]
  .rw[OD g];let b:r=1:=by rwa[N09]
   subst b;let d:sH lt p 2:=λi a=>by rw[show i=0 by omega];rwa[H.2.2.2 NO]
   erw[cp.bind (R:=λr:Array Nat×Nat×Nat=>r.1=p/\r.2.2=0/\2<=r.2.1/\r.2.1<=n/\sH lt p r.2.1) (λr H=>?_)$ xh O h _ _ (Ou 2) NO d];let⟨E,c,l,f,j⟩:=H;rw[c,OD$ Pr 0,E];rwa[Fs O h NO f j]
theorem Xz{p:Array Nat}(h:nD n p){k:Nat}(H:k < n)(a:gI lt p k):∀f l r,l<=r->r<=k->r - l<=f->(∀i,i < l->lt (p.getD i 0) (p.getD k 0)=μ)->(∀i,r<=i->i < k->lt (p.getD k 0) (p.getD i 0)=μ)->
  cp lt n (λq=>q<=k/\(∀i,i < q->lt (p.getD i 0) (p.getD k 0)=μ)/\∀i,q<=i->i < k->lt (p.getD k 0) (p.getD i 0)=μ) (kas_place p k f l r)
 |0,l,r,u,s,v,b,d=>#[NO,b,λi j=>d i NO]
 |f+1,l,r,u,s,v,b,d=>by
  unfold kas_place;by_cases g:l≥r
  .rw[OB g];exact#[NO,b,λi j=>d i NO]
  .rw[OD g];erw[#[h.m _ N09,h.m _ NO,?_]];by_cases c:lt (p.getD k 0) (p.getD ((l+r) / 2) 0)=μ
   .show cp lt n _ (if lt (p.getD k 0) (p.getD ((l+r) / 2) 0)=μ then _ else _);rw[OB c];erw[Xz h H a f l ((l+r) / 2) NO NO N09 b λi j o=>?_];by_cases e:i=(l+r) / 2
    .rw[e];rwa[c]
    .rwa[O.tr _ _ _ (h.m _ H) (h.m _ NO) (h.m _ NO) c$ Kh O h NO a NO o]
   .let C:lt (p.getD k 0) (p.getD ((l+r) / 2) 0)=ν:=by simpa using c
    show cp lt n _ (if lt (p.getD k 0) (p.getD ((l+r) / 2) 0)=μ then _ else _);rw[OD c];let t:=O.tot _ _ (h.m k H) (h.m ((l+r) / 2) NO) (λe=>by let:=h.inj _ _ H NO e;omega) C;erw[Xz h H a f ((l+r) / 2+1) r NO s N09 (λi j=>?_) d];by_cases e:i=(l+r) / 2
    .rw[e];rwa[t]
    .rwa[O.tr _ _ _ (h.m _ NO) (h.m _ NO) (h.m _ H) (Kh O h NO a (show i < (l+r) / 2 by omega) NO) t]
theorem Dn:∀f {p:Array Nat} (_:nD n p) k,1<=k->k+f=n->gI lt p k->cp lt n (λq=>nD n q/\gI lt q n) (kas_bin f p k)
 |0,p,h,k,d,e,a=>#[h,by rw[<- e];rwa[a]]
 |f+1,p,h,k,d,e,a=>by
  erw[cp.bind (R:=λq=>q<=k/\(∀i,i < q->lt (p.getD i 0) (p.getD k 0)=μ)/\∀i,q<=i->i < k->lt (p.getD k 0) (p.getD i 0)=μ) (λl j=>?_)$ Xz O h NO a k 0 k (OA _) (Ou _) NO (λi H=>absurd H NO) (λi H m=>absurd H NO)];let⟨lk,L,o⟩:=j;erw[Dn f (h.of$ bubble_perm _ _ _) (k+1) NO NO λi H=>?_];let g:=Qh p k (by rw[h.z];omega) (k - l) NO;rw[g,g];by_cases c:i=k - (k - l)
  .rw[OB c,OD NO,OB NO,show i+1 - 1=i by omega];rwa[o i NO NO]
  .rw[OD c];by_cases C:k - (k - l) < i/\i<=k
   .rw[OB C,OD NO,OB NO,show i+1 - 1=i - 1+1 by omega];rwa[a (i - 1) NO]
   .rw[OD C];by_cases b:i+1=k - (k - l)
    .rw[OB b];rwa[L i NO]
    .rw[OD b,OD NO];rwa[a i NO]
def Fq(b:1<=n):cp lt n (λq=>nD n q/\gI lt q n) (kas_sort n):=by
 erw[cp.bind (R:=λr:Nat×Array Nat=>nD n r.2/\1<=r.1/\r.1<=n/\gI lt r.2 r.1) (λr c=>?_)$ By O (p:=ε (dw n)) (Dy NN) b];let⟨h,a,d,H⟩:=c;by_cases g:r.1 < n
 .rw[OB g,Nat.max_eq_left a];rwa[Dn O _ h _ a NO H]
 .rw[OD g];exact#[h,by rw[show r.1=n by omega]at H;rwa[H]]
end
theorem Z4:∀{p q:xL Int},p≠q->gE p q=ν->gE q p=μ
 | [],[],h,_=>absurd Z h
 | [],_::_,_,z=>by cases z
 |_::_,[],_,_=>rfl
 |a::p,b::q,h,z=>by
  let z:(if a=b then gE p q else decide (a < b))=ν:=z;show(if b=a then gE q p else decide (b < a))=μ;by_cases e:a=b
  .rw[OB e]at z;rw[OB e.symm];rwa[Z4 (λw=>h (by rw[e,w])) z]
  .rw[OD e]at z;rw[OD$ O3 e];let:=SG z;rwa[OE NO]
theorem wz:∀{p q r:xL Int},gE p q=μ->gE q r=μ->gE p r=μ
 | [],[],_,h,_=>by cases h
 | [],_::_,[],_,k=>by cases k
 | [],_::_,_::_,_,_=>rfl
 |_::_,[],_,h,_=>by cases h
 |_::_,_::_,[],_,k=>by cases k
 |a::p,b::q,c::r,h,k=>by
  let h:(if a=b then gE p q else decide (a < b))=μ:=h;let k:(if b=c then gE q r else decide (b < c))=μ:=k;show(if a=c then gE p r else decide (a < c))=μ;by_cases e:a=b
  .rw[OB e]at h;by_cases E:b=c
   .rw[OB E]at k;rw[OB$ e.trans E];rwa[wz h k]
   .rw[OD E]at k;rw[OD NO];let:=Pe k;rwa[OE NO]
  .rw[OD e]at h;let h:=Pe h;by_cases E:b=c
   .rw[OD NO];rwa[OE NO]
   .rw[OD E]at k;let k:=Pe k;rw[OD NO];rwa[OE NO]
def vX{p:xL (xL Int)}(n:p.Nodup){i j:Nat}(h:i < ο p)(H:j < ο p)(e:p.getD i []=p.getD j []):i=j:=by rw[O4,O4,On h,On H]at e;exact(SY h n).mp (by rw[On h,On H];rwa[PL δ e])
def wZ{p:xL (xL Int)}(N:p.Nodup):M1 (λi j=>gE (p.getD i []) (p.getD j [])) p.length:=
 #[λi j H c n h=>Z4 (λe=>n (vX N H c e)) h,λi j k _ _ _ a b=>wz a b,λi j _ _ a=>Jt a]
def Qv(p:xL (xL Int)):(dw p.length).map (λi=>p.getD i [])=p:=by
 erw[VE λi=>?_];rw[OL];by_cases h:i < ο p
 .rw[List.getElem?_range h,On h];show δ (p.getD i [])=_;rw[O4,On h];rfl
 .rw[Pk (by rw[Sn];omega),Pk NO];rfl
def uZ{a b:xL (xL Int)}(c:a.Pairwise λx y=>gE x y=μ)(d:b.Pairwise λx y=>gE x y=μ)(h:a.Perm b):a=b:=
 h.eq_of_pairwise (λx y _ _ e H=>by rw[Jt e]at H;cases H) c d
section
variable {X:Cx}
inductive xC(K:β)(d:xL V)(H:Hp)(Q:VK):Prop
 |mk(l:ζ)(c:xL V)(b:xL (xL Int))(_:d=[.ref l])(_:aL K H l c)(_:ο c=ο b)(_:ο c < 64)(_:∀(i:Nat) (v:V) (p:xL Int),c[i]?=δ v->b[i]?=δ p->∃a:ζ,v= .ref a/\H a=δ (.tup (p.map vr))/\p≠[])(_:b.Nodup)(_:∀(r:ζ) (ws:xL V) (qs:xL (xL Int)),H r=θ->qs.Perm b->(qs.Pairwise λx y=>gE x y=μ)->ο ws=ο qs->(∀(i:Nat) (v:V) (p:xL Int),ws[i]?=δ v->qs[i]?=δ p->∃a:ζ,v= .ref a/\H a=δ (.tup (p.map vr))/\p≠[])->Q (.ref r) (af H r (.lst ws)))
def qo:fo X (.builtin "sorted") (xC X.K):=by
 intro C s σ H xs us Q I r h;let⟨l,vs,ps,rfl,hl,J,M,N,nd,k⟩:=h;let⟨u,rfl,rx⟩:=gr r;cases rx;let⟨b,R,P,_⟩:=I.list hl;let L:=R.length;let f:∀(o:xL η) (W:xL V) (t:xL (xL Int)),aG W o->ο W < 64->t.Perm ps->(t.Pairwise λx y=>gE x y=μ)->ο W=ο t->(∀(i:Nat) (v:V) (p:xL Int),W[i]?=δ v->t[i]?=δ p->∃a:ζ,v= .ref a/\H a=δ (.tup$ p.map vr)/\p≠[])->EP X C σ Q (.ref$ -s+1) ‹sortedAll s.heap b o.toArray›:=λo W t rw lw g1 g2 g3 g4=>by let⟨c,hc⟩:=sortedAll_at s.heap b o.toArray;exact#[.ref$ -s+1,_,I.laid (t':=s.toks) (λ_ _ e=>sortedAll_old e) (PY _) (show a6 X.prog X.w _ _ _ (.lst W) from #[by rw[RO];omega,o,c,rw,hc]),Z,k _ W t (I.hok.fresh$ PY _) g1 g2 g3 g4]
 let pk:∀i,i < ο vs->∃v u,vs[i]?=δ v/\b[i]?=δ u/\aK v u:=λi d=>by let⟨u',D,A⟩:=R.get (On d);exact#[_,u',On d,D,A]
 by_cases F:2<=ο b
 .refine Co (vs:=b) (ps:=ps) P.isList NO F NO (λi v p G O=>?_) (Fq (wZ nd) NO) λp T=>?_
  .let d:i < ο vs:=by let:=(ξ.mp G).1;omega
   let⟨v',u',D,A,U⟩:=pk i d;rw[G]at A;cases A;let⟨a,ea,ha,hn⟩:=N i v' p D O;subst ea;cases U;exact#[Gy I ha,hn]
  .let⟨S,Y⟩:=T;let n:∀x∈p.toList,x < ο ps:=λx B=>by simpa using S.pm.mem_iff.mp B
   erw[f _ (p.toList.map λi=>vs.getD i .non) (p.toList.map λi=>ps.getD i []) ?_ (by rw[Oq,OT,S.z];omega) ?_ ?_ (by rw[Oq,Oq]) (λi v q e1 e2=>?_)]
   .generalize p.toList=l at n;induction l with
    |nil=>rwa[.nil]
    |cons i l ih=>have d:=n i ON;let⟨v,u,D,A,U⟩:=pk i NO;erw[.cons ?_$ ih λx B=>n x (OY _ B)];show aK (vs.getD i V.non) (b.getD i Ω);rw[O4,O4,D,A];rwa[U]
   .let z:=S.pm.map (λi=>ps.getD i []);rw[Qv]at z;rwa[z]
   .rw[UL];intro i j d hj h0;rw[Oq,OT,S.z]at d hj;let z:=Kh (wZ nd) S (Ou _) Y h0 hj;let g:∀(m:Nat) (n:m < ο ps) (h1:m < (p.toList.map λi=>ps.getD i []).length),(p.toList.map λi=>ps.getD i [])[m]'h1=ps.getD (p.getD m 0) []:=λm n h1=>by rw[List.getElem_map];congr 1;simp [Array.getD,show m < p.size by rw[S.z];exact n]
    rw[g i d,g j hj];rwa[z]
   .rw[OL]at e1 e2;let⟨x,B,rfl⟩:=cv.mp e1;rw[B]at e2;cases e2;let h3:=n x (OX B);let G:vs[x]?=δ (vs.getD x .non):=by rw[O4,On NO];rfl
    let O:ps[x]?=δ (ps.getD x []):=by rw[O4,On h3];rfl
    rwa[N x _ _ G O]
 .match b,R,P,L,f,F with
  | [],R,P,L,f,_=>have e:ps=[]:=List.length_eq_zero_iff.mp (by rw[<- J];rwa[L]);erw[Cm (P.isList:)$ f [] [] [] .nil NP (by rw[e]) .nil Z (λi v p h=>by simp at h)]
  | [v],R,P,L,f,_=>
   let l1:ο ps=1:=by rw[<- J];rwa[L]
   erw[Cn (P.isList:)$ f [v] vs ps R M (Rh _) ?_ J N]
   match ps,l1 with
   | [x],_=>rwa[List.pairwise_singleton _ _]
  |v1::v2::E,R,P,L,f,F=>rwa[absurd (by show 2<=ο E+2;omega) F]
end
end _L
namespace _L
open PySem PySem.Spec PyProof.Rows
def yK(K:β)(A:ζ)(t:Mf)(b:TS):TS:=λD a H=>t D (λx C d _ h=>mroIn K C (.ref A)=δ μ/\∀T,h T=θ->b D a (af (af h T$ iz T) x$ iS C d T x)) a H
section
variable {X:Cx}{st a₀ b₀:bU}{as bs:xL bU}{tb:Mf}{ta tc:TS}{ca cb:ρ}{np np' hp hp' pos:Pos}{A B:ζ}
def Z5(a:X.stack=X.env::X.outer)(J:X.env.frame=δ X.env.locals)(hb:M6 X st tb)(hg:Gl X ca)(hm:X.mg ca=↑A)(hA:clsIn X.K A≠θ)(tA:typeIn X.K (.ref A)=δ (.type "type"))(mA:mroIn X.K A (.type "BaseException")=δ μ)
  (hs:∀e,nG (X.mark e λ_ _=>False) (a₀::as) ta) (L:↥((ca==("__debug__":ρ))=ν)):
  PS X (.Try [st] [.ExceptHandler (δ$ .Name ca np) θ (a₀::as) hp] [] [] pos) (yK X.K A tb ta):=by
 intro p s M H D I h;erw[wpAny_Try_except$ UG$ Px (hb p s M H D _ I h) (λf b q=>?_) λe b q=>?_]
 .cases f with
  |next=>rwa[Sm (Sm q)]
  |ret v |brk |cont=>rwa[q]
 let⟨x,C,d,T,N,rfl,l,hx,hT,m,q⟩:=q;obtain⟨⟨ox,vs,h1,h2,h3,h4,O,h6,P⟩,_⟩:=l.hok x _ hx;obtain⟨⟨oT,G,t1,t2,t3⟩,_⟩:=l.hok T _ hT;let o:=(ab.mp h6).1;let R:X.A.frames=δ (X.env::X.outer):=by rw[<- a];rwa[l.ok.frames]
 let U:b.heap.FunFrames X.base (X.env::X.outer):=by rw[<- a];rwa[l.stack]
 erw[Q4 (base:=X.base) R U J h1 O h6 m t1 t2 t3 λg2 Nd=>?_];let u:(fu T b.heap).get? x=δ ox:=(OP _ _ m).trans h1;erw[Ep (s:={ b with heap:=g2 }) Nd u O o λg3 V=>?_];let⟨t,hn,E,i⟩:=(l.cleared hT t1 t2 t3).noted (C:=C) (d:=d) (t':=b.toks) hx u h2 h4 O o P (by unfold l7;rw[a];rwa[V]);let i:ax X p M (af (af N t$ iz t) x$ iS C d t x) { b with heap:=g3 }:=i;obtain⟨⟨o1,v0,k1,k2,k3,k4,k5,k6,k0⟩,_⟩:=i.hok x _ jc;let F:af (af N t$ iz t) x (iS C d t x) t=δ (iz t):=by rw[jh E,jc]
 obtain⟨⟨o2,t0,u1,u2,u3⟩,_⟩:=i.hok t _ F;let g:∀{E':η->ι->Prop} {c:bU} {W:xL bU} {G:TS} {hp:Pos},(∀e,nG (X.mark e λ_ _=>False) (c::W) G)->G D M (af (af N t$ iz t) x$ iS C d t x)->kz (υ X.prog X.w) (X.A.mark$ ↑x) (Code.handlers (.ref x) [.ExceptHandler θ θ (c::W) hp] X.env) (λr S=>match r with | .ok f=>SP X p D f S | .error y=>cameBackBy (υ X.prog X.w) X.A X.env E' y S) { b with heap:=g3 }:=by
  intro E' c W G hp hz qz;erw[codeAny_handlers_suite ?_];unfold setFlight;erw[Om$ O0 k1 k5 k6 ?_];rw[OB (show(Θ t != Ω)=μ from by simp)];erw[Pp u1 u2 (ab.mp u3).1 ?_];let I4:=i.cleared F u1 u2 u3;erw[Px (hz (.ref x) p _ _ _ D (I4.mark (.ref x) λ_ _=>False) qz) (λf s6 Q=>?_) λ_ _ z=>z.elim];cases f with
  |next |brk |cont=>let⟨j,Y,k,n⟩:=Q;exact#[_,_,k.unmark I.ok,n]
  |ret v=>let⟨y,j,Y,k,rv,n⟩:=Q;exact#[y,_,_,k.unmark I.ok,rv,n]
 let⟨mC,q⟩:=q;erw[wpAny_handleBy_cons (codeAny_handlers_test ?_) BT];erw[qe (i.mark (.ref x) λ_ _=>False) hg hm ?_ L];erw[Qz i.kIn k1 k2 hA tA mA mC _ _ _ _ (λ_ _ e=>e) ?_];rwa[g hs$ q t hn]
end
end _L
namespace _L
open PySem PySem.Spec PyProof.Rows
def bY.m(r:bY k A)(h:j<=k:=by omega):bY j A:=r.mono h
def bV{N P:xL ρ}{s:ic}(a:↥(s.kind=.function))(b:↥(s.isCoroutine=ν))(c:↥(s.isGenerator=ν))(d:autoParam N.Nodup NM._auto_1)(e:↥(N.take (ο P)=P))(f:autoParam (∀x∈P,s.names.lookup x=δ .local ∨ s.names.lookup x=δ .cell) NM._auto_1)(g:autoParam (∀y∈s.names,y.2≠.free) NM._auto_1):am N P s:=#[a,b,c,d,e,f,g]
def oQ{N:xL ρ}{s t:ic}{M:xL ρ}{i:xL Nat}(a:autoParam (∀y∈t.names,y.2≠.cell) NM._auto_1)(b:↥(t.kind=.function))(c:autoParam (∀y∈t.names,y.2=.local->t.names.lookup y.1=δ .local) NM._auto_1)(d:autoParam (∀y∈t.names,y.2=.free->s.names.lookup y.1=δ .cell) NM._auto_1)(e:autoParam (M.drop n=i.map (λi=>N.getD i Str.empty)) NM._auto_1)(f:↥(ο M=n+ο i))(g:autoParam (∀j∈i,t.names.lookup (N.getD j Str.empty)=δ .free) NM._auto_1):bn N s t M n i:=#[a,b,c,d,e,f,g]
end _L
local macro_rules|`(tactic|left)=>`(tactic|try refine let s:=_;(?_:(_:_L.TS) _ s _))
local macro_rules|`(tactic|sleep $n)=>do{let f (i:Nat):=Lean.mkIdent (.num `t i);let mut t←`((?_:_L.fh _ $(f 1) _ _ _));let m:=n.getNat;for i in[1:m+1]do{t←if i==m then `(let $(f i):ident:=_;$t) else `(let $(f i):ident:=_L.fh _ $(f (i+1));$t)};`(tactic|refine $t)}
local macro_rules|`(tactic|symm)=>do{let g:=Lean.mkIdent `ℊ;`(tactic|first|with_reducible refine (?_:$g)|refine let $g:ident:Prop:=_;(?_:$g)|skip)}
local macro_rules|`(tactic|right)=>do{let g:=Lean.mkIdent `ℊ;`(tactic|try unfold $g)}
local macro_rules|`(tactic|obtain $p:rcasesPat:=$t)=>`(tactic|(refine _L.aX λG k=>?_;rcases $t:term with $p:rcasesPat<;>(refine k ?_;clear k)))
local macro_rules|`(⇑$n)=>do{let i:=Lean.mkIdent;`(_L.ai $(i `P) $(i `w) $(i `K) $(i `mg) $(i `base) _L.aH $n)}
namespace _K
open PySem PySem.Spec PyProof.Rows _L
abbrev z0z:xL ρ:=["term"]
abbrev z1z:xL ρ:=["_law_box_here","_law_wide"]
abbrev z2z:xL ρ:=["_law_box_here"]
abbrev z3z:xL ρ:=["statement","behind"]
abbrev z4z:xL ρ:=["statement"]
abbrev z5z:xL ρ:=["part","n","held"]
abbrev z6z:xL ρ:=["_law_box_here","_law_names_here","_law_heads","_law_spare","_law_deep"]
abbrev z7z:xL ρ:=["self","parts","cells","most"]
abbrev z8z:xL ρ:=["self","statement","behind"]
abbrev z9z:xL ρ:=["path","what"]
abbrev z10z:xL ρ:=["term","held"]
abbrev z11z:xL ρ:=["self","deed","deep"]
abbrev z12z:xL ρ:=["_law_box_here","_law_names_here","_law_deep"]
abbrev z13z:xL ρ:=["self","body","behind"]
abbrev z14z:xL ρ:=["self","part","args","deep"]
abbrev z15z:xL ρ:=["self","path","old","deep"]
abbrev z16z:xL ρ:=["_law_chain","_law_at"]
abbrev z17z:xL ρ:=["part","step"]
abbrev z18z:xL ρ:=["body","behind"]
abbrev z19z:xL ρ:=["_law_box_here","_law_a","_law_b"]
abbrev z20z:xL ρ:=["_law_old","_law_new","_law_old_at","_law_new_at","_law_found_here"]
abbrev z21z:xL ρ:=["_law_parts","_law_f","_law_args","_law_deep","_law_state"]
abbrev z22z:xL ρ:=["name","params","body"]
abbrev z23z:xL ρ:=["_law_box_here","_law_f","_law_inner_here","_law_w"]
abbrev z24z:xL ρ:=["self","statement","place","behind"]
abbrev z25z:xL ρ:=["sign","left","right"]
abbrev z26z:xL ρ:=["self","cells","most"]
abbrev z27z:xL ρ:=["self","path","old","deed","deep"]
abbrev z28z:xL ρ:=["_law_box_here","_law_total"]
abbrev z29z:xL ρ:=["_law_box_here","_law_names_here"]
abbrev z30z:xL ρ:=["parts","f","args","cells","most"]
abbrev z31z:xL ρ:=["parts","old","cells","most"]
abbrev z32z:xL ρ:=["_law_j","_law_old","_law_step"]
abbrev z33z:xL ρ:=["_law_box_here","_law_total","_law_letters","_law_wide","_law_spot_here","_law_signs","_law_first","_law_form","_law_found_here","_law_k","_law_one","_law_word","_law_some","_law_odd"]
abbrev z34z:xL ρ:=["_law_k","_law_box_here","_law_letters"]
abbrev z35z:xL ρ:=["_law_j","_law_box_here","_law_letters"]
abbrev z36z:xL ρ:=["num","var","op","go","ask","back","chain","sets","iff","ends","calls","reads","gives"]
abbrev z37z:xL ρ:=["_law_one","_law_box_here","_law_names_here"]
abbrev z38z:xL ρ:=["_law_box_here","_law_total","_law_room"]
abbrev z39z:xL ρ:=["_law_box_here","_law_f","_law_g","_law_w"]
abbrev z40z:xL ρ:=["_law_old","_law_new","_law_old_at","_law_new_at","_law_found_here","_law_mark","_law_k","_law_step","_law_path","_law_j","_law_some","_law_lenders","_law_calls","_law_pair","_law_both"]
abbrev z41z:xL ρ:=["_law_parts","_law_f","_law_args","_law_cells_here"]
abbrev z42z:xL ρ:=["_law_box_here","_law_names_here","_law_heads","_law_spare","_law_deep","_law_kind","_law_x","_law_f","_law_params","_law_body_here"]
abbrev z43z:xL ρ:=["_law_box_here","_law_f","_law_inner_here","_law_w","_law_n","_law_i","_law_s","_law_x","_law_y","_law_body_here","_law_spot_here","_law_start","_law_loop"]
abbrev z44z:xL ρ:=["_law_box_here","_law_f","_law_inner_here","_law_w","_law_n","_law_i","_law_s","_law_x","_law_y","_law_spot_here","_law_body_here","_law_kept","_law_some","_law_start","_law_loop"]
abbrev z45z:xL ρ:=["_law_box_here","_law_program","_law_total","_law_f","_law_params","_law_body_here"]
abbrev z46z:xL ρ:=["_law_script","_law_program","_law_f","_law_args","_law_parts","_law_cells_here","_law_state","_law_old","_law_due","_law_told","_law_found_here"]
variable {P:ψ}{w:bF}{K:β}{mg:ρ->ym η}{base:de}
def bX(i:Nat):bU:=PySem.Challenge.pw_againbook_k41_from_a_book_of_no_cells.main.body.getD i (.Pass #[0,0,0,0])
abbrev FP:bU:=bX 60
abbrev xX:bU:=bX 61
abbrev ll:bU:=bX 63
def aI(p:ζ)(H h:Hp):Prop:=∀b o,b≠p->H b=δ o->h b=δ o
def aI.refl:aI p H H:=λ_ _ _ h=>h
def aI.trans(a:aI p H d)(b:aI p d e):aI p H e:=λc o n h=>b c o n (a c o n h)
def aI.of_eq{H a:Hp}(h:∀b,b≠p->a b=H b):aI p H a:=λb o n e=>by rw[h b n];rwa[e]
def aI.upd_new{o:HO}(a:aI p H h)(n:h r=θ):aI p H (af h r o):=λb u N e=>by let q:=a b u N e;rw[jh$ jk q n];rwa[q]
def aI.upd_own(a:aI p H h)(n:H r=θ):aI p H (af h r o):=λb u N e=>by rw[jh$ jk e n];rwa[a b u N e]
structure au(H:Hp)(p:ζ):Prop where
 ob:∃a b:Int,0<=a/\1<=b/\b<=2147483646/\H p=δ (.lst [.int a,.int b])
def au.eq{c:Hp}(B:au H p)(e:c p=H p):au c p:=by let⟨a,b,d,f,g,h⟩:=B.ob;exact#[a,b,d,f,g,by rw[e];rwa[h]]
def au.upd_new{o:HO}(B:au H p)(n:H r=θ):au (af H r o) p:=by let⟨a,b,c,d,e,h⟩:=B.ob;rwa[B.eq (by rw[jh$ jk h n])]
def au.ne(B:au H p)(n:H r=θ):r≠p:=by let⟨a,b,c,d,e,h⟩:=B.ob;rwa[O3$ jk h n]
inductive bo(c:xL V)(H:Hp)(Q:VK)(a:XK):Prop
 |mk(p:ζ)(w:Int)(_:c=[.ref p,.int w])(_:au H p)(_:0 < w)(_:w<=1000000000000000000)(_:∀(d:Int) (H':Hp),0<=d->d < w->au H' p->(∀b,b≠p->H' b=H b)->Q (.int d) H')
inductive rS(K:β)(e:xL V)(H:Hp)(Q:VK)(c:XK):Prop
 |mk(a:ζ)(d:xL Int)(k:Int)(_:e=[.ref a,.int k])(_:aL K H a (d.map vr))(_:0<=k)(_:k < 1000)(_:∀(r:ζ) (H':Hp),H r=θ->au H' r->(∀b,b≠r->H' b=H b)->Q (.ref r) H')
def si:(10:Int) ^ (18:Int).toNat=1000000000000000000:=NP
def wf{ns:xL Int}{k:Int}(H:0<=k)(a:k < (ns.length:Int)):∃v:Int,eV (ns.map vr) k=δ (.int v):=by
 let h:k.toNat < ο ns:=NO
 let e:k=((k.toNat:Nat):Int):=NO
 let q:eV (ns.map vr) ((k.toNat:Nat):Int)=δ (.int ns[k.toNat]):=jH (by rw[OL,On h];rfl);rw[<- e]at q;exact#[_,q]
structure Cl(P:ψ)(w:bF)(K:β)(mg:ρ->ym η)(base:de)(L:Nat)(f:ζ)(fd:cc)(ps:xL ρ)(sp:Sp)(py:ρ):Prop where
 g:⇑L f fd ps sp
 b:aE K fd ps []
 k:gb K (.ref f)=μ
 m:mg py=↑f
def Cl.e{X:Cx}{e:dr}(c:Cl X.prog X.w X.K X.mg X.base L f o q s a)(i:bY L X.A)(j:PA X (e::E) t)(l:↥(Gl X a))(h:↥((a==("__debug__":ρ))=ν))(n:↥(Δ (e::E) X.env=(ν,eval e X.env)::Δ E X.env))(H:↥((fy d$ Δ E X.env).any (·.1)=ν)):PE X (.Call (.Name a p) (e::E) [] d) (fb s [] E0 t):=kC c.g i l c.m c.k c.b .nil bQ j h n H
def jv{X:Cx}(h:PE X a t):PE X (.Subscript a (.Constant (.int i) j p) b) (fc (db X.K) t$ tC$ .int i):=jq jE h jf λ_ _=>Z
def jA{X:Cx}{p:Pos}(i:Nat)(h:X.N.Nodup)(H:PE X e t)(b:↥(X.N[i]?=δ x))(c:uT X.env.scope x:=by rwa[ω Z])(d:↥(swapsWith e (δ$ .Name x a) p.line X.env=pure ν))(f:autoParam (X.fn x=μ∨X.env.scope.names.lookup x=δ .local) Wx._auto_1):PS X (.Assign [.Name x a] e p) (eP t$ bH i):=kU h b c H d f
def jr{K:β}{H:Hp}{Q:VK}(h:H p=δ (.tup x))(a:eV x n=δ v)(q:Q v H)(e:↥(b[i]?=δ (↑p))):fc (db K) (bj i) (tC$ .int n) b H Q:=#[_,e,p,x,n,v,Z,Z,aF.of h,a,q]
def jZ{X:Cx}(h:PE X a t):PT X (.Compare a [.Eq] [.Constant (.str x) j p] b) (ms$ fc IN t$ tC$ .str x):=jz qr h jm Z
def zo{X:Cx}(h:PE X a t):PT X (.Compare a [.Eq] [.Constant (.int x) j p] b) (ms$ fc IN t$ tC$ .int x):=jz qr h jf Z
def lv:am ["_law_box_here","_law_wide","_law_digit","_law_one","_law_mixed"] z1z (ae xX):=bV
def Br(F:xD K "_law_take" xX f x):⇑1 f x z1z bo:=by
 erw[F.ok lv λC A o s H V Q E z h=>?_]
 let⟨p,W,rfl,B,d,g,q⟩:=h;let⟨a,b,l,i,j,e⟩:=B.ob;refine#[_,jd (jy (jz qt (jq ju (pv 0) jf ∅) jf$ aD _)
   (jd (jA 2 lv.nd$ jw zg (jq ju (pv 0) jf ∅)$ pv 1)
   (jd (kS (jw KN (jq ju (pv 0) jf ∅)$ pv 1)$ zS (pv 0) jf kM)
   (jg$ jo$ pv 2))) jp)
  (jd (jA 3 lv.nd$ jw zg (jw zE (jq ju (pv 0) jf ∅) jf) jf)
  (jd (kS (jw jX (jw zg (jw jX (jw zE (pv 3) jf) jf) jf) jf)$ zS (pv 0) jf kM)
  (jd (jA 4 lv.nd$ jw KN (jw jX (jw zE (pv 3) jf)$ jq ju (pv 0) jf ∅) jf)
  (jd (jy (jz qt (pv 1) (jw KB jf jf)$ aD _) (jg$ jA 4 lv.nd$ jw zE (pv 4)$ pv 4) jp)
  (jg$ jo$ jw zg (pv 4)$ pv 1))))),?_]
 erw[#[_,Z,p,_,_,_,Z,Z,aL.of e,Z,_,_,Z,Z,_,Z,?_]];erw[cw (λc=>?_) (λc=>?_)]
 .let D:(0:Int) < a:=Pe c;erw[#[_,Z,p,_,_,_,Z,Z,aL.of e,Z,_,Z,_,_,Z,Z,d,?_]];erw[#[_,Z,p,_,_,_,Z,Z,aL.of e,Z,_,Z,_,_,Z,Z,#[d,g],_,Z,p,_,_,0,Z,Z,e,Z,_,Z,?_]];erw[q (a % W) _ (Pz _ NO) (Pj _ d) #[a / W,b,V' l NO,i,j,jc] λb n=>jh n]
 .let I:0<=b*69621 % 2147483647:=Pz _ NP;let J:b*69621 % 2147483647 < 2147483647:=Pj _ NP;erw[#[_,Z,p,_,_,_,Z,Z,aL.of e,Z,_,_,Z,Z,.inr #[NP,NP],_,_,Z,Z,(by show(0:Int) < 2147483647;decide),?_]];erw[#[_,Z,_,_,Z,Z,.inr #[NP,NP],_,_,Z,Z,_,_,Z,Z,(by show(0:Int) < 2147483646;decide),_,_,Z,Z,_,Z,p,_,_,1,Z,Z,e,Z,?_]];generalize m:b*69621 % 2147483647=one at*;let N:0<=(one*48271+30103) % 2147483646:=Pz _ NP;let L:(one*48271+30103) % 2147483646 < 2147483646:=Pj _ NP;generalize r:(one*48271+30103) % 2147483646=t at*;erw[#[_,Z,_,_,Z,Z,.inr #[NP,NP],_,Z,p,_,_,_,Z,Z,aL.of jc,Z,_,_,Z,Z,_,_,Z,Z,#[NP,NP],?_]];let X:0<=(one*2147483647+(t+1)) / 8191:=by omega
  let O:(one*2147483647+(t+1)) / 8191 < 18446744073709551616:=NO
  generalize u:(one*2147483647+(t+1)) / 8191=M at*;erw[#[_,Z,_,_,Z,Z,#[NP,NP,NP],_,_,Z,Z,_,Z,?_]];let v:au (af H p$ .lst [.int a,.int$ t+1]) p:=#[a,t+1,l,NO,NO,jc];erw[cw (λy=>?_) (λy=>?_)]
  .erw[#[_,Z,_,Z,_,_,Z,Z,.inl #[N09,N09],?_]];erw[#[_,Z,_,Z,_,_,Z,Z,d,?_]];rwa[q _ _ (Pz _ NO) (Pj _ d) v λb n=>jh n]
  .erw[#[_,Z,_,Z,_,_,Z,Z,d,?_]];rwa[q _ _ (Pz _ NO) (Pj _ d) v λb n=>jh n]
def nR:am ["_law_script","_law_k","_law_cell","_law_seed"] ["_law_script","_law_k"] (ae FP):=bV
def ER(F:xD K "_law_box" FP f I)(m:mg "len"=θ)(M:mg "int"=θ):⇑1 f I ["_law_script","_law_k"] (rS K):=by
 erw[F.ok nR λJ A o s H W Q E X h=>?_]
 let⟨a,ns,k,rfl,d,i,L,q⟩:=h;refine#[_,jd (jA 2 nR.nd$ jw jX (jw zE jf$ pv 1) jf)
  (jd (jy (jz QN (pv 1) (jO jL Z m Pm$ ja (pv 0) jb)$ aD _)
   (jg$ jA 2 nR.nd$ jq ju (pv 0) (pv 1) ∅)
   (jg (jy (jz qt (jO jL Z m Pm$ ja (pv 0) jb) jf$ aD _)
    (jg$ jA 2 nR.nd$ jw jX (pv 2)$ jw zE (jw zg (jq ju (pv 0) (jw zg (pv 1)$ jO jL Z m Pm$ ja (pv 0) jb) ∅) jf) jf) jp)))
  (jd (jA 3 nR.nd$ jw jX (jw zg (jw jX (jw zE (jw zg (pv 2) jf) jf)$ jw zE jf$ pv 1) jf) jf)
  (jg$ jo$ jF$ ja (jw zE (pv 2)$ jI qM Z M VX$ ja (qf wY (pv 2) (jw KB jf jf)$ aD _) jb)$ ja (pv 3) jb))),?_]
 let e:(ns.map vr).length=ο ns:=Oq _;let T:∀c:Int,∃v:V,∃x:Int,v= .int x/\1<=x/\x<=2147483646/\v= .int ((c % 2147483629*48271+40692*k) % 2147483646+1):=λc=>by let N:0<=(c % 2147483629*48271+40692*k) % 2147483646:=Pz _ NP;let O:(c % 2147483629*48271+40692*k) % 2147483646 < 2147483646:=Pj _ NP;exact#[_,_,Z,NO,NO,Z]
 let j:∀(c:Int) (r:ζ),H r=θ->Q (.ref r) (af H r$ .lst [.int$ c*(if decide ((10:Int) ^ (18:Int).toNat<=c)=μ then 1 else 0),.int ((c % 2147483629*48271+40692*k) % 2147483646+1)]):=λc r R=>by
  erw[q r _ R #[_,_,?_,?_,?_,jc] λb n=>jh n]
  .rw[si];by_cases h:(1000000000000000000:Int)<=c
   .rw[OE h,OB Z];omega
   .rw[Oz h,OD OG];omega
  .let N:0<=(c % 2147483629*48271+40692*k) % 2147483646:=Pz _ NP;omega
  .let O:(c % 2147483629*48271+40692*k) % 2147483646 < 2147483646:=Pj _ NP;omega
 let B:∀c:Int,Af c (if decide ((10:Int) ^ (18:Int).toNat<=c)=μ then 1 else 0):=λc=>.inr (by split<;>decide);erw[ah λF0 u=>#[_,Z,_,_,Z,Z,.inl #[NP,NP],_,_,Z,Z,u _ _ ?_]];erw[ah λS y=>?_];let l:∀c:Int,S [↑a,δ$ .int k,δ$ .int c,θ] H:=λc=>y _ _ (ah λF2 U=>#[_,Z,_,_,Z,Z,(by show(0:Int) < 2147483629;decide),_,_,Z,Z,.inr #[NP,NP],_,Z,_,_,Z,Z,.inl #[NP,NP],_,_,Z,Z,_,_,Z,Z,(by show(0:Int) < 2147483646;decide),_,_,Z,Z,U _ _ (#[_,Z,_,Z,_,_,Z,Z,#[NP,NP,NP],_,_,Z,Z,.inr #[_,Z,_,_,Z,Z,B c,_,Z,ci,j c]])]);erw[pU λG g=>#[_,Z,_,Z,a,_,Z,.inl d,_,_,Z,Z,_,Z,g _ _ ?_]];erw[cw (λc=>?_) (λc=>?_)]
 .let C:k < (((ns.map vr).length:Nat):Int):=Pe c;rw[e]at C;let⟨v,p⟩:=wf (ns:=ns) i C;exact#[_,Z,_,Z,a,_,_,_,Z,Z,d,p,l v]
 .let C:¬k < (((ns.map vr).length:Nat):Int):=SG (mS.mpr c);rw[e]at C;erw[pU λG g=>#[_,Z,a,_,Z,.inl d,_,_,Z,Z,_,Z,g _ _ ?_]];refine cw (λz=>?_) (λz=>?_)
  .let D:(0:Int) < (((ns.map vr).length:Nat):Int):=Pe z;let⟨v,p⟩:=wf (ns:=ns) (k:=k % (((ns.map vr).length:Nat):Int)) (Pz _ NO) (by let:=Pj k D;rw[e]at this;rw[e];rwa[this]);exact#[_,Z,_,Z,_,Z,_,Z,a,_,Z,.inl d,_,_,Z,Z,D,a,_,_,_,Z,Z,d,p,_,_,Z,Z,(by show(0:Int) < 2147483629;decide),_,_,Z,Z,.inr #[NP,NP],_,_,Z,Z,l _]
  .rwa[l _]
def pE(i j:ρ):(i++j).length=i.length+j.length:=by show(i.cps++j.cps).size=i.cps.size+j.cps.size;rwa[Uf]
def zI:1000000<=τ:=by rw[RO];decide
def aq{H:Hp}{o:HO}(h:H b=δ u)(n:H r=θ):af H r o b=δ u:=by rw[jh$ jk h n];rwa[h]
def yy{z:ρ}{k:Int}(H:0<=k)(a:k < (z.length:Int)):∃c:Nat,eV z.cps.toList k=δ c:=by
 let b:ο z.cps.toList=z.length:=OT;let h:k.toNat < ο z.cps.toList:=NO
 let e:k=((k.toNat:Nat):Int):=NO
 let q:eV z.cps.toList ((k.toNat:Nat):Int)=δ z.cps.toList[k.toNat]:=jH (On h);rw[<- e]at q;exact#[_,q]
def KF{ys:xL ρ}{k:Int}(H:0<=k)(a:k < (ys.length:Int)):∃y∈ys,eV (ys.map tT) k=δ (.str y):=by
 let h:k.toNat < ο ys:=NO
 let e:k=((k.toNat:Nat):Int):=NO
 let q:eV (ys.map tT) ((k.toNat:Nat):Int)=δ (.str ys[k.toNat]):=jH (by rw[OL,On h];rfl);rw[<- e]at q;exact#[_,RW h,q]
def bK(s:xL ρ)(lo h:ym Int):xL ρ:=(s.drop$ HT.sIx s.length 0 lo).take (HT.sIx s.length s.length h - HT.sIx s.length 0 lo)
def zJ(s:xL ρ)(lo h:ym Int):aT (s.map tT) lo h=(bK s lo h).map tT:=by unfold aT bK;rw[Oq,Sz,Wj]
def zY{lo:ym Int}(h:y∈bK s lo H):y∈s:=Vj (Pw h)
def qC(s:xL ρ)(lo h:ym Int):(bK s lo h).length<=ο s:=by unfold bK;rw[OZ,Ri];omega
theorem Jg:∀{ys:xL ρ},(∀y∈ys,y.length<=1)->(ys.map (·.length)).sum<=ο ys
 | [],_=>Ou _
 |y::r,h=>by let a:=h y ON;let b:=Jg (ys:=r) λz H=>h z (OY _ H);rw[PZ,List.sum_cons,O1];omega
def Jh{z:ρ}{ys:xL ρ}(H:z.length=0)(h:∀y∈ys,y.length<=1):(Txt.join z ys).length<=ο ys:=by show(Builtin.Str.glued z ys).length<=_;rw[size_glued,H,Nat.mul_zero,WL];rwa[Jg h]
def d9:ρ:="abcdefghijklmnopqrstuvwxyz"
def J7:d9.length=26:=NM
def tG(d:Int)(k:Nat):Nat:=97+((d+5*(0+(k:Int))) % 26).toNat
def AV(H:i < 20)(a:j < 20)(h:tG d i=tG d j):i=j:=by unfold tG at h;omega
def Es(H:0<=k)(a:k < 26)(h:eV d9.cps.toList k=δ c):c=97+k.toNat:=by
 let q:∀m:Fin 26,eV d9.cps.toList (m.val:Int)=δ (97+m.val):=NM
 let e:=q #[k.toNat,NO];let E:((k.toNat:Nat):Int)=k:=NO
 dsimp only at e;rw[E,h]at e;injection e
def Sh(A S:ρ)(d:Int)(c:Nat)(w:ρ):Prop:=if d=2 then ∃R:ρ,w=R++#[(ε [c])] else w=A++#[(ε [c])]++S∨w=A++#[(ε [c])]++S++"z"∨w="qqqqqqq"++#[(ε [c])]
def kN(a b:ρ):(a++b).cps.toList=a.cps.toList++b.cps.toList:=by show(a.cps++b.cps).toList=_;rwa[Array.toList_append]
def Yc{R:ρ}(h:R++(#[(ε [c])]:ρ)=r++#[(ε [C])]):c=C:=by let e:=PL (mU ∘ Str.cps) h;let e:(R++(#[(ε [c])]:ρ)).cps.toList=(r++(#[(ε [C])]:ρ)).cps.toList:=e;rw[kN,kN]at e;let:=List.append_inj_right' e Z;injection this
def AY{S:ρ}(h:A++(#[(ε [c])]:ρ)++S=A++#[(ε [C])]++S):c=C:=by let e:=PL (mU ∘ Str.cps) h;let e:(A++(#[(ε [c])]:ρ)++S).cps.toList=(A++(#[(ε [C])]:ρ)++S).cps.toList:=e;rw[kN,kN,kN,kN]at e;let:=U3 (Ta e);injection this
def Lc{A S : ρ}{d : Int}{c C : Nat}{w : ρ}(i : A.length + S.length <= 5)(h : Sh A S d c w)(H : Sh A S d C w) : c = C := by
  unfold Sh at h H;let l : ∀ c : Nat, (#[(ε [c])] : ρ).length = 1 :=λ_ => Z;let L : (Str.ofString "z").length = 1 := by decide +kernel
  let f : (Str.ofString "qqqqqqq").length = 7 := by decide +kernel
  split at h
  · rename_i a
    rw [OB a] at H;obtain ⟨R, rfl⟩ := h;obtain ⟨r, e⟩ := H;rwa[Yc e]
  · rename_i a
    rw [OD a] at H;rcases h with rfl | rfl | rfl <;> rcases H with e | e | e
    · rwa[AY e]
    all_goals first
      | rwa[Yc e]
      | (have g := PL Str.length e
         simp only [pE, l, L, f] at g;omega)
      | skip
    let E := PL (mU ∘ Str.cps) e;let E : (A ++ (#[(ε [c])] : ρ) ++ S ++ ("z" : ρ)).cps.toList = (A ++ (#[(ε [C])] : ρ) ++ S ++ ("z" : ρ)).cps.toList := E;rw [kN, kN (A ++ _ ++ S)] at E;let b := Ta E;rw [kN, kN, kN, kN] at b;let := U3 (Ta b);injection this
def Yd{y:xL ρ}:y.Nodup↔∀i j:Nat,i < j->j < ο y->y[i]?≠y[j]?:=by
 unfold List.Nodup;rw[UL];erw[#[λh i j H a e=>?_,λh i j b a H e=>h i j H a ?_]]
 .rw[On (NO:i < ο y),On a]at e;injection e with e;rwa[h i j NO a H e]
 .rw[On b,On a,e]
def yr{A S:ρ}{d D:Int}{Y:xL ρ}(b:A.length+S.length<=5)(g:Y.length<=20)(h:∀j y,Y[j]?=δ y->Sh A S D (tG d j) y):Y.Nodup:=by rw[Yd];intro i j c H e;let a:=h i _ (On (NO:i < ο Y));let f:=h j _ (On H);rw[On (NO:i < ο Y),On H]at e;injection e with e;rw[e]at a;let:=AV NO NO (Lc b a f);omega
def tP{y:xL ρ}(h:y.Nodup)(b:a∉y):(y.set n a).Nodup:=by
 rw[Yd]at h ⊢;intro i j H c e;rw[TC]at c;by_cases d:n=i
 .rw[d,So NO,RC NO]at e;rwa[b$ OX e.symm]
 .by_cases f:n=j
  .rw[f,So N09,RC NO]at e;rwa[b$ OX e]
  .rw[RC d,RC f]at e;rwa[h i j H c e]
def Bc{y:xL ρ}(h:pV (.str a) (y.map tT)=ν):a∉y:=λm=>by unfold pV at h;rw[VF]at h;rwa[h (.str a) (dg.mpr #[a,m,Z]) (by simp [oE])]
def AB{ss:xL ρ}{d1 d2:Int}(h:ο ss=(1+d1).toNat)(a:0<=d2)(b:d2 < 1+d1):(bK ss θ$ δ d2).length+(bK ss (δ$ d2+1) θ).length<=d1.toNat:=by
 obtain⟨k,rfl⟩:∃k:Nat,d2=k:=#[d2.toNat,(Vu a).symm];obtain⟨n,rfl⟩:∃n:Nat,d1=n:=#[d1.toNat,(Vu NO).symm];let H:k<=n:=NO
 let h:ο ss=n+1:=by rw[h];omega
 unfold bK;rw[show((k:Int)+1)=((k+1:Nat):Int) from Z,HT.sIx_nat,HT.sIx_nat,OZ,OZ,Ri,h,Rz$ Rj H,Rz$ Nat.le_succ_of_le H];erw[OK (Nat.add_le_add (TJ _ _)$ TJ _ _) ?_];show k - 0+(n+1 - (k+1))<=n;rw[SQ,Nat.add_sub_add_right,Vr H];rwa[Ou _]
def MJ{S:ρ}:Sh A S d c ("qqqqqqq"++#[(ε [c])]):=by
 unfold Sh;split
 .exact#[_,Z]
 .rwa[.inr$ .inr Z]
def MK{A S:ρ}{d:Int}{c:Nat}{w:ρ}(h:if d=2 then ∃R:ρ,w=R++#[(ε [c])] else w=A++#[(ε [c])]++S∨w=A++#[(ε [c])]++S++"z"):Sh A S d c w:=by
 unfold Sh;split at h
 .rename_i e;rw[OB e];rwa[h]
 .rename_i e;rw[OD e];rwa[h.elim .inl λz=>.inr (.inl z)]
def pre(s:xL ρ)(d:Int):ρ:=Txt.join "" (bK s θ$ δ d)
def gQ(s:xL ρ)(d:Int):ρ:=Txt.join "" (bK s (δ$ d+1) θ)
inductive ij(b:xL V)(H:Hp)(Q:VK)(a:XK):Prop
 |mk(p:ζ)(n:Int)(_:b=[.ref p,.int n])(_:au H p)(_:1<=n)(_:n<=20)(_:∀(r:ζ) (ys:xL ρ) (H':Hp),H r=θ->H' r=δ (.lst (ys.map tT))->(ys.length:Int)=n->(∀y∈ys,y.length<=20)/\ys.Nodup->au H' p->aI p H H'->Q (.ref r) H')
def bq:am z33z z28z (ae ll):=bV
def QI:ic:=#[.function,[(".0",.local),("_law_k",.local),("_law_take",.globalImplicit),("_law_box_here",.free),("_law_letters",.free)],ν,ν,[]]
def Zv:(z34z:xL ρ).Nodup:=NM
def Zw:bn z33z (ae ll) QI z34z 1 [0,2]:=oQ
def QJ:ic:=#[.function,[(".0",.local),("_law_j",.local),("_law_take",.globalImplicit),("_law_box_here",.free),("_law_letters",.free)],ν,ν,[]]
def Zx:(z35z:xL ρ).Nodup:=NM
def Zy:bn z33z (ae ll) QJ z35z 1 [0,2]:=oQ
def JE{p:ζ}{Q:xL V->Hp->Prop}(o:n<=20)(B:au f p)
  (q:∀(S:xL ρ) (H:Hp),ο S=n->(∀s∈S,s.length<=1)->au H p->(∀b,b≠p->H b=f b)->Q (S.map tT) H):
  eZ (uS 0 n) 1 [↑p,δ$ .str d9] (bH 0) nq (fc BJ (bj 2)$ fb bo [] E0$ ap (bj 1)$ ap (tC$ .int 26) aY) Q f:=by
 refine YB (λi y H=>∃S:xL ρ,y=S.map tT/\ο S=i/\(∀s∈S,s.length<=1)/\au H p/\∀b,b≠p->H b=f b)
  #[[],Z,Z,(λ_ h=>nomatch h),B,λ_ _=>Z] (OK o NP) (λi y H #[S,e,l,_]=>by rw[e,Oq,l];rwa[Ou _]) ?_ ?_
 .intro i y H x a;let⟨S,rfl,g,j,m,E⟩:=a;erw[#[_,Z,_,Z,p,26,Z,m,NP,NP,λd A D r t u=>?_]];let⟨c,v⟩:=yy (z:=d9) D (by rw[J7];rwa[r]);erw[#[_,_,c,Z,Z,NP,v,S++[#[(ε [c])]],by rw[OU];rfl,by rw[Ot,g];rfl,λs hs=>?_,t,λb N=>(u b N).trans (E b N)]];rcases bm.mp hs with hs |hs
  .rwa[j s hs]
  .rw[χ.mp hs];rwa[Ou 1]
 .intro y H a;let⟨S,rfl,g,j,m,E⟩:=a;rwa[q S H g j m E]
def Rw(p g r:ζ)(n d D b e:Int)(i c:Nat)(s y:xL ρ)(H:Hp)(L:Nat)(Z:ρ->Prop):_L.St->Hp->Prop:=λa h=>∃W:ρ,(W.length<=L/\Z W)/\
 a=[↑p,δ$ .int n,δ$ .str d9,δ$ .int (1+d),δ$ .int D,↑g,δ$ .int b,δ$ .int e,↑r,δ$ .int (0+(i:Int)),δ$ .str #[(ε [c])],δ$ .str W,θ,θ]/\
 h g=δ (.lst$ s.map tT)/\h r=δ (.lst$ y.map tT)/\au h p/\aI p H h
def Rf(p r:ζ)(n:Int)(H:Hp):_L.St->Hp->Prop:=λa h=>a[8]?=δ (↑r)/\∃Y:xL ρ,h r=δ (.lst$ Y.map tT)/\(Y.length:Int)=n/\((∀y∈Y,y.length<=20)/\Y.Nodup)/\au h p/\aI p H h
def Q9(Y:xL ρ):(Y.map tT).all dC=μ:=by rw[Tf];intro v h;let⟨y,_,rfl⟩:=dg.mp h;rfl
def yp(Y:xL ρ)(j:Nat)(y:ρ):(Y.map tT).set j (tT y)=(Y.set j y).map tT:=(Wr ..).symm
inductive NI(p g r:ζ)(n b c d e:Int)(v:xL ρ)(H:Hp)(i:Nat)(x:_L.St)(a:Hp):Prop
 |mk(s t u:ym V)(w:xL ρ)(f:x=[↑p,δ (.int n),δ (.str d9),δ (.int (1+b)),δ (.int c),↑g,δ (.int d),δ (.int e),↑r,s,t,u,θ,θ])(h:a g=δ (.lst (v.map tT)))(k:a r=δ (.lst (w.map tT)))(l:ο w=i)(m:(∀y∈w,y.length<=20)/\∀j y,w[j]?=δ y->Sh (pre v c) (gQ v c) e (tG d j) y)(o:au a p)(q:aI p H a)
def wS(F:xD K "_law_names" ll f fd)(GT:⇑1 fT f4 z1z bo)(x:aE K f4 z1z [])(C:gb K (.ref fT)=μ)
  (M:mg "_law_take"=↑fT) (mr:mg "range"=θ):⇑2 f fd z28z ij:=by
 erw[F.ok bq λc1 A o1 s H vs Q E D h=>?_]
 symm;let⟨p,n,rfl,B,a4,a5,q⟩:=h;erw[#[_,(@jd _ _ _ _ _ (@kU _ _ (2) _ _ _ _ bq.nd Z (fJ Z) (@jm _ _ _ _) NK$ .inl Z)$ @jd _ _ _ _ _ (@kU _ _ (3) _ _ _ _ bq.nd Z (ω Z) (@jw _ _ _ _ _ _ _ _ jX (@jf _ _ _ _)$ @kC _ _ _ _ _ _ _ _ _ _ _ _ _ _ _ _ GT D Z M C x .nil bQ (@ja _ _ _ _ _ (@pv _ 0 _ _ NK (.inr$ .inl Z) NP NP) (@ja _ _ _ _ _ (@jf _ _ _ _) (@jb _) NK) NK) NP NK NK) NK$ .inl Z)$ @jd _ _ _ _ _ (@kU _ _ (4) _ _ _ _ bq.nd Z (ω Z) (@kC _ _ _ _ _ _ _ _ _ _ _ _ _ _ _ _ GT D Z M C x .nil bQ (@ja _ _ _ _ _ (@pv _ 0 _ _ NK (.inr$ .inl Z) NP NP) (@ja _ _ _ _ _ (@pv _ 3 _ _ NK (.inl Z) NP NP) (@jb _) NK) NK) NP NK NK) NK$ .inl Z)$ @jd _ _ _ _ _ (@qK _ _ _ _ _ _ _ _ _ _ (5) (z34z) (1) ([0,2]) _ _ _ _ bq.nd Z (ω Z) Z (@zh _ _ _ _ _ _ Z mr (@ja _ _ _ _ _ (@pv _ 3 _ _ NK (by first |exact ω Z |exact fJ (ω Z) |exact fJ$ fJ Z) NP NP) (@jb _) NK) NK) Zw (λ_ _ _ _ _=>(@jx _ _ (0) _ Zv Z (ω Z) Ch)) (λ_ _ _ _ _=>(@zF _)) (λ_ _ _ _ _=>(@jq _ _ _ _ _ _ _ KC (@pv _ 2 _ _ NK (by first |exact ω Z |exact fJ (ω Z) |exact fJ$ fJ Z) NP NP) (@kC _ _ _ _ _ _ _ _ _ _ _ _ _ _ _ _ GT D Z M C x .nil bQ (@ja _ _ _ _ _ (@pv _ 1 _ _ NK (by first |exact ω Z |exact fJ (ω Z) |exact fJ$ fJ Z) NP NP) (@ja _ _ _ _ _ (@jf _ _ _ _) (@jb _) NK) NK) NP NK NK) ∅)) NK Ch Cv)$ @jd _ _ _ _ _ (@kU _ _ (6) _ _ _ _ bq.nd Z (ω Z) (@kC _ _ _ _ _ _ _ _ _ _ _ _ _ _ _ _ GT D Z M C x .nil bQ (@ja _ _ _ _ _ (@pv _ 0 _ _ NK (.inr$ .inl Z) NP NP) (@ja _ _ _ _ _ (@jf _ _ _ _) (@jb _) NK) NK) NP NK NK) NK$ .inl Z)$ @jd _ _ _ _ _ (@kU _ _ (7) _ _ _ _ bq.nd Z (ω Z) (@kC _ _ _ _ _ _ _ _ _ _ _ _ _ _ _ _ GT D Z M C x .nil bQ (@ja _ _ _ _ _ (@pv _ 0 _ _ NK (.inr$ .inl Z) NP NP) (@ja _ _ _ _ _ (@jf _ _ _ _) (@jb _) NK) NK) NP NK NK) NK$ .inl Z)$ @jd _ _ _ _ _ (@kU _ _ (8) _ _ _ _ bq.nd Z (ω Z) (@jF _ _ _ _$ @jb _) NK$ .inl Z)$ @jd _ _ _ _ _ (@km _ _ _ _ _ _ _ _ O8 Z (@zh _ _ _ _ _ _ Z mr (@ja _ _ _ _ _ (@pv _ 1 _ _ NK (.inl Z) NP NP) (@jb _) NK) NK) (@jx _ _ (9) _ bq.nd Z (ω Z)$ .inl Z) (@jd _ _ _ _ _ (@kU _ _ (10) _ _ _ _ bq.nd Z (ω Z) (@jq _ _ _ _ _ _ _ KC (@pv _ 2 _ _ NK (.inr$ .inl Z) NP NP) (@jw _ _ _ _ _ _ _ _ zg (@jw _ _ _ _ _ _ _ _ jX (@pv _ 6 _ _ NK (.inl Z) NP NP)$ @jw _ _ _ _ _ _ _ _ zE (@jf _ _ _ _)$ @pv _ 9 _ _ NK (.inl Z) NP NP)$ @jf _ _ _ _) ∅) NK$ .inl Z)$ @jd _ _ _ _ _ (@j6 _ _ _$ @kU _ _ (11) _ _ _ _ bq.nd Z (ω Z) (@jw _ _ _ _ _ _ _ _ zM (@jw _ _ _ _ _ _ _ _ zM (@j9 _ _ _ _ _ _ _ _ _ _ _ _ Td Ti Th Xx (@jm _ _ _ _) (@ja _ _ _ _ _ (@jJ _ _ _ _ _ _ _ _ _ _ kj (@pv _ 5 _ _ NK (.inl Z) NP NP) (@jT _)$ @jG _ _ _$ @pv _ 4 _ _ NK (.inl Z) NP NP) (@jb _) NK) NK NK NK NK NK)$ @pv _ 10 _ _ NK (.inl Z) NP NP)$ @j9 _ _ _ _ _ _ _ _ _ _ _ _ Td Ti Th Xx (@jm _ _ _ _) (@ja _ _ _ _ _ (@jJ _ _ _ _ _ _ _ _ _ _ kj (@pv _ 5 _ _ NK (.inl Z) NP NP) (@jG _ _ _$ @jw _ _ _ _ _ _ _ _ jX (@pv _ 4 _ _ NK (.inl Z) NP NP)$ @jf _ _ _ _)$ @jT _) (@jb _) NK) NK NK NK NK NK) NK$ .inl Z)$ @jd _ _ _ _ _ (@j6 _ _ _$ @jy _ _ _ _ _ _ _ _ (@PW.pt _ _ _$ @qv _ _ _ _ _ _ _ (zo$ @pv _ 7 _ _ NK (.inl Z) NP NP)$ @zN _ _ _ _$ zo$ @jw _ _ _ _ _ _ _ _ zg (@pv _ 9 _ _ NK (.inl Z) NP NP)$ @jf _ _ _ _) (@jg _ _ _$ @kU _ _ (11) _ _ _ _ bq.nd Z (ω Z) (@jw _ _ _ _ _ _ _ _ zM (@pv _ 11 _ _ NK (.inl Z) NP NP)$ @jm _ _ _ _) NK$ .inl Z)$ @jp _)$ @jd _ _ _ _ _ (@j6 _ _ _$ @jy _ _ _ _ _ _ _ _ (zo$ @pv _ 7 _ _ NK (.inl Z) NP NP) (@jg _ _ _$ @kU _ _ (11) _ _ _ _ bq.nd Z (ω Z) (@jw _ _ _ _ _ _ _ _ zM (@j9 _ _ _ _ _ _ _ _ _ _ _ _ Td Ti Th Xx (@jm _ _ _ _) (@ja _ _ _ _ _ (@zk _ _ _ _ _ _ _ (z35z) (1) ([0,2]) _ _ _ _ Z (@zh _ _ _ _ _ _ Z mr (@ja _ _ _ _ _ (@kC _ _ _ _ _ _ _ _ _ _ _ _ _ _ _ _ GT D Z M C x .nil bQ (@ja _ _ _ _ _ (@pv _ 0 _ _ NK (by first |exact ω Z |exact fJ (ω Z) |exact fJ$ fJ Z) NP NP) (@ja _ _ _ _ _ (@jf _ _ _ _) (@jb _) NK) NK) NP NK NK) (@jb _) NK) NK) Zy (λ_ _ _ _ _=>(@jx _ _ (0) _ Zx Z (ω Z) Ch)) (λ_ _ _ _ _=>(@zF _)) (λ_ _ _ _ _=>(@jq _ _ _ _ _ _ _ KC (@pv _ 2 _ _ NK (by first |exact ω Z |exact fJ (ω Z) |exact fJ$ fJ Z) NP NP) (@kC _ _ _ _ _ _ _ _ _ _ _ _ _ _ _ _ GT D Z M C x .nil bQ (@ja _ _ _ _ _ (@pv _ 1 _ _ NK (by first |exact ω Z |exact fJ (ω Z) |exact fJ$ fJ Z) NP NP) (@ja _ _ _ _ _ (@jf _ _ _ _) (@jb _) NK) NK) NP NK NK) ∅)) Cv) (@jb _) NK) NK NK NK NK NK)$ @pv _ 10 _ _ NK (.inl Z) NP NP) NK$ .inl Z)$ @jp _)$ @jd _ _ _ _ _ (@j6 _ _ _$ @jy _ _ _ _ _ _ _ _ (@jz _ _ _ _ _ _ _ _ zC (@pv _ 11 _ _ NK (.inl Z) NP NP) (@ji _ _ _ _ _$ @Xy _ _ NK) Z) (@jg _ _ _$ @kU _ _ (11) _ _ _ _ bq.nd Z (ω Z) (@jw _ _ _ _ _ _ _ _ zM (@jm _ _ _ _)$ @pv _ 10 _ _ NK (.inl Z) NP NP) NK$ .inl Z)$ @jp _)$ @jg _ _ _$ @jN _ _ _ _ (@j9 _ _ _ _ _ _ _ _ _ _ _ _ OF OR OQ jQ (@pv _ 8 _ _ NK (.inl Z) NP NP) (@ja _ _ _ _ _ (@pv _ 11 _ _ NK (.inl Z) NP NP) (@jb _) NK) NK NK NK NK NK) NK) Cv)$ @jd _ _ _ _ _ (@j6 _ _ _$ @jy _ _ _ _ _ _ _ _ (@jz _ _ _ _ _ _ _ _ qr (@kC _ _ _ _ _ _ _ _ _ _ _ _ _ _ _ _ GT D Z M C x .nil bQ (@ja _ _ _ _ _ (@pv _ 0 _ _ NK (.inr$ .inl Z) NP NP) (@ja _ _ _ _ _ (@jf _ _ _ _) (@jb _) NK) NK) NP NK NK) (@jf _ _ _ _)$ aD _) (@jd _ _ _ _ _ (@kU _ _ (12) _ _ _ _ bq.nd Z (ω Z) (@jF _ _ _ _$ @Xy _ _ NK) NK$ .inl Z)$ @jd _ _ _ _ _ (@kU _ _ (13) _ _ _ _ bq.nd Z (ω Z) (@jq _ _ _ _ _ _ _ ju (@pv _ 12 _ _ NK (.inl Z) NP NP) (@kC _ _ _ _ _ _ _ _ _ _ _ _ _ _ _ _ GT D Z M C x .nil bQ (@ja _ _ _ _ _ (@pv _ 0 _ _ NK (.inr$ .inl Z) NP NP) (@ja _ _ _ _ _ (@jf _ _ _ _) (@jb _) NK) NK) NP NK NK) ∅) NK$ .inl Z)$ @jg _ _ _$ @jy _ _ _ _ _ _ _ _ (@jz _ _ _ _ _ _ _ _ Jz (@pv _ 13 _ _ NK (.inl Z) NP NP) (@pv _ 8 _ _ NK (.inl Z) NP NP) Z) (@jg _ _ _$ @kS _ _ _ _ _ _ (@pv _ 13 _ _ NK (.inl Z) NP NP) (@zS _ _ _ _ _ _ _ (@pv _ 8 _ _ NK (.inl Z) NP NP) (@kC _ _ _ _ _ _ _ _ _ _ _ _ _ _ _ _ GT D Z M C x .nil bQ (@ja _ _ _ _ _ (@pv _ 0 _ _ NK (.inr$ .inl Z) NP NP) (@ja _ _ _ _ _ (@pv _ 1 _ _ NK (.inl Z) NP NP) (@jb _) NK) NK) NP NK NK) kM Cv) NK NK NK)$ @jp _)$ @jp _)$ @jg _ _ _$ @jo _ _ _ _$ @pv _ 8 _ _ NK (.inl Z) NP NP),?_]];sleep 9;erw[gO λE0 f0=>f0 _ _ ?_];erw[gO λG a=>#[_,Z,p,6,Z,B,NP,NP,λd1 H1 a' b0 U e1=>#[_,_,Z,Z,a _ _ ?_]]];erw[gO λE2 f2=>#[_,Z,_,Z,p,_,Z,U,NO,NO,λd2 H2 b1 b2 B2 e2=>f2 _ _ ?_]];erw[gO λG a=>#[_,Z,_,Z,NO,NO,?_]];erw[JE (p:=p) NO B2 λss H3 a3 e B3 e3 g hg=>a _ _ ?_];left;let k3:aI p H H3:=(aI.of_eq e1).trans ((aI.of_eq e2).trans$ aI.of_eq e3);let v:g≠p:=B3.ne hg;erw[gO λG a=>#[_,Z,p,26,Z,B3.upd_new hg,NP,NP,λW H4 b3 b4 B4 e4=>a _ _ ?_]];erw[gO λE2 f2=>#[_,Z,p,3,Z,B4,NP,NP,λI H5 b5 b7 B5 e5=>f2 _ _ ?_]];let h2:H5 g=δ (.lst$ ss.map tT):=by rw[e5 g v,e4 g v];rwa[jc]
 let k5:aI p H H5:=(k3.upd_new hg).trans ((aI.of_eq e4).trans$ aI.of_eq e5);erw[gO λG a=>#[NP,λr u=>a _ _ ?_]];left;let m:r≠p:=B5.ne u;let h4:g≠r:=jk h2 u;let n3:H g=θ:=by
  cases z:H g with
  |none=>rfl
  |some o=>have:=k3 g o v z;rw[hg]at this;symm;cases this
 let X:H r=θ:=by
  cases z:H r with
  |none=>rfl
  |some o=>have:=k5 r o m z;rw[u]at this;symm;cases this
 let b8:=zI;erw[gO λG a=>fQ λJ j=>#[_,Z,_,Z,NO,NO,j _ _ ?_]];erw[zj (lo:=0) (NI p g r n d1 d2 W I ss H) #[θ,θ,θ,[],Z,aq h2 u,jc,Z,#[(λ_ h=>nomatch h),(λ_ _ h=>nomatch h)],B5.upd_new u,k5.upd_new u] ?_ ?_]
 .intro E0 _ i σ H' hi fE Gq T b;symm;let⟨ok,oo,ow,ys,rfl,L,Y,h0,d,B',k'⟩:=b;left;symm;let⟨c,hc⟩:=yy (z:=d9) (k:=(W+5*(0+(i:Int))) % 26) (Pz _ NP) (by rw[J7];rwa[Pj _ NP]);erw[T ?_];show fh (eP _ _) _ E0 _ _;sleep 5;erw[gO λG a=>#[_,Z,_,Z,_,Z,_,_,Z,Z,.inl #[NP,NP],_,_,Z,Z,_,_,Z,Z,(by show(0:Int) < 26;decide),_,_,c,Z,Z,NP,hc,a _ _ ?_]];left;let b9:(#[(ε [c])]:ρ).length=1:=rfl;let h5:c=tG W i:=Es (Pz _ NP) (Pj _ NP) hc;refine gO λG a=>dX (Rw p g r n d1 d2 W I i c ss ys H 13 (·=pre ss d2++#[(ε [c])]++gQ ss d2)) (λE2 _ t=>?_) λO H1 b=>?_
  .erw[#[Z,_,Z,_,Z,_,Z,g,_,Z,aL.of L,λs1 n1=>?_]];let z1:=Jg (ys:=bK ss θ (δ d2)) λy d=>e y (zY d);let z2:=qC ss θ (δ d2);erw[#[_,s1,bK ss θ$ δ d2,Z,Z,aL.of (by rw[jc,zJ]),NP,NO,?_]];let j1:=Jh (z:="") (ys:=bK ss θ (δ d2)) NM λy d=>e y (zY d);erw[#[_,Z,_,_,Z,Z,NO,?_]];erw[#[Z,_,Z,_,Z,_,_,Z,Z,_,Z,g,_,Z,aL.of$ aq L n1,λs2 n2=>?_]];let z3:=Jg (ys:=bK ss (δ$ d2+1) θ) λy d=>e y (zY d);let z4:=qC ss (δ$ d2+1) θ;erw[#[_,s2,bK ss (δ$ d2+1) θ,Z,Z,aL.of (by rw[jc,zJ]),NP,NO,?_]];let j2:=Jh (z:="") (ys:=bK ss (δ$ d2+1) θ) NM λy d=>e y (zY d);erw[#[_,_,Z,Z,by rw[pE];omega,?_]];rwa[t _ _ #[_,#[by show(Txt.join ("":ρ) (bK ss θ$ δ d2)++(#[(ε [c])]:ρ)++Txt.join ("":ρ) (bK ss (δ$ d2+1) θ)).length<=13;rw[pE,pE];omega,Z],Z,aq (aq L n1) n2,aq (aq Y n1) n2,(B'.upd_new n1).upd_new n2,(k'.upd_new n1).upd_new n2]]
  symm;obtain⟨w1,⟨b',z1⟩,rfl,g1,r1,U,k1⟩:=b;erw[a _ _ ?_];left;sleep 3;erw[gO λG a=>dX (Rw p g r n d1 d2 W I i c ss ys H 14 (λw=>w=pre ss d2++#[(ε [c])]++gQ ss d2∨w=pre ss d2++#[(ε [c])]++gQ ss d2++"z")) (λE2 _ t=>?_) λO H2 b=>?_]
  .erw[#[_,Z,Z,_,Z,?_]];refine cw (λS=>?_) (λS=>?_)
   .erw[#[_,Z,_,_,Z,Z,(by show(0:Int) < 2;decide),Z,_,Z,?_]];refine cw (λcb=>?_) (λcb=>?_)
    .let hz:(Str.ofString "z").length=1:=by decide+kernel
     erw[#[_,Z,_,_,Z,Z,by rw[hz];omega,?_]];rwa[t _ _ #[_,#[by rw[pE,hz];omega,.inr (by rw[z1])],Z,g1,r1,U,k1]]
    .rwa[t _ _ #[w1,#[NO,.inl z1],Z,g1,r1,U,k1]]
   .rwa[nM$ t _ _ #[w1,#[NO,.inl z1],Z,g1,r1,U,k1]]
  symm;obtain⟨w2,⟨c2,z2⟩,rfl,g2,r2,B2,k2⟩:=b;erw[a _ _ ?_];left;erw[gO λG a=>dX (Rw p g r n d1 d2 W I i c ss ys H 14 (λw=>if I=2 then ∃R:ρ,w=R++#[(ε [c])] else w=pre ss d2++#[(ε [c])]++gQ ss d2∨w=pre ss d2++#[(ε [c])]++gQ ss d2++"z")) (λE2 _ t=>?_) λO H3 b=>?_]
  .erw[#[_,Z,Z,_,Z,?_]];refine cw (λS=>?_) (λS=>?_)
   .erw[#[Z,_,Z,p,8,Z,B2,NP,NP,λd6 H6 d0 d3 B6 e6=>?_]];erw[#[_,Z,NO,NO,?_]];erw[JE (p:=p) NO B6 λtt H7 c3 h3 B7 e7 g7 n7=>?_];let jt:=Jh (z:="") (ys:=tt) NM h3;let zt:=Jg h3;erw[#[_,g7,tt,Z,Z,aL.of jc,NP,NO,?_]];erw[#[_,Z,_,_,Z,Z,NO,?_]];let g8:H7 g=δ (.lst$ ss.map tT):=by rw[e7 g v,e6 g v];exact g2
    let r8:H7 r=δ (.lst$ ys.map tT):=by rw[e7 r m,e6 r m];rwa[r2]
    let e5:I=2:=by injection Pe S
    rwa[t _ _ #[_,#[by rw[pE];omega,(OB e5).mpr #[_,Z]],Z,aq g8 n7,aq r8 n7,B7.upd_new n7,(k2.trans ((aI.of_eq e6).trans$ aI.of_eq e7)).upd_new n7]]
   .let e5:I≠2:=λz=>S (by rw[z];rwa[OE Z]);rwa[t _ _ #[w2,#[N09,(OD e5).mpr z2],Z,g2,r2,B2,k2]]
  symm;obtain⟨w3,⟨c4,z3⟩,rfl,g3,r3,B3,k3⟩:=b;erw[a _ _ ?_];left;erw[gO λG a=>dX (Rw p g r n d1 d2 W I i c ss ys H 14$ Sh (pre ss d2) (gQ ss d2) I c) (λE2 _ t=>?_) λO H4 b=>?_]
  .erw[#[_,Z,NP,λt0 N=>?_]];erw[#[t0,_,Z,.inr$ aF.of jc,Z,sU NK,_,Z,?_]];refine cw (λS=>?_) (λS=>?_)
   .let hq:(Str.ofString "qqqqqqq").length=7:=by decide+kernel
    erw[#[_,Z,_,_,Z,Z,by rw[hq];omega,?_]];rwa[t _ _ #[_,#[by rw[pE,hq];omega,MJ],Z,aq g3 N,aq r3 N,B3.upd_new N,k3.upd_new N]]
   .rwa[t _ _ #[w3,#[NO,MK z3],Z,aq g3 N,aq r3 N,B3.upd_new N,k3.upd_new N]]
  symm;obtain⟨w4,⟨c5,z4⟩,rfl,g4,r4,B4,k4⟩:=b;erw[a _ _ ?_];left;erw[#[_,Z,.inl #[Z,_,aL.of r4],_,Z,r,_,_,Z,Z,r4,by rw[Oq];omega,?_]];erw[fE _ _ #[_,_,_,ys++[w4],Z,by rw[jh h4];rwa[g4],by rw[jc,OU];rfl,by rw[Ot,h0];rfl,#[λy hm=>?_,λj y hj=>?_],B4.eq$ jh$ O3 m,k4.upd_own X]]
  .symm;rcases bm.mp hm with hm |hm
   .rwa[d.1 y hm]
   .right;rw[χ.mp hm];omega
  .symm;by_cases h6:j < ο ys
   .rw[Rx h6]at hj;rwa[d.2 j y hj]
   .let lj:=(ξ.mp hj).1;rw[Ot,RP]at lj;let ej:j=ο ys:=by omega
    rw[ej,Rs$ Ou _,Tw]at hj;injection hj with hj;right;rw[<- hj,ej,h0,<- h5];rwa[z4]
 .intro σ H' b;symm;let⟨ok,oo,ow,ys,rfl,L,Y,h0,d,B',k'⟩:=b;let h1:(ys.length:Int)=n:=by omega
  let f5:=AB (ss:=ss) (d1:=d1) (d2:=d2) N09 N09 N09;let j1:(pre ss d2).length<=_:=Jh (z:="") (ys:=bK ss θ (δ d2)) NM λy d=>e y (zY d);let j2:(gQ ss d2).length<=_:=Jh (z:="") (ys:=bK ss (δ$ d2+1) θ) NM λy d=>e y (zY d);let nd:=yr NO NO d.2;let d:=d.1;erw[a _ _ ?_];left;erw[ah λF1 a=>dX (Rf p r n H) (λE2 _ t=>?_) λO H1 b=>?_]
  .left;erw[pU λG' g'=>#[_,Z,p,6,Z,B',NP,NP,λd6 H6 d0 d3 B6 e6=>#[Z,_,Z,g' _ _ ?_]]];let r6:H6 r=δ (.lst$ ys.map tT):=by rw[e6 r m];exact Y
   let k6:aI p H H6:=k'.trans (aI.of_eq e6);erw[cw (λS=>?_) (λS=>?_)]
   .sleep 2;erw[gO λE3 f3=>#[NP,λt0 N=>f3 _ _ ?_]];left;let t1:t0≠p:=B6.ne N;erw[gO λE4 f3=>#[_,Z,_,Z,p,13,Z,B6.upd_new N,NP,NP,λd7 H7 d' a0 B7 e7=>?_]];let t7:H7 t0=δ (.lst ((z36z:xL ρ).map tT)):=((e7 t0 t1).trans jc).trans (PL (λl=>δ (HO.lst l)) NM);let r7:H7 r=δ (.lst$ ys.map tT):=by rw[e7 r m];exact aq r6 N
    let k7:aI p H H7:=(k6.upd_new N).trans (aI.of_eq e7);symm;let⟨od,h7,h8⟩:=KF (ys:=(z36z:xL ρ)) d' (a0:);erw[#[t0,_,_,_,Z,Z,aL.of t7,h8,f3 _ _ ?_]];left;let h':od.length<=20:=by
     let:∀y∈(z36z:xL ρ),y.length<=20:=NM
     rwa[this od h7]
    erw[pU λG' g'=>#[_,Z,_,Z,r,_,Z,.inl$ aL.of r7,Z,Q9 _,_,Z,g' _ _ ?_]];erw[cw (λcb=>?_) (λcb=>?_)]
    .erw[#[_,Z,_,Z,_,Z,_,Z,p,n,Z,B7,NO,NO,λd8 H8 a1 c6 B8 e8=>?_]];let r8:H8 r=δ (.lst$ ys.map tT):=by rw[e8 r m];exact r7
     let k8:aI p H H8:=k7.trans (aI.of_eq e8);erw[#[r,_,d8,d8.toNat,Z,Z,r8,?_,?_]]
     .unfold oV;rw[OB a1,Oq,OB NO]
     erw[t _ _ #[Z,ys.set d8.toNat od,by rw[jc,yp],by rw[TC];rwa[h1],#[λy hm=>?_,tP nd$ Bc (by let c0:(!pV (.str od) (ys.map tT))=μ:=cb;rw[VI]at c0;rwa[c0])],B8.eq$ jh$ O3 m,k8.upd_own X]];symm;rcases List.mem_or_eq_of_mem_set hm with hm |hm
     .rwa[d y hm]
     .right;rw[hm];rwa[h']
    .rwa[t _ _ #[Z,ys,r7,h1,#[d,nd],B7,k7]]
   .rwa[t _ _ #[Z,ys,r6,h1,#[d,nd],B6,k6]]
  symm;let⟨a2,y0,r1,l1,y1,U,k1⟩:=b;erw[a _ _ ?_];left;exact#[_,a2,q r y0 H1 X r1 l1 y1 U k1]
def aj(H h:Hp):Prop:=∀b x,H b=δ (.tup x)->h b=δ (.tup x)
def aa.tm{H H':Hp}(a:aa H H'):aj H H':=λb x h=>a b _ h
def je{H:Hp}{o:HO}(n:H p=θ):aa H (af H p o):=λb u e=>aq e n
def cq{b:Bool}{A B:Prop}(h:b=μ)(x:A):if b=μ then A else B:=by rw[OB h];rwa[x]
def aV{b:Bool}{A B:Prop}(h:b=ν)(x:B):if b=μ then A else B:=by rw[h,OD OG];rwa[x]
def aN:τ=16777216:=by rw[RO]
def au.same(B:au H p)(s:aa H c):au c p:=by let⟨a,b,d,e,f,h⟩:=B.ob;exact#[a,b,d,e,f,s _ _ h]
def aI.of_same(s:aa H h):aI p H h:=λb o _ e=>s _ _ e
def aI.tm{p:ζ}{H H':Hp}(k:aI p H H')(B:au H p):aj H H':=λb x e=>by let⟨a,c,_,_,_,h⟩:=B.ob;rwa[k b _ (jM e h (by intro w;cases w)) e]
def aI.none(k:aI p H h)(B:au h p)(n:h r=θ):H r=θ:=by
 cases z:H r with
 |none=>rfl
 |some o=>have:=k _ _ (B.ne n) z;rw[n]at this;cases this
def Xa{K:β}{a:ζ}{xs:xL V}{t:TE}{Q:xL V->Hp->Prop}(u:ο xs<=τ)(Pv:Nat->xL V->Hp->Prop)(l:Pv 0 [] H)
  (n:∀i Y h,Pv i Y h->aL K h a xs/\ο Y<=i) (o:∀i x Y h,xs[i]?=δ x->Pv i Y h->t (δ x::d) h λy c=>Pv (i+1) (Y++[y]) c) (q:∀Y h,Pv xs.length Y h->Q Y h):
  eZ (y8 K a) 1 d (bH 0) nq t Q H:=by
 erw[#[λi m Y h=>m=ο xs - i/\i<=ο xs/\Pv i Y h,#[xs.length,NN,OA _,l],?_]];intro i m Y h f;let⟨rfl,z,p⟩:=f;let⟨g,A⟩:=n i Y h p;by_cases b:i < ο xs
 .erw[.inr #[#[xs,xs[i],g,On b],NO,Pv$ i+1,λr c s=>#[ο xs - (i+1),NO,Z,b,s],λv c T j y=>?_]];let⟨e,y⟩:=y;subst e;let⟨w,rfl⟩:=tF j;exact#[#[[δ _],Z,Z],o i v Y c (y xs g) p]
 .let e:i=ο xs:=by omega
  subst e;rwa[.inl #[#[xs,g,Ou _],q Y h p]]
def qN{K:β}{xs:xL V}{t:TE}{Q:xL V->Hp->Prop}(u:ο xs<=τ)(Pv:Nat->xL V->Hp->Prop)(l:Pv 0 [] H)
  (n:∀i Y h,Pv i Y h->aF K h a xs/\ο Y<=i) (o:∀i x Y h,xs[i]?=δ x->Pv i Y h->t (δ x::d) h λy c=>Pv (i+1) (Y++[y]) c) (q:∀Y h,Pv xs.length Y h->Q Y h):
  eZ (Ai K a) 1 d (bH 0) nq t Q H:=by
 erw[#[λi m Y h=>m=ο xs - i/\i<=ο xs/\Pv i Y h,#[xs.length,NN,OA _,l],?_]];intro i m Y h f;let⟨rfl,z,p⟩:=f;let⟨g,A⟩:=n i Y h p;by_cases b:i < ο xs
 .erw[.inr #[#[xs,xs[i],g,On b],NO,Pv$ i+1,λr c s=>#[ο xs - (i+1),NO,Z,b,s],λv c T j y=>?_]];let⟨e,y⟩:=y;subst e;let⟨w,rfl⟩:=tF j;exact#[#[[δ _],Z,Z],o i v Y c (y xs g) p]
 .let e:i=ο xs:=by omega
  subst e;rwa[.inl #[#[xs,g,Ou _],q Y h p]]
abbrev mN:bU:=bX 62
abbrev rK:bU:=bX 64
inductive Tm where
 |num (n:Int) |var (x:ρ) |op (i:Nat) (a b:Tm)
def Tm.depth:Tm->Nat
 | .num _ | .var _=>0
 | .op _ a b=>max a.depth b.depth+1
def mW:ρ:="+-*/<="
def yq:mW.length=6:=NM
def MH(i:Nat):ρ:=#[(ε [mW.cps.toList.getD i 0])]
def Gh(H:0<=d)(a:d < 6):eV mW.cps.toList d=δ (mW.cps.toList.getD d.toNat 0):=by
 let b:ο mW.cps.toList=6:=NM
 let h:d.toNat < ο mW.cps.toList:=NO
 let e:d=((d.toNat:Nat):Int):=NO
 let q:eV mW.cps.toList ((d.toNat:Nat):Int)=δ (mW.cps.toList.getD d.toNat 0):=jH (by rw[O4,On h];rfl);rw[<- e]at q;rwa[q]
def Tm.Good(y:xL ρ):Tm->Prop
 | .num n=>0<=n/\n < 1000000000000000000
 | .var x=>x∈y
 | .op i a b=>i < 6/\a.Good y/\b.Good y
def bJ(H:Hp):Tm->ζ->Prop
 | .num n,p=>H p=δ (.tup [.str "num",.int n])
 | .var x,p=>H p=δ (.tup [.str "var",.str x])
 | .op i a b,p=>∃q r,H p=δ (.tup [.str "op",.str (MH i),.ref q,.ref r])/\bJ H a q/\bJ H b r
theorem bJ.mono{H a:Hp}(h:∀b x,H b=δ (.tup x)->a b=δ (.tup x)):∀{t:Tm} {p:ζ},bJ H t p->bJ a t p
 | .num _,_,e | .var _,_,e=>h _ _ e
 | .op _ _ _,_,z=>by let⟨q,r,e,E,c⟩:=z;rwa[#[q,r,h _ _ e,bJ.mono h E,bJ.mono h c]]
def bJ.same(h:aa H a)(e:bJ H t p):bJ a t p:=e.mono λb x z=>h b _ z
def bJ.but(B:au H p)(k:aI p H h)(e:bJ H t a):bJ h t a:=e.mono λb X z=>by let⟨x,y,_,_,_,d⟩:=B.ob;rwa[k b _ (jM z d (by intro q;cases q)) z]
def bJ.new{H:Hp}{o:HO}(n:H r=θ)(e:bJ H t a):bJ (af H r o) t a:=e.mono λb x z=>aq z n
inductive ik(c:xL V)(H:Hp)(Q:VK)(a:XK):Prop
 |mk(p:ζ)(_:c=[.ref p])(_:au H p)(_:∀(d:Int) (H':Hp),0<=d->d < 1000000000000000000->au H' p->(∀b,b≠p->H' b=H b)->Q (.int d) H')
inductive dB(n:Nat)(b:xL V)(H:Hp)(Q:VK)(a:XK):Prop
 |mk(p g:ζ)(d:Int)(c:xL ρ)(_:b=[.ref p,.ref g,.int d])(_:au H p)(_:H g=δ (.lst (c.map tT)))(_:1<=ο c)(_:c.length<=20)(_:0<=d)(_:d < (n:Int))(_:∀(r:ζ) (T:Tm) (H':Hp),bJ H' T r->(T.depth:Int)<=d->T.Good c->au H' p->aI p H H'->Q (.ref r) H')
def qy{Y:xL ρ}(B:au H p)(h:H g=δ (.lst$ Y.map tT)):g≠p:=by
 let⟨x,y,_,_,_,b⟩:=B.ob;erw[jM h b λz=>?_];injection z with z
 match Y,z with
 |a::r,z=>injection z with c _;cases c
def yh:am z2z z2z (ae mN):=bV
def ua(F:xD K "_law_number" mN f t)(C:Cl P w K mg base 1 I u z1z bo "_law_take"):⇑2 f t z2z ik:=by
 erw[F.ok yh (λx A o s H v Q E a h=>?_)]
 let⟨p,rfl,B,q⟩:=h;erw[#[_,(jd (jy (zo$ C.e a$ ja (pv 0)$ ja jf jb) (jg$ jo$ C.e a$ ja (pv 0)$ ja (jw KB jf jf) jb) jp)$ jg$ jo$ C.e a$ ja (pv 0)$ ja jf jb),?_]];erw[#[_,Z,p,4,Z,B,NP,NP,λL M y G m r=>#[Z,_,Z,?_]]];erw[cw (λc=>?_) (λc=>?_)]
 .erw[#[_,Z,_,_,Z,Z,#[NP,NP,NP],p,_,Z,m,NP,NP,λD g d i j k=>?_]];let z:=si;rwa[q D g d NO j λb n=>(k b n).trans (r b n)]
 .erw[#[_,Z,p,9,Z,m,NP,NP,λD g d i j k=>?_]];rwa[q D g d NO j λb n=>(k b n).trans (r b n)]
def pC:am ["_law_box_here","_law_names_here","_law_deep","_law_kind","_law_one"] z12z (ae rK):=bV
def Bs(F:xD K "_law_term" rK f fd)(cF:Cl P w K mg base (n+2) f fd z12z (dB n) "_law_term")(S:Cl P w K mg base 1 fT f0 z1z bo "_law_take")(cN:Cl P w K mg base 2 fN f2 z2z ik "_law_number")(ml:mg "len"=θ):⇑(n+3) f fd z12z (dB$ n+1):=by
 erw[F.ok pC λc0 A T s H vs Q E u h=>?_]
 let⟨p,g,d,ys,rfl,B,hg,v,x,h1,h2,q⟩:=h;erw[#[_,(jd (jA 3 pC.nd$ S.e u.m$ ja (pv 0)$ ja jf jb)$ jd (j6$ jy (PW.pt$ QL (jz QN (pv 3) jf$ aD _)$ JI$ PW.pt$ qv (jz qt (pv 3) jf$ aD _)$ zN$ zo$ pv 2) (jg$ jo$ ji$ ja jm$ ja (cN.e u.m$ ja (pv 0) jb) jb) jp)$ jd (jy (jz QN (pv 3) jf$ aD _) (jg$ jo$ ji$ ja jm$ ja (jq ju (pv 1) (S.e u.m$ ja (pv 0)$ ja (jO jL Z ml Pm$ ja (pv 1) jb) jb) ∅) jb) jp)$ jd (jA 4 pC.nd$ cF.e u$ ja (pv 0)$ ja (pv 1)$ ja (jw zb (pv 2) jf) jb)$ jg$ jo$ ji$ ja jm$ ja (jq KC jm (S.e u.m$ ja (pv 0)$ ja jf jb) ∅)$ ja (pv 4)$ ja (cF.e u$ ja (pv 0)$ ja (pv 1)$ ja (jw zb (pv 2) jf) jb) jb),?_]];let b0:=zI;let j:g≠p:=qy B hg;erw[ah λF1 l=>#[_,Z,p,6,Z,B,NP,NP,λM O k0 k1 R e1=>l _ _ ?_]];let k:O g=δ (.lst$ ys.map tT):=by rw[e1 g j];rwa[hg]
 let U:aI p H O:=aI.of_eq e1;let num:∀(D:Int) (a:Hp) (r:ζ),0<=D->D < 1000000000000000000->au a p->(∀b,b≠p->a b=O b)->a r=θ->Q (.ref r) (af a r$ .tup [.str "num",.int D]):=λD a r C I i o N=>
  q r (.num D) _ jc (by show((0:Nat):Int)<=d;rwa[N09]) #[C,I] (i.upd_new N) ((U.trans$ aI.of_eq o).upd_new N)
 erw[ah λF1 l=>dX (λJ H'=>J=[↑p,↑g,δ$ .int d,δ$ .int M,θ]/\H'=O/\(M<=3∨d≠0)) (λE2 eR fm=>?_) λJ H' W=>?_]
 .erw[pU λG' G=>#[_,Z,_,_,Z,Z,_,Z,?_]];refine cw (λc=>?_) (λc=>?_)
  .erw[G _ _$ nO ?_];show iy _ E2 _ _;unfold iy;rw[eR];exact#[_,Z,p,Z,R,λD a C I i o=>#[ci,λr N=>num D a r C I i o N]]
  erw[#[_,Z,_,_,Z,Z,_,Z,?_]];erw[cw (λc2=>?_) (λc2=>?_)]
  .erw[#[_,Z,Z,_,Z,G _ _ ?_]];refine cw (λc3=>?_) (λc3=>?_)
   .show iy _ E2 _ _;unfold iy;rw[eR];exact#[_,Z,p,Z,R,λD a C I i o=>#[ci,λr N=>num D a r C I i o N]]
   .rwa[fm _ _ #[Z,Z,.inr λz=>c3 (by rw[z];rfl)]]
  .let c1:¬(3:Int) < M:=SG (mS.mpr c2);rwa[G _ _$ nM$ fm _ _ #[Z,Z,.inl NO]]
 let⟨rfl,eH,hk⟩:=W;rw[eH];erw[l _ _ ?_];erw[ah λF1 l=>pU λG' G=>#[_,Z,_,_,Z,Z,_,Z,G _ _ ?_]];erw[cw (λc=>?_) (λc=>l _ _ ?_)]
 .-- a variable
  erw[#[_,Z,_,Z,_,Z,g,_,Z,.inl$ aL.of k,p,_,Z,R,by rw[Oq];omega,by rw[Oq];omega,λD a X L i o=>?_]];rw[Oq]at L;let⟨y,hy,Y⟩:=KF (ys:=ys) X L;let t:a g=δ (.lst$ ys.map tT):=by rw[o g j];rwa[k]
  erw[#[g,_,_,_,Z,Z,aL.of t,Y,ci,λr N=>?_]];rwa[q r (.var y) _ jc (by show((0:Nat):Int)<=d;omega) hy (i.upd_new N) ((U.trans$ aI.of_eq o).upd_new N)]
 .let c':¬M < (4:Int):=SG (mS.mpr c);let hd:d≠0:=hk.resolve_left NO;erw[#[_,Z,_,Z,_,Z,_,_,Z,Z,p,g,d - 1,ys,Z,R,k,v,x,NO,NO,λr1 T1 a t1 d3 g0 i k2=>?_]];let t:a g=δ (.lst$ ys.map tT):=k2 g _ j k;erw[#[_,Z,p,6,Z,i,NP,NP,λs3 H3 s0 s1 B3 e3=>?_]];let h0:H3 g=δ (.lst$ ys.map tT):=by rw[e3 g j];exact t
  let k3:aI p a H3:=aI.of_eq e3;erw[#[mW,_,_,Z,Z,(by rw[yq];omega),Gh s0 s1,?_]];erw[#[_,Z,_,Z,_,Z,_,Z,_,_,Z,Z,p,g,d - 1,ys,Z,B3,h0,v,x,NO,NO,λr2 T2 H4 t2 d4 g1 B4 k4=>?_]];erw[#[oF,λr N=>?_]];let t0:bJ H4 T1 r1:=(t1.but i k3).but B3 k4;erw[q r (.op s3.toNat T1 T2) _ #[r1,r2,jc,t0.new N,t2.new N] ?_ #[NO,g0,g1] (B4.upd_new N) (((U.trans k2).trans$ k3.trans k4).upd_new N)];show((max T1.depth T2.depth+1:Nat):Int)<=d;omega
def A7:⇑2 f e z12z (dB 0):=by
 let n:∀v H Q E,¬dB 0 v H Q E:=λv H Q E h=>by let⟨p,g,d,y,_,_,_,_,_,i,b,_⟩:=h;let c:d < ((0:Nat):Int):=b;omega
 exact#[λv H Q E h=>absurd h (n v H Q E),λA o s H a u v Q E _ _ _ _ h=>absurd h (n v H Q E)]
theorem DE(F:xD K "_law_term" rK f a)(b:aE K a z12z [])(m:mg "_law_term"=↑f)(c:Cl P w K mg base 1 g d z1z bo "_law_take")(C:Cl P w K mg base 2 h e z2z ik "_law_number")(M:mg "len"=θ):
  ∀n:Nat,⇑(n+2) f a z12z (dB n)
 |0=>A7
 |n+1=>Bs F #[(DE F b m c C M n),b,F.kp,m] c C M
end _K
namespace _K
open PySem PySem.Spec PyProof.Rows _L
variable {P:ψ}{w:bF}{K:β}{mg:ρ->ym η}{base:de}
local macro_rules|`(‹$n›)=>do{let i:=Lean.mkIdent;`(_K.Cl $(i `P) $(i `w) $(i `K) $(i `mg) $(i `base) $n)}
def Tm.vars:Tm->xL ρ
 | .num _=>[]
 | .var x=>[x]
 | .op _ a b=>a.vars++b.vars
theorem kE:∀{t:Tm},t.Good y->∀x∈t.vars,x∈y
 | .num _,_,_,h=>nomatch h
 | .var _,g,_,h=>by rw[χ.mp h];rwa[g]
 | .op _ _ _,g,_,h=>(bm.mp h).elim (kE g.2.1 _) (kE g.2.2 _)
theorem ki:∀{l m:xL ρ},l.Nodup->(∀x∈l,x∈m)->ο l<=ο m
 | [],_,_,_=>OA _
 |x::l,m,n,h=>by rw[VZ]at n;let H:=h x ON;let q:=ki (l:=l) (m:=m.erase x) n.2 λy a=>(List.mem_erase_of_ne (λe=>n.1 (by rw[<- e];rwa[a]))).mpr (h y$ OY _ a);rw[List.length_erase_of_mem H]at q;let:0 < ο m:=List.length_pos_of_mem H;rw[O1];omega
theorem Qj:∀{l m:xL ρ},l.Nodup->m.Nodup->(∀x,x∈l↔x∈m)->l.Perm m
 | [],[],_,_,_=>.nil
 | [],y::m,_,_,h=>absurd ((h y).mpr ON) NN
 |x::l,m,n,N,h=>by
  rw[VZ]at n;let a:x∈m:=(h x).mp ON;erw[(List.Perm.cons x$ Qj n.2 (N.erase x) λy=>?_).trans (List.perm_cons_erase a).symm];rw[N.mem_erase_iff];constructor
  .intro H;exact#[λe=>n.1 (by rw[<- e];rwa[H]),(h y).mp$ OY _ H]
  .rintro ⟨b,H⟩;exact(Ξ.mp ((h y).mpr H)).resolve_left b
theorem Xc:∀{p:ρ} {l:xL ρ},risingS p l=μ->(p::l).Pairwise λa b=>a.cps.toList<=b.cps.toList
 |p,[],_=>by simp
 |p,x::r,h=>by
  let H:(!ltCps x.cps.toList p.cps.toList&&risingS x r)=μ:=h;rw[PU]at H;let i:=Xc H.2;let c:p.cps.toList<=x.cps.toList:=by let z:=H.1;rw[ltCps_eq]at z;simpa using z
  rw[rc]at i ⊢;erw[#[λy hy=>?_,rc.mpr i]];rcases Ξ.mp hy with rfl |hy
  .rwa[c]
  .rwa[List.le_trans c$ i.1 y hy]
def Xd(h:sortedS l=μ):l.Pairwise λa b=>a.cps.toList<=b.cps.toList:=by
 cases l with
 |nil=>rwa[.nil]
 |cons x r=>rwa[Xc h]
def YM{l:xL ρ}(p:l.Perm m)(h:sortedS l=μ)(H:sortedS m=μ):l=m:=by erw[List.Perm.eq_of_pairwise (λa b _ _ x y=>?_) (Xd h) (Xd H) p];let e:=List.le_antisymm x y;cases a;cases b;rwa[PL Str.mk$ Array.toList_inj.mp e]
inductive Lf where
 |rd (x:ρ) (t:ζ) (T:Tm)
 |st (x:ρ) (t:ζ) (T:Tm)
 |wr (t u:ζ) (T U:Tm)
 |cl (x f:ρ) (q:ζ) (ts:xL (ζ×Tm))
 |gv (t:ζ) (T:Tm)
def Aj(H:Hp):Lf->xL V->Prop
 | .rd x t T,v=>v=[.str "read",.str x,.ref t]/\bJ H T t
 | .st x t T,v=>v=[.str "set",.str x,.ref t]/\bJ H T t
 | .wr t u T U,v=>v=[.str "write",.ref t,.ref u]/\bJ H T t/\bJ H U u
 | .cl x f q a,v=>v=[.str "call",.str x,.str f,.ref q]/\H q=δ (.tup (a.map λc=>xm c.1))/\∀c∈a,bJ H c.2 c.1
 | .gv t T,v=>v=[.str "give",.ref t]/\bJ H T t
def Aj.mono(k:aj H a)(h:Aj H l v):Aj a l v:=by
 cases l with
 |rd x t T |st x t T |gv t T=>exact#[h.1,h.2.mono k]
 |wr t u T U=>exact#[h.1,h.2.1.mono k,h.2.2.mono k]
 |cl x f q d=>exact#[h.1,k _ _ h.2.1,λc b=>(h.2.2 c b).mono k]
inductive Bd where
 |nil
 |lf (p:ζ) (l:Lf) (r:Bd)
 |ite (p t:ζ) (T:Tm) (a b r:Bd)
 |loop (p t:ζ) (T:Tm) (a r:Bd)
def Bd.app:Bd->Bd->Bd
 | .nil,s=>s
 | .lf p l r,s=>.lf p l (r.app s)
 | .ite p t T a b r,s=>.ite p t T a b (r.app s)
 | .loop p t T a r,s=>.loop p t T a (r.app s)
def Bd.size:Bd->Nat
 | .nil=>0
 | .lf _ _ r=>r.size+1
 | .ite _ _ _ a b r=>a.size+b.size+r.size+1
 | .loop _ _ _ a r=>a.size+r.size+1
def Bd.dep:Bd->Nat
 | .nil=>0
 | .lf _ _ r=>r.dep
 | .ite _ _ _ a b r=>max (max a.dep b.dep+1) r.dep
 | .loop _ _ _ a r=>max (a.dep+1) r.dep
def dW(y:xL ρ)(T:Tm):Prop:=T.Good y/\T.depth < 6
def Lf.Ok(y:xL ρ):Lf->Prop
 | .rd x _ T | .st x _ T=>x∈y/\dW y T
 | .wr _ _ T U=>dW y T/\dW y U
 | .cl x _ _ t=>x∈y/\ο t<=6/\∀c∈t,dW y c.2
 | .gv _ T=>dW y T
def Bd.Ok(y:xL ρ):Bd->Prop
 | .nil=>True
 | .lf _ l r=>l.Ok y/\r.Ok y
 | .ite _ _ T a b r=>dW y T/\a.Ok y/\b.Ok y/\r.Ok y
 | .loop _ _ T a r=>dW y T/\a.Ok y/\r.Ok y
abbrev i7:=xL (ρ×Nat)
def Lf.Cs(F:i7):Lf->Prop
 | .cl _ f _ t=>(f,t.length)∈F
 |_=>True
def Bd.Cs(F:i7):Bd->Prop
 | .nil=>True
 | .lf _ l r=>l.Cs F/\r.Cs F
 | .ite _ _ _ a b r=>a.Cs F/\b.Cs F/\r.Cs F
 | .loop _ _ _ a r=>a.Cs F/\r.Cs F
theorem KG{F:i7}:∀{a b:Bd},a.Cs F->b.Cs F->(a.app b).Cs F
 | .nil,_,_,h=>h
 | .lf _ _ _,_,h,k=>#[h.1,KG h.2 k]
 | .ite _ _ _ _ _ _,_,h,k=>#[h.1,h.2.1,KG h.2.2 k]
 | .loop _ _ _ _ _,_,h,k=>#[h.1,KG h.2 k]
theorem kG{F:i7}(k:∀f∈F,f∈G):∀{a:Bd},a.Cs F->a.Cs G
 | .nil,_=>trivial
 | .lf _ l _,h=>#[by cases l<;>first |exact k _ h.1 |trivial,kG k h.2]
 | .ite _ _ _ _ _ _,h=>#[kG k h.1,kG k h.2.1,kG k h.2.2]
 | .loop _ _ _ _ _,h=>#[kG k h.1,kG k h.2]
def Lf.calls:Lf->i7
 | .cl _ f _ t=>[(f,t.length)]
 |_=>[]
def Bd.calls:Bd->i7
 | .nil=>[]
 | .lf _ l r=>l.calls++r.calls
 | .ite _ _ _ a b r=>a.calls++(b.calls++r.calls)
 | .loop _ _ _ a r=>a.calls++r.calls
theorem zK:∀b:Bd,b.Cs b.calls
 | .nil=>trivial
 | .lf _ l r=>#[by cases l<;>first |exact mu _ List.mem_cons_self |trivial,kG (λ_ h=>ir _ h) (zK r)]
 | .ite _ _ _ a b r=>#[kG (λ_ h=>mu _ h) (zK a),kG (λ_ h=>ir _ (mu _ h)) (zK b),kG (λ_ h=>ir _ (ir _ h)) (zK r)]
 | .loop _ _ _ a r=>#[kG (λ_ h=>mu _ h) (zK a),kG (λ_ h=>ir _ h) (zK r)]
theorem zL{F:i7}:∀{b:Bd},b.Cs F->∀f∈b.calls,f∈F
 | .nil,_,_,h=>nomatch h
 | .lf _ l r,k,f,h=>(bm.mp h).elim (λh=>by cases l<;>first | (rw[χ.mp h];rwa[k.1]) |exact nomatch h) (zL k.2 f)
 | .ite _ _ _ a b r,k,f,h=>(bm.mp h).elim (zL k.1 f) λh=>(bm.mp h).elim (zL k.2.1 f) (zL k.2.2 f)
 | .loop _ _ _ a r,k,f,h=>(bm.mp h).elim (zL k.1 f) (zL k.2 f)
theorem j7:∀(a b:Bd),(a.app b).size=a.size+b.size
 | .nil,b=>by show b.size=0+b.size;omega
 | .lf _ _ r,b=>by let:=j7 r b;show(r.app b).size+1=r.size+1+b.size;omega
 | .ite _ _ _ x y r,b=>by let:=j7 r b;show x.size+y.size+(r.app b).size+1=x.size+y.size+r.size+1+b.size;omega
 | .loop _ _ _ x r,b=>by let:=j7 r b;show x.size+(r.app b).size+1=x.size+r.size+1+b.size;omega
theorem zu:∀(a b:Bd),(a.app b).dep=max a.dep b.dep
 | .nil,b=>(Nat.zero_max b.dep).symm
 | .lf _ _ r,b=>zu r b
 | .ite _ _ _ x y r,b | .loop _ _ _ x r,b=>by show max _ (r.app b).dep=max (max _ r.dep) b.dep;rw[zu r b,Wp]
theorem KH:∀{a b:Bd},a.Ok y->b.Ok y->(a.app b).Ok y
 | .nil,_,_,h=>h
 | .lf _ _ _,_,g,h=>#[g.1,KH g.2 h]
 | .ite _ _ _ _ _ _,_,g,h=>#[g.1,g.2.1,g.2.2.1,KH g.2.2.2 h]
 | .loop _ _ _ _ _,_,g,h=>#[g.1,g.2.1,KH g.2.2 h]
inductive eIi(H:Hp)(p t:ζ)(T:Tm)(a b R:xL V->Prop)(x:xL V):Prop|mk(q Q A B y:_)(_:x= .ref p::y)(_:H p=δ (.tup [.str "if",.ref t,.ref q,.ref Q]))(_:bJ H T t)(_:H q=δ (.tup A))(_:H Q=δ (.tup B))(_:a A)(_:b B)(_:R y)
inductive eIl(H:Hp)(p t:ζ)(T:Tm)(a R:xL V->Prop)(x:xL V):Prop|mk(q A y:_)(_:x= .ref p::y)(_:H p=δ (.tup [.str "while",.ref t,.ref q]))(_:bJ H T t)(_:H q=δ (.tup A))(_:a A)(_:R y)
def eI(H:Hp):Bd->xL V->Prop
 | .nil,x=>x=[]
 | .lf p l r,x=>∃v y,x= .ref p::y/\H p=δ (.tup v)/\Aj H l v/\eI H r y
 | .ite p t T a b r,x=>eIi H p t T (eI H a) (eI H b) (eI H r) x
 | .loop p t T a r,x=>eIl H p t T (eI H a) (eI H r) x
def eI.mono(k:aj H m):∀{x:xL V},eI H a x->eI m a x:=by
 induction a with
 |nil=>exactλh=>h
 |lf p l r n=>rintro x ⟨v,y,e,c,d,f⟩;exact#[v,y,e,k _ _ c,d.mono k,n f]
 |ite p t T a b r i o I=>rintro x ⟨q,Q,A,B,y,e,c,g,d,f,j,s,u⟩;exact#[q,Q,A,B,y,e,k _ _ c,g.mono k,k _ _ d,k _ _ f,i j,o s,I u]
 |loop p t T a r i I=>rintro x ⟨q,A,y,e,c,g,d,f,j⟩;exact#[q,A,y,e,k _ _ c,g.mono k,k _ _ d,i f,I j]
def eI.app(k:eI H b y):∀{x:xL V},eI H a x->eI H (a.app b) (x++y):=by
 induction a with
 |nil=>intro x h;let e:x=[]:=h;rw[e];rwa[k]
 |lf p l r I=>rintro x ⟨v,z,e,c,d,f⟩;exact#[v,z++y,by rw[e];rfl,c,d,I f]
 |ite p t T a b r _ _ i=>rintro x ⟨q,Q,A,B,z,e,c,g,d,f,j,m,n⟩;exact#[q,Q,A,B,z++y,by rw[e];rfl,c,g,d,f,j,m,i n]
 |loop p t T a r _ i=>rintro x ⟨q,A,z,e,c,g,d,f,j⟩;exact#[q,A,z++y,by rw[e];rfl,c,g,d,f,i j]
def eI.len{a:Bd}:∀{xs:xL V},eI H a xs->ο xs<=a.size:=by
 induction a with
 |nil=>intro xs h;let e:xs=[]:=h;rw[e];rwa[Ou 0]
 |lf p l r I=>rintro xs ⟨v,y,e,d,f,c⟩;rw[e];rwa[Rj (I c)]
 |ite p t T a b r _ _ i=>rintro xs ⟨q,Q,A,B,y,e,d,j,f,c,g,m,k⟩;rw[e];rwa[Rj (OK (i k) (V6 _ _))]
 |loop p t T a r _ i=>rintro xs ⟨q,A,y,e,d,j,f,c,g⟩;rw[e];rwa[Rj (OK (i g) (V6 _ _))]
inductive iV(H:Hp):V->Bd->Prop
 |lf (p:ζ) (l:Lf) (vs:xL V) (h1:H p=δ (.tup vs)) (h2:Aj H l vs):iV H (.ref p) (.lf p l .nil)
 |ite (p t:ζ) (T:Tm) (a b:Bd) (qa qb:ζ) (as bs:xL V) (h1:H p=δ (.tup [.str "if",.ref t,.ref qa,.ref qb])) (h0:bJ H T t) (h2:H qa=δ (.tup as)) (h3:H qb=δ (.tup bs)) (h4:eI H a as) (h5:eI H b bs):iV H (.ref p) (.ite p t T a b .nil)
 |loop (p t:ζ) (T:Tm) (a:Bd) (qa:ζ) (as:xL V) (h1:H p=δ (.tup [.str "while",.ref t,.ref qa])) (h0:bJ H T t) (h2:H qa=δ (.tup as)) (h3:eI H a as):iV H (.ref p) (.loop p t T a .nil)
def iV.bd(h:iV H v s):eI H s [v]:=by
 cases h with
 |lf p l V c d=>exact#[V,[],Z,c,d,Z]
 |ite p t T a b q Q A B c e d f g i=>exact#[q,Q,A,B,[],Z,c,e,d,f,g,i,Z]
 |loop p t T a q A c e d f=>exact#[q,A,[],Z,c,e,d,f,Z]
def iV.mono(k:aj H g)(h:iV H v s):iV g v s:=by
 cases h with
 |lf p l V c d=>rwa[.lf p l V (k _ _ c) (d.mono k)]
 |ite p t T a b q Q A B c e d f i j=>rwa[.ite p t T a b q Q A B (k _ _ c) (e.mono k) (k _ _ d) (k _ _ f) (i.mono k) (j.mono k)]
 |loop p t T a q A c e d f=>rwa[.loop p t T a q A (k _ _ c) (e.mono k) (k _ _ d) (f.mono k)]
def eI.last:∀{x:xL V},eI H a x->x=[]/\a= .nil∨∃z v b s,x=z++[v]/\a=b.app s/\eI H b z/\iV H v s:=by
 induction a with
 |nil=>exactλh=>.inl #[h,Z]
 |lf p l r i=>
  rintro x ⟨u,y,e,f,g,n⟩;rcases i n with ⟨E,d⟩ | ⟨z,v,b,s,E,d,j,k⟩
  .rwa[.inr #[[],.ref p,.nil,.lf p l .nil,by rw[e,E];rfl,by rw[d];rfl,Z,.lf p l u f g]]
  .rwa[.inr #[.ref p::z,v,.lf p l b,s,by rw[e,E];rfl,by rw[d];rfl,#[u,z,Z,f,g,j],k]]
 |ite p t T a b r _ _ i=>
  rintro x ⟨q,Q,A,B,y,e,f,m,g,n,G,C,o⟩;rcases i o with ⟨E,d⟩ | ⟨z,v,c,s,E,d,j,k⟩
  .rwa[.inr #[[],.ref p,.nil,.ite p t T a b .nil,by rw[e,E];rfl,by rw[d];rfl,Z,.ite p t T a b q Q A B f m g n G C]]
  .rwa[.inr #[.ref p::z,v,.ite p t T a b c,s,by rw[e,E];rfl,by rw[d];rfl,#[q,Q,A,B,z,Z,f,m,g,n,G,C,j],k]]
 |loop p t T a r _ i=>
  rintro x ⟨q,A,y,e,f,m,g,G,o⟩;rcases i o with ⟨E,d⟩ | ⟨z,v,c,s,E,d,j,k⟩
  .rwa[.inr #[[],.ref p,.nil,.loop p t T a .nil,by rw[e,E];rfl,by rw[d];rfl,Z,.loop p t T a q A f m g G]]
  .rwa[.inr #[.ref p::z,v,.loop p t T a c,s,by rw[e,E];rfl,by rw[d];rfl,#[q,A,z,Z,f,m,g,G,j],k]]
theorem zU:∀{a b:Bd},(a.app b).Ok y->a.Ok y/\b.Ok y
 | .nil,_,h=>#[trivial,h]
 | .lf _ _ _,_,h=>#[#[h.1,(zU h.2).1],(zU h.2).2]
 | .ite _ _ _ _ _ _,_,h=>#[#[h.1,h.2.1,h.2.2.1,(zU h.2.2.2).1],(zU h.2.2.2).2]
 | .loop _ _ _ _ _,_,h=>#[#[h.1,h.2.1,(zU h.2.2).1],(zU h.2.2).2]
structure Nm(ss:xL ρ)(M:ρ->Prop):Prop where
 nd:ss.Nodup
 so:sortedS ss=μ
 mem:∀x,x∈ss↔M x
def Nm.uniq(h:Nm a M)(g:Nm s M):a=s:=YM (Qj h.nd g.nd λx=>(h.mem x).trans (g.mem x).symm) h.so g.so
open Classical in
def canon(M:ρ->Prop):xL ρ:=if h:∃s,Nm s M then Classical.choose h else []
def Nm.canon(h:Nm s M):s=canon M:=by let e:∃s,Nm s M:=#[s,h];unfold _K.canon;rw[dif_pos e];rwa[h.uniq$ Classical.choose_spec e]
def Nm.len{s y:xL ρ}{M:ρ->Prop}(h:Nm s M)(H:∀x,M x->x∈y):ο s<=ο y:=ki h.nd λx a=>H x ((h.mem x).mp a)
def Lf.use(M:ρ->Prop):Lf->ρ->Prop
 | .rd x _ T,y | .st x _ T,y=>(M y/\y≠x)∨y∈T.vars
 | .wr _ _ T U,y=>M y∨y∈T.vars∨y∈U.vars
 | .cl x _ _ t,y=>(M y/\y≠x)∨∃c∈t,y∈c.2.vars
 | .gv _ T,y=>y∈T.vars
def Bd.use:Bd->(ρ->Prop)->ρ->Prop
 | .nil,M=>M
 | .lf _ l r,M=>l.use (r.use M)
 | .ite _ _ T a b r,M=>λy=>(a.use (r.use M) y∨b.use (r.use M) y)∨y∈T.vars
 | .loop _ _ T a r,M=>λy=>(a.use (λ_=>False) y∨r.use M y)∨y∈T.vars
theorem Ki:∀(a b:Bd) (M:ρ->Prop),(a.app b).use M=a.use (b.use M)
 | .nil,_,_=>rfl
 | .lf _ l r,b,M=>by show l.use ((r.app b).use M)=l.use (r.use (b.use M));rw[Ki r b M]
 | .ite _ _ T x y r,b,M=>by show(λz=>(x.use ((r.app b).use M) z∨y.use ((r.app b).use M) z)∨z∈T.vars)=λz=>(x.use (r.use (b.use M)) z∨y.use (r.use (b.use M)) z)∨z∈T.vars;rw[Ki r b M]
 | .loop _ _ T x r,b,M=>by show(λz=>(x.use (λ_=>False) z∨(r.app b).use M z)∨z∈T.vars)=λz=>(x.use (λ_=>False) z∨r.use (b.use M) z)∨z∈T.vars;rw[Ki r b M]
def Lf.use_in{M:ρ->Prop}{l:Lf}(h:l.Ok Y)(a:∀x,M x->x∈Y):∀y,l.use M y->y∈Y:=by
 intro y H;cases l with
 |rd x t T |st x t T=>rwa[H.elim (λz=>a y z.1) (kE h.2.1 y)]
 |wr t u T U=>rwa[H.elim (a y) λz=>z.elim (kE h.1.1 y) (kE h.2.1 y)]
 |cl x f q d=>rwa[H.elim (λz=>a y z.1) λ#[c,b,z]=>kE (h.2.2 c b).1 y z]
 |gv t T=>rwa[kE h.1 y H]
theorem Bd.use_in:∀{b:Bd} {M:ρ->Prop},b.Ok Y->(∀x,M x->x∈Y)->∀y,b.use M y->y∈Y
 | .nil,_,_,H,y,c=>H y c
 | .lf _ l r,_,h,H,y,c=>Lf.use_in h.1 (Bd.use_in h.2 H) y c
 | .ite _ _ T a b r,_,h,H,y,c=>c.elim (λz=>z.elim (Bd.use_in h.2.1 (Bd.use_in h.2.2.2 H) y) (Bd.use_in h.2.2.1 (Bd.use_in h.2.2.2 H) y)) (kE h.1.1 y)
 | .loop _ _ T a r,_,h,H,y,c=>c.elim (λz=>z.elim (Bd.use_in h.2.1 (λ_ w=>w.elim) y) (Bd.use_in h.2.2 H y)) (kE h.1.1 y)
abbrev gj:bU:=bX 14
abbrev FV:bU:=bX 44
abbrev xY:bU:=bX 45
abbrev BY:bU:=bX 46
abbrev BX:bU:=bX 47
inductive dR(n:Nat)(c:xL V)(H:Hp)(Q:VK)(b:XK):Prop
 |mk(a:ζ)(T:Tm)(d:xL ρ)(_:c=[.ref a])(_:bJ H T a)(_:T.depth < n)(_:T.Good d)(_:ο d<=21)(_:∀(r:ζ) (ss:xL ρ) (H':Hp),H r=θ->H' r=δ (.lst (ss.map tT))->ss.Nodup->(∀x,x∈ss↔x∈T.vars)->sortedS ss=μ->aa H H'->Q (.ref r) H')
def yg:am z0z z0z (ae gj):=bV
def Bn{f:ζ}{o:cc}(F:xD K "names_in" gj f o){n:Nat}(C:‹n+1› f o z0z (dR n) "names_in")(M:mg "set"=θ)(p:mg "sorted"=θ):⇑(n+2) f o z0z (dR$ n+1):=by
 erw[F.ok yg (λc0 A O s H vs Q E v h=>?_)]
 let⟨a,T,Y,rfl,t,dp,g,j,q⟩:=h;erw[#[_,(jd (jy (jZ$ jv$ pv 0) (jg$ jo$ jF jb) jp)$ jd (jy (jZ$ jv$ pv 0) (jg$ jo$ jF$ ja (jv$ pv 0) jb) jp)$ jg$ jo$ jO (qm Z) Z p SO$ ja (jI (Ja Z) Z M boot_set$ ja (jw zT (C.e v$ ja (jv$ pv 0) jb)$ C.e v$ ja (jv$ pv 0) jb) jb) jb),?_]];cases T with
 |num m=>have b:H a=δ (.tup [.str "num",.int m]):=t;erw[(jr b Z #[Z,_,Z,cq NM ?_])];exact#[NP,λr N=>q r [] _ N jc TW (λx=>UF) Z (je N)]
 |var x=>have b:H a=δ (.tup [.str "var",.str x]):=t;erw[(jr b Z #[Z,_,Z,aV NM ?_])];erw[(jr b Z #[Z,_,Z,cq NM ?_])];exact(jr b Z #[iT,λr N=>q r [x] _ N jc NN (λy=>UF) Z (je N)])
 |op i B D=>let⟨p1,p2,b,h1,h2⟩:=t;let d0:max B.depth D.depth+1 < n+1:=dp;erw[(jr b Z #[Z,_,Z,aV NM ?_])];erw[(jr b Z #[Z,_,Z,aV NM ?_])];erw[(jr b Z #[p1,B,Y,Z,h1,NO,g.2.1,j,λr1 S H1 n1 e1 d1 G o1 u=>?_])];erw[(jr (u _ _ b) Z #[p2,D,Y,Z,h2.same u,NO,g.2.2,j,λr2 k H2 n2 e2 d2 I o2 J=>?_])];let l1:ο S<=21:=OK (ki d1 λx d=>kE g.2.1 x ((G x).mp d)) j;let l2:ο k<=21:=OK (ki d2 λx d=>kE g.2.2 x ((I x).mp d)) j;let b0:=zI;erw[#[r1,r2,_,_,Z,Z,J _ _ e1,e2,(by rw[Oq,Oq];omega),λc nc=>?_]];erw[#[c,S++k,Z,aL.of (by rw[jc,OU]),(λL nd hs=>PR (Rj$ ki nd hs) (by rw[Ot];show ο S+ο k+1 < 4096;omega)),λl L nl dL R=>?_]];let lL:=ki dL λx d=>(R x).mp d;rw[Ot]at lL;erw[#[l,L,Z,jc,NO,λz ss U W dz oz=>?_]];let X:aa H (af (af H2 c$ .lst$ S.map tT++k.map tT) l$ LJ P w l L):=(u.trans J).trans ((je nc).trans$ je nl);erw[q z ss _ (X.free U) jc (W.nodup_iff.mpr dz) (λx=>?_) oz$ X.trans$ je U];rw[W.mem_iff,R x,Sd,G x,I x];rwa[bm.symm]
def A6:⇑1 f d z0z (dR 0):=by
 let n:∀v H Q E,¬dR 0 v H Q E:=λv H Q E h=>by let⟨a,T,y,_,_,c,_⟩:=h;rwa[absurd c$ SJ _]
 exact#[λv H Q E h=>absurd h (n v H Q E),λA o s H b u v Q E _ _ _ _ h=>absurd h (n v H Q E)]
theorem Dm(F:xD K "names_in" gj f a)(b:aE K a z0z [])(c:mg "names_in"=↑f)(m:mg "set"=θ)(M:mg "sorted"=θ):
  ∀n:Nat,⇑(n+1) f a z0z (dR n)
 |0=>A6
 |n+1=>Bn F #[(Dm F b c m M n),b,F.kp,c] m M
def Lf.own:Lf->xL (ζ×Tm)
 | .rd _ t T | .st _ t T=>[(t,T)]
 | .wr t u T U=>[(t,T),(u,U)]
 | .cl _ _ _ a=>a
 | .gv t T=>[(t,T)]
def Bd.own:Bd->xL (ζ×Tm)
 | .nil=>[]
 | .lf _ l _=>l.own
 | .ite _ t T _ _ _ | .loop _ t T _ _=>[(t,T)]
def rT(c:ζ×Tm):V:=.ref c.1
inductive oh(b:xL V)(H:Hp)(Q:VK)(a:XK):Prop
 |mk(v:V)(s:Bd)(_:b=[v])(_:iV H v s)(_:∀(r:ζ) (H':Hp),H' r=δ (.tup (s.own.map rT))->aa H H'->Q (.ref r) H')
def Z6:aT (a::b::r) (δ 1) (δ 2)=[b]:=by
 unfold aT;let e:(1:Int)=((1:Nat):Int):=rfl;let E:(2:Int)=((2:Nat):Int):=rfl;rw[E,e,HT.sIx_nat,HT.sIx_nat,O1,O1];let c:min 1 (ο r+1+1)=1:=NO
 let d:min 2 (ο r+1+1) - 1=1:=NO
 rw[c,d];rfl
def Du:am ["statement","word"] z4z (ae FV):=bV
def EZ{f:ζ}{j:cc}(F:xD K "own_terms" FV f j):⇑1 f j z4z oh:=by
 erw[F.ok Du λC A o s H V Q E d h=>?_]
 let⟨v,st,rfl,m,q⟩:=h;erw[#[_,(jd (jA 1 Du.nd$ jv$ pv 0)$ jd (jy (jz zC (pv 1) (ji$ ja jm$ ja jm jb) Z) (jg$ jo$ jJ kc (pv 0) (jG jf) jT) jp)$ jd (jy (jZ$ pv 1) (jg$ jo$ jJ kc (pv 0) (jG jf) jT) jp)$ jd (jy (jZ$ pv 1) (jg$ jo$ jv$ pv 0) jp)$ jg$ jo$ jJ kc (pv 0) (jG jf)$ jG jf),?_]];cases m with
 |lf p l V c g=>
  cases l with
  |rd x t T |st x t T=>let⟨rfl,i⟩:=g;erw[(jr c Z #[_,Z,ci,λl n=>#[l,_,Z,.inr$ aF.of jc,Z,Z,_,Z,cq NM ?_]])];exact#[_,Z,_,Z,p,_,Z,aq c n,λr e d s=>q r e d ((je n).trans s)]
  |wr t u T U=>let⟨rfl,i,L⟩:=g;erw[(jr c Z #[_,Z,ci,λl n=>#[l,_,Z,.inr$ aF.of jc,Z,Z,_,Z,aV NM ?_]])];erw[#[_,Z,Z,_,Z,cq NM ?_]];exact#[_,Z,_,Z,p,_,Z,aq c n,λr e d s=>q r e d ((je n).trans s)]
  |cl x M y N=>let⟨rfl,z,i⟩:=g;erw[(jr c Z #[_,Z,ci,λl n=>#[l,_,Z,.inr$ aF.of jc,Z,Z,_,Z,aV NM ?_]])];erw[#[_,Z,Z,_,Z,aV NM ?_]];erw[#[_,Z,Z,_,Z,cq NM ?_]];exact(jr (aq c n) Z$ q y _ (aq z n)$ je n)
  |gv t T=>let⟨rfl,i⟩:=g;erw[(jr c Z #[_,Z,ci,λl n=>#[l,_,Z,.inr$ aF.of jc,Z,Z,_,Z,aV NM ?_]])];erw[#[_,Z,Z,_,Z,aV NM ?_]];erw[#[_,Z,Z,_,Z,aV NM ?_]];exact#[_,Z,_,Z,_,Z,p,_,Z,aq c n,λr e d s=>q r e (by rw[Z6]at d;rwa[d]) ((je n).trans s)]
 |ite p t T a b B O D R c G g I S W |loop p t T a B D c G g I=>erw[(jr c Z #[_,Z,ci,λl n=>#[l,_,Z,.inr$ aF.of jc,Z,Z,_,Z,aV NM ?_]])];erw[#[_,Z,Z,_,Z,aV NM ?_]];erw[#[_,Z,Z,_,Z,aV NM ?_]];exact#[_,Z,_,Z,_,Z,p,_,Z,aq c n,λr e d s=>q r e (by rw[Z6]at d;rwa[d]) ((je n).trans s)]
def Qk{K:β}{a:ζ}{Y:xL ρ}{t:TT}{T:TE}{q:xL V->Hp->Prop}{b:_L.St}{H:Hp}(f:ρ->Bool)(L:ο Y<=1000)(A:H a=δ (.lst$ Y.map tT))
  (B:∀y g (Q:Bool->Hp->Prop),y∈Y->aa H g->(∀j,aa g j->Q (f y) j)->t (δ (.str y)::b) g Q)
  (C:∀y g (Q:VK),y∈Y->Q (.str y) g->T (δ (.str y)::b) g Q) (D:∀c,aa H c->q ((Y.filter f).map tT) c):eZ (y8 K a) 1 b (bH 0) t T q H:=by
 let F:=zI;erw[#[λi m n c=>m=ο Y - i/\i<=ο Y/\n=((Y.take i).filter f).map tT/\aa H c,#[Y.length,NN,OA _,NN,aa.refl H],?_]];rintro i m n c ⟨rfl,M,rfl,k⟩;let d:aL K c a (Y.map tT):=aL.of (k _ _ A);by_cases h:i < ο Y
 .let o:(Y.map tT)[i]?=δ (.str Y[i]):=by rw[OL,On h];rfl
  erw[.inr #[#[_,_,d,o],?_,λz j=>z=((Y.take$ i+1).filter f).map tT/\aa H j,λz j #[G,I]=>#[ο Y - (i+1),NO,Z,h,G,I],λv j N l y=>?_]]
  .rw[Oq];let:=TQ f (Y.take i);rw[OZ]at this;omega
  let⟨e,y⟩:=y;subst e;let p:=y _ d;rw[o]at p;cases p;let⟨w,rfl⟩:=tF l;let r:Y[i]∈Y:=RW h;let s:Y.take (i+1)=Y.take i++[Y[i]]:=by rw[PQ,On h];rfl
  erw[#[#[[δ _],Z,Z],B Y[i] _ _ r k λJ u=>?_]];cases x:f Y[i] with
  |true=>
   erw[cq Z$ C Y[i] J _ r #[?_,k.trans u]];rw[s,SU,OU];let E:[Y[i]].filter f=[Y[i]]:=by simp [x]
   rw[E];rfl
  |false=>
   erw[aV Z #[?_,k.trans u]];rw[s,SU,OU];let E:[Y[i]].filter f=[]:=by simp [x]
   rw[E];simp
 .let e:i=ο Y:=by omega
  subst e;erw[.inl #[#[_,d,NN],?_]];rw[Rp$ Ou _];rwa[D c k]
def Lf.bt(M:ρ->Prop):Lf->ρ->Prop
 | .rd x _ _,y | .st x _ _,y=>M y/\y≠x
 | .wr _ _ _ _,y=>M y
 | .cl x _ _ _,y=>M y/\y≠x
 | .gv _ _,_=>False
def Bd.bt(M:ρ->Prop):Bd->ρ->Prop
 | .nil,y=>M y
 | .lf _ l _,y=>l.bt M y
 | .ite _ _ _ a b _,y=>a.use M y∨b.use M y
 | .loop _ _ _ a _,y=>a.use (λ_=>False) y∨M y
def yR(h:iV H v s)(M:ρ->Prop)(y:ρ):s.use M y↔s.bt M y∨∃c∈s.own,y∈c.2.vars:=by
 cases h with
 |lf p l V _ _=>
  cases l with
  |rd x t T |st x t T=>exact#[λz=>z.elim .inl λw=>.inr #[_,χ.mpr Z,w],λz=>z.elim .inl λ#[c,hc,w]=>.inr (by rw[χ.mp hc]at w;rwa[w])]
  |wr t u T U=>
   erw[#[λz=>z.elim .inl λw=>.inr (w.elim (λw=>#[_,ON ..,w]) λw=>#[_,OY _$ χ.mpr Z,w]),λz=>z.elim .inl λ#[c,hc,w]=>.inr ?_]];rcases Ξ.mp hc with e |hc
   .rw[e]at w;rwa[.inl w]
   .rw[χ.mp hc]at w;rwa[.inr w]
  |cl x f q d=>rwa[UF]
  |gv t T=>exact#[λw=>.inr #[_,χ.mpr Z,w],λz=>z.elim False.elim λ#[c,hc,w]=>by rw[χ.mp hc]at w;rwa[w]]
 |ite p t T a b Q g A B _ _ _ _ _ _ |loop p t T a Q A _ _ _ _=>exact#[λz=>z.elim .inl λw=>.inr #[_,χ.mpr Z,w],λz=>z.elim .inl λ#[c,hc,w]=>.inr (by rw[χ.mp hc]at w;rwa[w])]
structure NL(H:Hp)(g:ζ)(ss:xL ρ)(M:ρ->Prop)(ys:xL ρ):Prop where
 at':H g=δ (.lst$ ss.map tT)
 nm:Nm ss M
 sub:∀x,M x->x∈ys
 y20:ο ys<=21
def NL.len{H:Hp}{g:ζ}{s:xL ρ}{M:ρ->Prop}{y:xL ρ}(h:NL H g s M y):ο s<=21:=OK (h.nm.len h.sub) h.y20
def NL.same(h:NL H g a M y)(s:aa H b):NL b g a M y:=#[s _ _ h.at',h.nm,h.sub,h.y20]
structure NU(H:Hp)(g:ζ)(ss:xL ρ)(M:ρ->Prop)(ys:xL ρ):Prop where
 at':H g=δ (.lst$ ss.map tT)
 nd:ss.Nodup
 mem:∀x,x∈ss↔M x
 sub:∀x,M x->x∈ys
 y20:ο ys<=21
def NL.nu(h:NL H g s M y):NU H g s M y:=#[h.at',h.nm.nd,h.nm.mem,h.sub,h.y20]
inductive yv(n:Nat)(c:xL V)(H:Hp)(Q:VK)(a:XK):Prop
 |mk(v:V)(g:ζ)(s:Bd)(b:xL ρ)(M:ρ->Prop)(d:xL ρ)(_:c=[v,.ref g])(_:iV H v s)(_:NL H g b M d)(_:s.Ok d)(_:s.dep < n+1)(_:s.size<=10000000)(_:∀(r:ζ) (zs:xL ρ) (H':Hp),H' r=δ (.lst (zs.map tT))->(∀y,y∈zs↔s.bt M y)->ο zs<=50->aa H H'->Q (.ref r) H')
inductive ip(n:Nat)(c:xL V)(H:Hp)(Q:VK)(a:XK):Prop
 |mk(v:V)(g:ζ)(s:Bd)(b:xL ρ)(M:ρ->Prop)(d:xL ρ)(_:c=[v,.ref g])(_:iV H v s)(_:NL H g b M d)(_:s.Ok d)(_:s.dep < n+1)(_:s.size<=10000000)(_:∀(r:ζ) (zs:xL ρ) (H':Hp),H r=θ->NL H' r zs (s.use M) d->aa H H'->Q (.ref r) H')
inductive lO(n:Nat)(e:xL V)(H:Hp)(Q:VK)(c:XK):Prop
 |mk(a g:ζ)(b:Bd)(f:xL V)(d:xL ρ)(M:ρ->Prop)(h:xL ρ)(_:e=[.ref a,.ref g])(_:H a=δ (.tup f))(_:eI H b f)(_:NU H g d M h)(_:b.Ok h)(_:b.dep < n)(_:b.size<=10000000)(_:∀(r:ζ) (zs:xL ρ) (H':Hp),H r=θ->NL H' r zs (b.use M) h->aa H H'->Q (.ref r) H')
def Nm.empty:Nm [] (λ_=>False):=#[TW,Z,λx=>#[λh=>absurd h O5,False.elim]]
def Dw:am ["statement","behind","word"] z3z (ae xY):=bV
def yo:ic:=#[.function,[(".0",.local),("name",.local),("statement",.free)],ν,ν,[]]
def Io:(["name","statement"]:xL ρ).Nodup:=NM
def HJ:bn ["statement","behind","word"] (ae xY) yo ["name","statement"] 1 [0]:=oQ
def wU{L n:Nat}(F:xD K "used_behind_terms" xY f fd)(J:‹L› fA f0 z18z (lO n) "used_ahead"):⇑(L+1) f fd z3z (yv n):=by
 erw[F.ok Dw λc0 A O s H vs Q E R h=>?_]
 let⟨v,g,st,G,M,Y,rfl,hs,c,W,hd,hz,q⟩:=h;erw[#[_,(jd (jA 2 Dw.nd$ jv$ pv 0)$ jd (jy (jz zC (pv 2) (ji$ ja jm$ ja jm$ ja jm jb) Z) (jg$ jo$ @zk _ _ _ _ _ _ _ (["name","statement"]) (1) ([0]) _ _ _ _ Z (zr$ pv 1) HJ (λ_ _ _ _ _=>(jx (i:=0) Io Z$ ω Z)) (λ_ _ _ _ _=>(@KD _ _ _$ jz QM (pv 0) (jq (r:=db K) jE (pv 1) jf ∅)$ aD _)) (λ_ _ _ _ _=>(pv 0)) Cv) jp)$ jd (jy (jZ$ pv 2) (jg$ jo$ jw zT (J.e R.m$ ja (jv$ pv 0)$ ja (pv 1) jb)$ J.e R.m$ ja (jv$ pv 0)$ ja (pv 1) jb) jp)$ jd (jy (jZ$ pv 2) (jg$ jo$ jw zT (J.e R.m$ ja (jv$ pv 0)$ ja (jF jb) jb)$ pv 1) jp)$ jd (jy (jZ$ pv 2) (jg$ jo$ jF jb) jp)$ jg$ jo$ pv 1),?_]];let g0:=c.len;cases hs with
 |lf p l vs d B=>
  cases l with
  |rd x t T |st x t T=>
   let⟨rfl,X⟩:=B;erw[(jr d Z #[_,Z,gU,λl N=>#[l,_,Z,.inr$ aF.of jc,Z,Z,_,Z,cq NM ?_]])];let S:aa H (af H l$ .tup [.str "set",.str "read",.str "call"]):=je N;erw[#[_,Z,g,Z,#[_,aL.of$ S _ _ c.at'],Qk (λy=>!decide (tT y=tT x)) NO (S _ _ c.at') (λy I Q' hy k C=>?_) (λy I Q' hy C=>#[_,Z,C]) λH' k r j=>?_]]
   .exact#[_,Z,jr (k _ _$ S _ _ d) Z #[Z,_,Z,C _$ aa.refl _]]
   .erw[q r _ _ jc (λy=>?_) (OK (TQ ..) NO) ((S.trans k).trans$ je j)];rw[V0,c.nm.mem y];exact and_congr_right λ_=>by simp
  |wr t u T U=>let⟨rfl,X,hU⟩:=B;erw[(jr d Z #[_,Z,gU,λl N=>#[l,_,Z,.inr$ aF.of jc,Z,Z,_,Z,aV NM ?_]])];erw[#[_,Z,Z,_,Z,aV NM ?_]];erw[#[_,Z,Z,_,Z,aV NM ?_]];erw[#[_,Z,Z,_,Z,aV NM ?_]];exact#[_,Z,q g G _ (aq c.at' N) c.nm.mem NO$ je N]
  |cl x f' q' ts=>
   let⟨rfl,h8,X⟩:=B;erw[(jr d Z #[_,Z,gU,λl N=>#[l,_,Z,.inr$ aF.of jc,Z,Z,_,Z,cq NM ?_]])];let S:aa H (af H l$ .tup [.str "set",.str "read",.str "call"]):=je N;erw[#[_,Z,g,Z,#[_,aL.of$ S _ _ c.at'],Qk (λy=>!decide (tT y=tT x)) NO (S _ _ c.at') (λy I Q' hy k C=>?_) (λy I Q' hy C=>#[_,Z,C]) λH' k r j=>?_]]
   .exact#[_,Z,jr (k _ _$ S _ _ d) Z #[Z,_,Z,C _$ aa.refl _]]
   .erw[q r _ _ jc (λy=>?_) (OK (TQ ..) NO) ((S.trans k).trans$ je j)];rw[V0,c.nm.mem y];exact and_congr_right λ_=>by simp
  |gv t T=>let⟨rfl,X⟩:=B;erw[(jr d Z #[_,Z,gU,λl N=>#[l,_,Z,.inr$ aF.of jc,Z,Z,_,Z,aV NM ?_]])];erw[#[_,Z,Z,_,Z,aV NM ?_]];erw[#[_,Z,Z,_,Z,aV NM ?_]];erw[#[_,Z,Z,_,Z,cq NM ?_]];exact#[gR,λr j=>q r [] _ jc (λy=>#[λh=>absurd h O5,λh=>(show False from h).elim]) (OA _) ((je N).trans$ je j)]
 |ite p t T a b qa qb as bs d h0 B h3 h4 h5=>erw[(jr d Z #[_,Z,gU,λl N=>#[l,_,Z,.inr$ aF.of jc,Z,Z,_,Z,aV NM ?_]])];erw[#[_,Z,Z,_,Z,cq NM ?_]];let S:aa H (af H l$ .tup [.str "set",.str "read",.str "call"]):=je N;let h6:max (max a.dep b.dep+1) 0 < n+1:=hd;let h7:a.size+b.size+0+1<=10000000:=hz;erw[(jr (S _ _ d) Z #[_,Z,qa,g,a,as,G,M,Y,Z,S _ _ B,h4.mono$ aa.tm S,(c.same S).nu,W.2.1,NO,NO,λr1 z1 I _ D k1=>?_])];let z:=S.trans k1;erw[(jr (z _ _ d) Z #[_,Z,qb,g,b,bs,G,M,Y,Z,z _ _ h3,h5.mono$ aa.tm z,(c.same z).nu,W.2.2.1,NO,NO,λr2 z2 H2 _ n2 k2=>?_])];let l1:=D.len;let l2:=n2.len;let b0:=zI;erw[#[r1,r2,_,_,Z,Z,k2 _ _ D.at',n2.at',by rw[Oq,Oq];omega,λr j=>q r (z1++z2) _ (by rw[jc,OU]) (λy=>?_) (by rw[Ot];omega) ((z.trans k2).trans$ je j)]];rw[Sd,D.nm.mem y,n2.nm.mem y];rwa[UF]
 |loop p t T a qa as d h0 B h3=>erw[(jr d Z #[_,Z,gU,λl N=>#[l,_,Z,.inr$ aF.of jc,Z,Z,_,Z,aV NM ?_]])];erw[#[_,Z,Z,_,Z,aV NM ?_]];erw[#[_,Z,Z,_,Z,cq NM ?_]];let S:aa H (af H l$ .tup [.str "set",.str "read",.str "call"]):=je N;let h6:max (a.dep+1) 0 < n+1:=hd;let h7:a.size+0+1<=10000000:=hz;erw[(jr (S _ _ d) Z #[gR,λe ne=>?_])];let z:=S.trans (je (o:=.lst []) ne);erw[#[qa,e,a,as,[],λ_=>False,Y,Z,z _ _ B,h3.mono$ aa.tm z,(NL.nu #[jc,Nm.empty,λ_ w=>w.elim,c.y20]),W.2.1,NO,NO,λr1 z1 I _ D k1=>?_]];let l1:=D.len;let s3:=z.trans k1;let b0:=zI;erw[#[_,Z,r1,g,_,_,Z,Z,D.at',s3 _ _ c.at',by rw[Oq,Oq];omega,λr j=>q r (z1++G) _ (by rw[jc,OU]) (λy=>?_) (by rw[Ot];omega) (s3.trans$ je j)]];rw[Sd,D.nm.mem y,c.nm.mem y];rwa[UF]
def Fo(h:iV H v s):∀c∈s.own,bJ H c.2 c.1:=by
 cases h with
 |lf p l V _ d=>
  cases l with
  |rd x t T |st x t T |gv t T=>intro c hc;rw[χ.mp hc];rwa[d.2]
  |wr t u T U=>
   intro c hc;rcases Ξ.mp hc with e |hc
   .rw[e];rwa[d.2.1]
   .rw[χ.mp hc];rwa[d.2.2]
  |cl x f q i=>rwa[d.2.2]
 |ite p t T a b Q j A B _ g _ _ _ _ |loop p t T a Q A _ g _ _=>intro c hc;rw[χ.mp hc];rwa[g]
def Fp(h:iV H v s)(o:s.Ok y):ο s.own<=100/\∀c∈s.own,dW y c.2:=by
 let one:∀(t:ζ) (T:Tm),dW y T->[(t,T)].length<=100/\∀c∈[(t,T)],dW y c.2:=λt T h=>#[by show 1<=100;omega,λc hc=>by rw[χ.mp hc];rwa[h]];cases h with
 |lf p l V _ g=>
  cases l with
  |rd x t T |st x t T=>rwa[one t T o.1.2]
  |wr t u T U=>
   erw[#[by show 2<=100;omega,λc hc=>?_]];rcases Ξ.mp hc with e |hc
   .rw[e];rwa[o.1.1]
   .rw[χ.mp hc];rwa[o.1.2]
  |cl x f q i=>exact#[OK o.1.2.1 NP,o.1.2.2]
  |gv t T=>rwa[one t T o.1]
 |ite p t T a b Q j A B _ d _ _ _ _ |loop p t T a Q A _ d _ _=>rwa[one t T o.1]
theorem app_assoc:∀(a b c:Bd),(a.app b).app c=a.app (b.app c)
 | .nil,_,_=>rfl
 | .lf p l r,b,c=>by show Bd.lf p l ((r.app b).app c)=_;rw[app_assoc r b c];rfl
 | .ite p t T x y r,b,c=>by show Bd.ite p t T x y ((r.app b).app c)=_;rw[app_assoc r b c];rfl
 | .loop p t T x r,b,c=>by show Bd.loop p t T x ((r.app b).app c)=_;rw[app_assoc r b c];rfl
theorem app_nil:∀(a:Bd),a.app .nil=a
 | .nil=>rfl
 | .lf p l r=>by show Bd.lf p l (r.app .nil)=_;rw[app_nil r]
 | .ite p t T x y r=>by show Bd.ite p t T x y (r.app .nil)=_;rw[app_nil r]
 | .loop p t T x r=>by show Bd.loop p t T x (r.app .nil)=_;rw[app_nil r]
inductive OI(v:V)(g r k:ζ)(s:Bd)(M:ρ->Prop)(b:Hp)(i:Nat)(n:_L.St)(a:Hp):Prop
 |mk(l:ym V)(m:xL ρ)(d:n=[δ v,↑g,↑k,l])(e:a k=δ (.lst (m.map tT)))(f:∀y,y∈m↔s.bt M y∨∃c∈s.own.take i,y∈c.2.vars)(h:ο m<=50+21*i)(j:aI k b a)
def yk:am ["statement","behind","names","term"] z3z (ae BY):=bV
def wV{L:Nat}(F:xD K "used_ahead_of" BY f fd)(cB:‹L+9› fB f0 z3z (yv n) "used_behind_terms")(cO:‹1› fO f2 z4z oh "own_terms")(cN:‹7› fN f3 z0z (dR 6) "names_in")(m0:mg "list"=θ)(m2:mg "set"=θ)(m3:mg "sorted"=θ):⇑(L+10) f fd z3z (ip n):=by
 erw[F.ok yk λc0 A o1 s H vs Q E t h=>?_]
 let⟨v,g,st,ss,M,Y,rfl,j,u,U,hd,hz,q⟩:=h;erw[#[_,(jd (jA 2 yk.nd$ jI JA Z m0 boot_list$ ja (cB.e t.m$ ja (pv 0)$ ja (pv 1) jb) jb)$ jd (km O8 Z (qw$ cO.e t.m$ ja (pv 0) jb) (jx (i:=3) yk.nd Z$ ω Z)$ jg$ jN$ j9 OF Rg Rc z9 (pv 2)$ ja (cN.e t.m$ ja (pv 3) jb) jb)$ jg$ jo$ jO (qm Z) Z m3 SO$ ja (jI (Ja Z) Z m2 boot_set$ ja (pv 2) jb) jb),?_]];erw[ah λF1 C=>#[_,Z,_,Z,v,g,st,ss,M,Y,Z,j,u,U,hd,hz,λr1 G H1 e1 m1 l1 k1=>#[r1,_,Z,.inl$ aL.of e1,λN I=>C _ _ ?_]]];let s2:aa H (af H1 N$ .lst$ G.map tT):=k1.trans (je I);let J:=j.mono (aa.tm s2);let⟨o2,O⟩:=Fp j U;let a:af H1 N (.lst$ G.map tT) N=δ (.lst$ G.map tT):=jc;let h0:H N=θ:=k1.free I;generalize af H1 N (.lst$ G.map tT)=H2 at s2 J a;erw[ah λF1 C=>?_];erw[fQ λF kF=>#[_,Z,v,st,Z,J,λr H3 t W=>#[r,Z,#[_,aF.of t],kF _ _ ?_]]];let r0:r≠N:=jM t (W _ _ a) BT;let s3:=s2.trans W;let b0:=zI;erw[KR (K:=K) (xs:=st.own.map rT) (OI v g r N st M H3) #[_,G,Z,W _ _ a,λy=>?_,N09,aI.refl] (λi σ H' hi h=>?_) ?_ (λσ H' h=>C _ _ ?_)]
 .rw[m1 y];exact#[.inl,λz=>z.elim (λw=>w) λ#[c,p,_]=>absurd p O5]
 .let⟨_,_,_,_,_,_,k⟩:=h;rwa[aF.of$ k _ _ r0 t]
 .intro E _ i x σ H4 B fE Gq D h;let⟨o3,X,rfl,h1,R,h3,k4⟩:=h;rw[OL]at B;cases p:st.own[i]? with
  |none=>rw[p]at B;cases B
  |some c=>
   rw[p]at B;cases B;erw[D ?_];let cm:=OX p;let hi:i < ο st.own:=by
    rcases Tx i st.own.length with z |z
    .rwa[z]
    .rw[Pk z]at p;cases p
   let tm:aj H3 H4:=λb xs e=>k4 b _ (jM e (W _ _ a) BT) e;show sh _ E [δ v,↑g,↑N,δ$ .ref c.1] H4;erw[#[_,Z,.inl #[Z,_,aL.of h1],_,Z,c.1,c.2,Y,Z,((Fo j c cm).mono$ aa.tm s3).mono tm,(O c cm).2,(O c cm).1,u.y20,λr5 s5 H5 n5 e5 d5 m5 o5 k5=>?_]];let l5:ο s5<=21:=OK (ki d5 λx B=>kE (O c cm).1 x ((m5 x).mp B)) u.y20;erw[#[N,r5,_,_,Z,Z,k5 _ _ h1,e5,by rw[Oq,Oq];omega,fE _ _ #[_,X++s5,Z,by rw[jc,OU],λy=>?_,by rw[Ot];omega,λb o nb e=>?_]]]
   .rw[Sd,R y,m5 y,PQ,p];erw[#[λz=>z.elim (λz=>z.elim .inl λ#[d,hd,w]=>.inr #[d,P0 _ hd,w]) λw=>.inr #[c,OS _$ χ.mpr Z,w],λz=>z.elim (λw=>.inl (.inl w)) λ#[d,hd,w]=>?_]];rcases bm.mp hd with hd |hd
    .rwa[.inl$ .inr #[d,hd,w]]
    .let ed:d=c:=χ.mp hd;rw[ed]at w;rwa[.inr w]
   .rw[jh nb];rwa[k5 _ _$ k4 b o nb e]
 .let⟨o3,X,rfl,h1,R,h3,k4⟩:=h;rw[Oq]at R h3;let s4:aa H H':=λb o e=>k4 b o (jk e h0) (s3 _ _ e);erw[#[_,Z,N,X,Z,aL.of h1,(λL nd j=>PR (Rj$ ki nd j) (by show ο X+1 < 4096;omega)),λl L S h4 hm=>?_]];let sub:∀y∈L,y∈Y:=λy hy=>Bd.use_in U u.sub y ((yR j M y).mpr (by let:=(R y).mp ((hm y).mp hy);rw[Pg]at this;assumption));let lL:=OK (ki h4 sub) u.y20;erw[#[l,L,Z,jc,NO,λr' s0 T pm nd so=>?_]];erw[q r' s0 _ ((s4.trans$ je S).free T) #[jc,#[pm.nodup_iff.mpr nd,so,λy=>?_],Bd.use_in U u.sub,u.y20] ((s4.trans$ je S).trans$ je T)];rw[pm.mem_iff,hm y,R y,yR j M y,Pg]
def none_of(s:aa H h)(n:h r=θ):H r=θ:=by
 cases z:H r with
 |none=>rfl
 |some o=>have:=s _ _ z;rw[n]at this;cases this
inductive UI(a g:ζ)(b:Bd)(p:xL V)(M:ρ->Prop)(q:xL ρ)(H:Hp)(i:Nat)(s:_L.St)(d:Hp):Prop
 |mk(m:ζ)(o:ym V)(c n:Bd)(r:xL ρ)(e:s=[↑a,↑g,↑m,o])(f:b=c.app n)(h:eI H c (p.take (ο p - i)))(j:NL d m r (n.use M) q)(k:aa H d)(l:H m=θ)
def rO:am ["body","behind","names","statement"] z18z (ae BX):=bV
def Fg{L:Nat}(F:xD K "used_ahead" BX f fd)(cU:‹L+10› fU f0 z3z (ip n) "used_ahead_of")(J:mg "sorted"=θ)(N:mg "reversed"=θ):⇑(L+11) f fd z18z (lO$ n+1):=by
 erw[F.ok rO λc0 A O s H vs Q E hr h=>?_]
 let⟨a,g,b,xs,R,M,Y,rfl,ha,hb,d,ho,hd,hz,q⟩:=h;erw[#[_,(jd (jA 2 rO.nd$ jO XL Z J SO$ ja (pv 1) jb)$ jd (km O8 Z (@xp _ _ _ _ _ _ _ Z N Vn (pv 0) NP NP NK NK) (jx (i:=3) rO.nd Z$ ω Z)$ jg$ jA 2 rO.nd$ cU.e hr.m$ ja (pv 3)$ ja (pv 2) jb)$ jg$ jo$ pv 2),?_]];let g0:ο R<=21:=OK (ki d.nd λx o=>d.sub x ((d.mem x).mp o)) d.y20;let b0:=aN;erw[ah λF1 t=>#[_,Z,g,R,Z,aL.of d.at',NO,λl c nl pm so=>t _ _ ?_]];let T:Nm c M:=#[pm.nodup_iff.mpr d.nd,so,λx=>pm.mem_iff.trans (d.mem x)];let U:aa H (af H l$ .lst$ c.map tT):=je nl;let u:NL (af H l$ .lst$ c.map tT) l c M Y:=#[jc,T,d.sub,d.y20];generalize af H l (.lst$ c.map tT)=H1 at U u;let xl:=hb.len;erw[ah λF1 t=>?_];erw[fQ λF kF=>#[_,Z,a,xs,Z,aF.of$ U _ _ ha,kF _ _ ?_]];erw[X9 (K:=K) (xs:=xs) (UI a g b xs M Y H) #[l,_,b,.nil,c,Z,(app_nil b).symm,by rw[SQ,Pg];rwa[hb],u,U,nl] (λi σ H' hi h=>?_) ?_ (λσ H' h=>t _ _ ?_)]
 .let⟨_,_,_,_,_,_,_,_,_,k,_⟩:=h;rwa[aF.of$ k _ _ ha]
 .intro E _ i x σ H2 o fE Gq p h;let⟨I,o3,pre,gQ,W,rfl,j,y,X,B,n2⟩:=h;let hi:i < ο xs:=by
   rcases Tx i xs.length with z |z
   .rwa[z]
   .rw[Pk (z:)]at o;cases o
  rw[Sv hi]at o;let et:xs.take (ο xs - i)=xs.take (ο xs - (i+1))++[x]:=by
   let C:ο xs - i=(ο xs - 1 - i)+1:=NO
   let e2:ο xs - (i+1)=ο xs - 1 - i:=NO
   rw[C,e2,PQ,o];rfl
  rw[et]at y;rcases y.last with ⟨e,_⟩ | ⟨ws,v,D,S,C,e2,h4,h5⟩
  .rwa[absurd e NN]
  let⟨ew,ev⟩:=VO C Z;cases ev;subst e2;let h0:=zU (j▸ho);let G:=zU h0.1;let a1:b.dep=max (D.app S).dep gQ.dep:=by rw[j,zu]
  let a2:(D.app S).dep=max D.dep S.dep:=zu ..;let h6:S.dep<=b.dep:=by rw[a1,a2];rwa[OK (Sx ..)$ SK ..]
  let h7:S.size<=b.size:=by rw[j,j7,j7];omega
  erw[p ?_];show eP _ _ E [↑a,↑g,↑I,δ x] H2;erw[#[_,Z,_,Z,x,I,S,W,gQ.use M,Y,Z,h5.mono$ aa.tm B,X,G.2,NO,NO,λr z H3 nr n3 k3=>fE _ _ #[r,_,D,S.app gQ,z,Z,by rw[j,app_assoc],?_,by rw[Ki];rwa[n3],B.trans k3,none_of B nr]]];rw[ew];rwa[h4]
 .let⟨I,o3,pre,gQ,W,rfl,j,y,X,B,n2⟩:=h;rw[Tw]at y;let ep:pre= .nil:=by
   rcases y.last with ⟨_,e⟩ | ⟨ws,v,D,S,C,_⟩
   .rwa[e]
   .rwa[absurd C NN]
  rw[ep]at j;erw[#[_,Z,q I W H' n2 ?_ B]];rw[j];rwa[X]
def EG:⇑k f e z18z (lO 0):=by
 let n:∀v H Q E,¬lO 0 v H Q E:=λv H Q E h=>by let⟨a,g,b,x,S,M,y,_,_,_,_,_,d,_⟩:=h;rwa[absurd d$ SJ _]
 exact#[λv H Q E h=>absurd h (n v H Q E),λA o s H c u v Q E _ _ _ _ h=>absurd h (n v H Q E)]
theorem Lv(F:xD K "used_ahead" BX f e)(FB:xD K "used_behind_terms" xY r g)(d:xD K "used_ahead_of" BY o b)
  (B:aE K e z18z []) (i:mg "used_ahead"=↑f) (j:aE K g z3z []) (k:mg "used_behind_terms"=↑r) (p:aE K b z3z []) (q:mg "used_ahead_of"=↑o) (C:‹1› u s z4z oh "own_terms") (l:‹7› v t z0z (dR 6) "names_in") (M:mg "list"=θ) (a:mg "set"=θ) (m:mg "sorted"=θ) (c:mg "reversed"=θ):
  ∀n:Nat,⇑(3*n+8) f e z18z (lO n)/\⇑(3*n+10) o b z3z (ip n)
 |0=>by let h:⇑8 f e z18z (lO 0):=EG;let H:=wU (L:=8) (n:=0) FB #[h,B,F.kp,i];exact#[h,wV (L:=0) d #[H,j,FB.kp,k] C l M a m]
 |n+1=>by
  let I:=(Lv F FB d B i j k p q C l M a m c n).2;let h:=Fg (L:=3*n) F #[I,p,d.kp,q] m c;let E:3*n+11=3*(n+1)+8:=NO
  rw[E]at h;let H:=wU (L:=3*(n+1)+8) (n:=n+1) FB #[h,B,F.kp,i];exact#[h,wV (L:=3*(n+1)) d #[H,j,FB.kp,k] C l M a m]
abbrev FN:bU:=bX 49
abbrev xQ:bU:=bX 52
abbrev xM:bU:=bX 53
abbrev mQ:bU:=bX 54
abbrev xS:bU:=bX 55
def Lf.cut:Lf->Nat
 | .st _ _ _ | .gv _ _=>0
 |_=>1
def Bd.cuts:Bd->Nat
 | .nil=>0
 | .lf _ l r=>l.cut+r.cuts
 | .ite _ _ _ a b r=>1+a.cuts+b.cuts+r.cuts
 | .loop _ _ _ a r=>1+a.cuts+r.cuts
def Bd.inn:Bd->Bd
 | .ite _ _ _ a b _=>a.app b
 | .loop _ _ _ a _=>a
 |_=>.nil
theorem zZ:∀(a b:Bd),(a.app b).cuts=a.cuts+b.cuts
 | .nil,b=>by show b.cuts=0+b.cuts;omega
 | .lf _ l r,b=>by let:=zZ r b;show l.cut+(r.app b).cuts=l.cut+r.cuts+b.cuts;omega
 | .ite _ _ _ x y r,b=>by let:=zZ r b;show 1+x.cuts+y.cuts+(r.app b).cuts=1+x.cuts+y.cuts+r.cuts+b.cuts;omega
 | .loop _ _ _ x r,b=>by let:=zZ r b;show 1+x.cuts+(r.app b).cuts=1+x.cuts+r.cuts+b.cuts;omega
inductive nX(b:xL V)(H:Hp)(Q:VK)(a:XK):Prop
 |mk(v:V)(s:Bd)(_:b=[v])(_:iV H v s)(_:s.size<=10000000)(_:∀(r:ζ) (xs:xL V) (H':Hp),H' r=δ (.tup xs)->eI H' s.inn xs->aa H H'->Q (.ref r) H')
inductive iH(d:xL V)(H:Hp)(Q:VK)(c:XK):Prop
 |mk(a:ζ)(b:Bd)(e:xL V)(_:d=[.ref a])(_:H a=δ (.tup e))(_:eI H b e)(_:b.size<=10000000)(_:∀H',aa H H'->Q (.int (b.cuts:Int)) H')
def IX:am z4z z4z (ae FN):=bV
def EQ(F:xD K "bodies_in" FN f y):⇑1 f y z4z nX:=by
 erw[F.ok IX λC A o s H V Q E j h=>?_]
 let⟨v,st,rfl,z,B,q⟩:=h;erw[#[_,(jd (jy (jZ$ jv$ pv 0) (jg$ jo$ jw jU (jv$ pv 0)$ jv$ pv 0) jp)$ jd (jy (jZ$ jv$ pv 0) (jg$ jo$ jv$ pv 0) jp)$ jg$ jo$ ji jb),?_]];let D:=aN;cases z with
 |lf p l V c d=>
  cases l with
  |rd x t T |st x t T |wr t u T U |cl x f R S |gv t T=>let⟨rfl,_⟩:=d;erw[(jr c Z #[Z,_,Z,aV NM ?_])];erw[(jr c Z #[Z,_,Z,aV NM ?_])];exact#[gR,λr N=>q r [] _ jc Z (je N)]
 |ite p t T a b e G g I c J d i m n=>erw[(jr c Z #[Z,_,Z,cq NM ?_])];let L:a.size+b.size+0+1<=10000000:=B;let W:=m.len;let X:=n.len;exact(jr c Z$ jr c Z #[e,G,g,I,Z,Z,d,i,NO,λr M j s=>q r _ M j ((n.mono$ aa.tm s).app$ m.mono$ aa.tm s) s])
 |loop p t T a e g c J d i=>erw[(jr c Z #[Z,_,Z,aV NM ?_])];erw[(jr c Z #[Z,_,Z,cq NM ?_])];exact(jr c Z$ q e g H d i$ aa.refl H)
def Cq(h:iV H v s):s.inn.size < s.size/\∃(p:ζ) (w:ρ) (r:xL V),v= .ref p/\H p=δ (.tup (.str w::r))/\s.cuts=(if pV (.str w) [.str "set",.str "give"]=μ then 0 else 1)+s.inn.cuts:=by
 cases h with
 |lf p l i c d=>
  erw[#[Nat.zero_lt_succ _,?_]];cases l with
  |rd x t T |wr t u T U |cl x f Q j=>let⟨rfl,_⟩:=d;exact#[p,_,_,Z,c,by rw[OD NM];rfl]
  |st x t T |gv t T=>let⟨rfl,_⟩:=d;exact#[p,_,_,Z,c,by rw[OB NM];rfl]
 |ite p t T a b q k A B c e d g m n=>erw[#[by show(a.app b).size < a.size+b.size+0+1;rw[j7];omega,p,_,_,Z,c,?_]];rw[OD NM];show 1+a.cuts+b.cuts+0=1+(a.app b).cuts;rw[zZ];omega
 |loop p t T a q A c e d g=>erw[#[by show a.size < a.size+0+1;omega,p,_,_,Z,c,?_]];rw[OD NM];show 1+a.cuts+0=1+a.cuts;omega
def eJ:eV (v::y) 0=δ v:=jH (j:=0) Z
inductive MI(a n:ζ)(b:Bd)(H:Hp)(m:Nat)(p:_L.St)(c:Hp):Prop
 |mk(l:ym V)(W:Bd)(o:xL V)(k:Nat)(d:m=W.size)(e:p=[↑a,δ (.int (k:Int)),↑n,l])(f:c n=δ (.lst o))(g:eI c W o)(h:k+W.cuts=b.cuts)(i:W.size<=10000000)(j:aI n H c)
def lr:am ["body","many","todo","statement"] ["body"] (ae xQ):=bV
def Bm(F:xD K "many_cuts" xQ f fd)(cB:‹1› fB f0 z4z nX "bodies_in")(m0:mg "list"=θ):⇑2 f fd ["body"] iH:=by
 erw[F.ok lr λc0 A o1 s H vs Q E hr h=>?_]
 let⟨a,b,xs,rfl,ha,hb,hz,q⟩:=h;erw[#[_,(jd (jA 1 lr.nd jf)$ jd (jA 2 lr.nd$ jI JA Z m0 boot_list$ ja (pv 0) jb)$ jd (Jq O8 (@xw _ _ _ (pv 2) (λ_=>Z))$ jd (jA 3 lr.nd$ Fy OF PySem.F.slot_list_pop PySem.F.type_list_pop Ex$ pv 2)$ jd (j6$ jy (jz Jz (jv$ pv 3) (ji$ ja jm$ ja jm jb) Z) (jg$ FG (i:=1) lr.nd Z (ω Z) jf Ej) jp)$ jg$ jN$ j9 OF Rg Rc Zp (pv 2)$ ja (cB.e hr.m$ ja (pv 3) jb) jb)$ jg$ jo$ pv 1),?_]];let b0:=aN;erw[ah λU d=>d _ _ ?_];erw[ah λU d=>#[_,Z,a,_,Z,.inr$ aF.of ha,λt C=>d _ _ ?_]];let s0:aa H (af H t$ .lst xs):=je C;erw[ah λU d=>?_];erw[nC (MI a t b H) b.size #[_,b,xs,0,Z,Z,jc,hb.mono$ aa.tm s0,NO,hz,λc o N e=>s0 _ _ e] ?_];intro m σ D E _ fE F X Y Gq y h;let⟨o3,W,zs,k,rfl,rfl,x,h2,h3,h4,h5⟩:=h;erw[y #[_,Z,!zs.isEmpty,.inl #[zs,aL.of x,Z],?_]];rcases h2.last with ⟨e1,e2⟩ | ⟨g,v,B,n,e1,e2,g1,g2⟩
 .rw[e1];erw[Y _$ d _ _ #[_,Z,?_]];rw[e2]at h3;let e3:k=b.cuts:=by let:k+0=b.cuts:=h3;rwa[N09]
  rw[e3];rwa[q _ λc o e=>h5 c o (jk e C) e]
 .rw[e1];let ne:(!(g++[v]).isEmpty)=μ:=by cases g<;>rfl
  rw[ne];erw[X _ ?_];let h6:W.size=B.size+n.size:=by rw[e2,j7]
  let h7:W.cuts=B.cuts+n.cuts:=by rw[e2,zZ]
  let⟨h8,p,w',r,rfl,hp,hc⟩:=Cq g2;rw[e1]at x;erw[ah λU d=>#[_,Z,.inl #[Z,_,aL.of x],t,_,.ref p,Z,Z,x,NN,d _ _ ?_]];rw[List.dropLast_concat];let T:aj D (af D t$ .lst g):=λc ys e=>by rw[jh$ jM e x BT];rwa[e]
  let t2:af D t (.lst g) t=δ (.lst g):=jc;let u:=g1.mono T;let I:=g2.mono T;let J:=T _ _ hp;let k2:aI t H (af D t$ .lst g):=λc o N e=>by rw[jh N];rwa[h5 c o N e]
  generalize af D t (.lst g)=H2 at t2 u I J k2;let R:∀(j:Nat) (H3:Hp),aa H2 H3->j+B.cuts+n.inn.cuts=b.cuts->sh (MM K "list" (lg K) (bj 2)$ ap (fb nX [] E0$ ap (bj 3) aY) aY) E [↑a,δ$ .int (j:Int),↑t,↑p] H3:=λj H3 L hk=>by
   let g0:=I.mono (aa.tm L);erw[#[_,Z,.inl #[Z,_,aL.of$ L _ _ t2],_,Z,.ref p,n,Z,g0,NO,λr' ys H4 h0 hy s4=>?_]];let S:=L.trans s4;let l1:=u.len;let l2:=hy.len;erw[#[t,r',g,ys,Z,Z,S _ _ t2,aF.of h0,NO,fE (B.app n.inn).size _ _ (by rw[j7];omega) #[_,B.app n.inn,g++ys,j,Z,Z,jc,?_,by rw[zZ];omega,by rw[j7];omega,λc o N e=>?_]]]
   .let M:aj H4 (af H4 t$ .lst$ g++ys):=λc z0 e=>by rw[jh$ jM e (S _ _ t2) BT];exact e
    exact(hy.mono M).app ((u.mono$ aa.tm S).mono M)
   .rw[jh N];rwa[S _ _$ k2 c o N e]
  erw[ah λU d=>dX (λO H'=>∃j:Nat,O=[↑a,δ$ .int (j:Int),↑t,↑p]/\aa H2 H'/\j+B.cuts+n.inn.cuts=b.cuts) (λE2 _ fm=>?_) λO H' h=>?_]
  .erw[oU λG X Y=>(jr J eJ #[ci,λl nl=>#[l,_,Z,.inr$ aF.of jc,Z,Z,_,Z,?_]])];cases hv:pV (.str w') [.str "set",.str "give"] with
   |true=>rw[hv,OB Z]at hc;rwa[Y _$ fm _ _ #[k,Z,je nl,NO]]
   |false=>rw[hv,OD OG]at hc;erw[X _ #[_,Z,_,_,Z,Z,fm _ _ #[k+1,?_,je nl,NO]]];show [_,δ$ vr ((k:Int)+1),_,_]=[_,δ$ vr ((k+1:Nat):Int),_,_];rfl
  .let⟨j,rfl,L,hk⟩:=h;rwa[d _ _$ R j H' L hk]
inductive LA where
 |go (n:Int) |give (t:ζ)
structure Wy where
 sets:xL (ρ×ζ)
 goal:LA
inductive Dd where
 |st (p:ζ) |ask (t:ζ)
structure Ct where
 M:ρ->Prop
 d:Dd
 ws:xL Wy
structure Pc where
 M:ρ->Prop
 w:Wy
inductive aSt(H:Hp)(l:Tr)(W:V->xL V->Prop)(x:V):Prop|mk(_:l.isL=μ)(a X:_)(_:x= .ref a)(_:H a=δ (.tup X))(_:W .non X)
inductive aSc(h t:Tr)(W R:V->xL V->Prop)(X:xL V):Prop|mk(_:h.isL=ν)(_:t.isL=μ)(y Y:_)(_:X=y::Y)(_:W y [])(_:R .non Y)
def aS(H:Hp):Tr->V->xL V->Prop
 | .lf v,x,_=>x=v/\Nw v=μ
 | .tp l,x,_=>aSt H l (aS H l) x
 | .nil,_,X=>X=[]
 | .cons h t,_,X=>aSc h t (aS H h) (aS H t) X
def aS.mono(k:aj H d):∀{t:Tr} {x:V} {X:xL V},aS H t x X->aS d t x X:=by
 intro t;induction t with
 |lf v |nil=>exactλh=>h
 |tp l f=>rintro x X ⟨h,a,Y,e,b,c⟩;exact#[h,a,Y,e,k _ _ b,f c]
 |cons h t i I=>rintro x X ⟨E,g,y,Y,e,b,c⟩;exact#[E,g,y,Y,e,i b,I c]
def aC:xL Tr->Tr
 | []=>.nil
 |t::T=>.cons t (aC T)
def Xe:∀t:xL Tr,(aC t).isL=μ
 | [] |_::_=>rfl
def ay(t:xL Tr):Tr:=.tp (aC t)
def aM(x:ρ):Tr:=.lf (.str x)
def uo(a:ζ):Tr:=.lf (.ref a)
def ar(n:Int):Tr:=.lf (.int n)
section
variable {H:Hp}
def jB:aS H (aC []) .non []:=rfl
def jl{t:Tr}(h:t.isL=ν)(a:aS H t y [])(b:aS H (aC T) .non Y):aS H (aC (t::T)) .non (y::Y):=#[h,Xe T,y,Y,Z,a,b]
def jD(h:H a=δ (.tup x))(b:aS H (aC t) .non x):aS H (ay t) (.ref a) []:=#[Xe t,a,x,Z,h,b]
def jS:aS H (aM x) (.str x) []:=#[Z,Z]
def JJ:aS H (uo a) (.ref a) []:=#[Z,Z]
def jV:aS H (ar n) (.int n) []:=#[Z,Z]
theorem Kj(a:aS H (aC s) .non Y):∀{T:xL Tr} {x:xL V},aS H (aC T) .non x->aS H (aC$ T++s) .non (x++Y)
 | [],x,h=>by let e:x=[]:=h;rw[e];rwa[a]
 |t::T,x,h=>by let⟨E,_,y,z,e,b,c⟩:=h;rw[e];rwa[jl E b (Kj a c)]
theorem zn:∀{T:xL Tr} {x:xL V},aS H (aC T) .non x->ο x=ο T
 | [],x,h=>by let e:x=[]:=h;rw[e];rfl
 |t::T,x,h=>by let⟨_,_,y,z,e,_,a⟩:=h;rw[e,O1,O1,zn a]
theorem Ye:∀(S:xL ρ),aS H (aC$ S.map aM) .non (S.map tT)
 | []=>rfl
 |s::S=>jl Z jS (Ye S)
theorem Z7:∀{T:xL Tr} {x:xL V},aS H (aC T) .non x->aS H (aC T.reverse) .non x.reverse
 | [],x,h=>by let e:x=[]:=h;rw[e];rfl
 |t::T,x,h=>by let⟨E,_,y,z,e,a,b⟩:=h;rw[e,SX,SX];rwa[Kj (jl E a jB)$ Z7 b]
theorem qX:∀{T:xL Tr} {X:xL V},aS H (aC T) .non X->∀(i:Nat) (x:V),X[i]?=δ x->∃t,T[i]?=δ t/\aS H t x []
 | [],X,h,i,x,a=>by let e:X=[]:=h;rw[e]at a;simp at a
 |t::T,X,h,0,x,a=>by let⟨_,_,y,z,e,b,c⟩:=h;rw[e]at a;cases a;exact#[t,Z,b]
 |t::T,X,h,i+1,x,a=>by let⟨_,_,y,z,e,b,c⟩:=h;rw[e]at a;simpa using qX c i x (a:)
end
def setT(s:ρ×ζ):Tr:=ay [aM s.1,uo s.2]
def AR:LA->Tr
 | .go n=>ay [aM "go",ar n]
 | .give t=>ay [aM "give",uo t]
def iU(w:Wy):Tr:=ay [ay$ w.sets.map setT,AR w.goal]
def LN:Dd->Tr
 | .st p=>uo p
 | .ask t=>ay [aM "ask",uo t]
def HK(c:Ct):Tr:=ay [ay ((canon c.M).map aM),LN c.d,ay$ c.ws.map iU]
def Ef(g:LA):(AR g).isL=ν:=by cases g<;>rfl
def HN(d:Dd):(LN d).isL=ν:=by cases d<;>rfl
inductive oB(H:Hp)(p:Pc)(v:V)(g:ζ)(y:xL ρ):Prop|mk(r s W:_)(_:v= .ref r)(_:H r=δ (.tup [.ref g,W]))(_:NL H g s p.M y)(_:aS H (iU p.w) W [])
def oB.same(h:oB H p v g y)(s:aa H a):oB a p v g y:=by let⟨r,S,W,e,b,c,d⟩:=h;exact#[r,S,W,e,s _ _ b,c.same s,d.mono$ aa.tm s]
def oB.but(h:oB H p v g y)(k:aI f H c)(d:H f=δ (.lst C))(n:g≠f):oB c p v g y:=by let⟨r,s,W,e,i,a,j⟩:=h;let t:aj H c:=λb x e=>k b _ (jM e d BT) e;exact#[r,s,W,e,t _ _ i,#[k _ _ n a.at',a.nm,a.sub,a.y20],j.mono t]
def Lf.isCut:Lf->Bool
 | .st _ _ _ | .gv _ _=>ν
 |_=>μ
def Bd.deed:Bd->Dd
 | .lf p _ _=>.st p
 | .ite _ t _ _ _ _ | .loop _ t _ _ _=>.ask t
 | .nil=>.st 0
inductive lE(b:xL V)(H:Hp)(Q:VK)(a:XK):Prop
 |mk(v:V)(s:Bd)(_:b=[v])(_:iV H v s)(_:∀(d:V) (H':Hp),aS H' (LN s.deed) d []->aa H H'->Q d H')
inductive io(b:xL V)(H:Hp)(Q:VK)(a:XK):Prop
 |mk(t:ζ)(T:Tm)(c:xL ρ)(_:b=[.ref t])(_:bJ H T t)(_:dW c T)(_:ο c<=21)(_:∀(v:V) (g:ζ) (H':Hp),oB H' #[λx=>x∈T.vars,#[[],.give t]] v g c->H g=θ->aa H H'->Q v H')
inductive rY(K:β)(c:xL V)(H:Hp)(Q:VK)(b:XK):Prop
 |mk(a:ζ)(_:c=[.ref a])(_:aF K H a [.str "num",.int 0])(_:∀(r:ζ),H r=θ->Q (.ref r) (af H r (.lst [])))
inductive rZ(K:β)(b:xL V)(H:Hp)(Q:VK)(a:XK):Prop
 |mk(t:ζ)(c:xL ρ)(_:b=[.ref t])(_:aF K H t [.str "num",.int 0])(_:ο c<=21)(_:∀(v:V) (g:ζ) (H':Hp),oB H' #[λx=>x∈(Tm.num 0).vars,#[[],.give t]] v g c->H g=θ->aa H H'->Q v H')
open Classical in
def lB(x:ρ)(t:ζ)(p:Pc):Wy:=if p.M x then #[(x,t)::p.w.sets,p.w.goal] else p.w
inductive lK(d:xL V)(H:Hp)(Q:VK)(a:XK):Prop
 |mk(v b:V)(p t:ζ)(x:ρ)(T:Tm)(c:Pc)(g:ζ)(e:xL ρ)(_:d=[v,b])(_:iV H v (.lf p (.st x t T) .nil))(_:oB H c b g e)(_:x∈e)(_:dW e T)(_:ο c.w.sets<=10000000)(_:∀(v':V) (g':ζ) (H':Hp),oB H' #[(Lf.st x t T).use c.M,lB x t c] v' g' e->H g'=θ->aa H H'->Q v' H')
def Ga:am z4z z4z (ae xM):=bV
def Bi(F:xD K "deed_of" xM f e):⇑1 f e z4z lE:=by
 erw[F.ok Ga λC A o s H V Q E z h=>?_]
 let⟨v,st,rfl,g,q⟩:=h;erw[#[_,(jd (jy (jz zC (jv$ pv 0) (ji$ ja jm$ ja jm jb) Z) (jg$ jo$ ji$ ja jm$ ja (jv$ pv 0) jb) jp)$ jg$ jo$ pv 0),?_]];cases g with
 |lf p l V c d=>
  cases l with
  |rd x t T |st x t T |wr t u T U |cl x f B D |gv t T=>let⟨rfl,_⟩:=d;erw[(jr c Z #[ci,λl n=>#[l,_,Z,.inr$ aF.of jc,Z,Z,_,Z,aV NM ?_]])];exact#[_,Z,q _ _ JJ$ je n]
 |ite p t T a b i I j J c m d y L M |loop p t T a i j c m d y=>erw[(jr c Z #[ci,λl n=>#[l,_,Z,.inr$ aF.of jc,Z,Z,_,Z,cq NM ?_]])];erw[(jr (aq c n) Z #[ci,λr N=>?_])];rwa[q _ _ (jD jc$ jl Z jS$ jl Z JJ jB) ((je n).trans$ je N)]
def EY{fN:ζ}{fdN:cc}(F:xD K "names_in" gj f b)(c:‹n+1› f b z0z (dR n) "names_in")(m:mg "set"=θ)(M:mg "sorted"=θ):⇑(n+2) f b z0z (rY K):=by
 erw[F.ok yg (λC A o s H v Q E d h=>?_)]
 let⟨a,rfl,g,q⟩:=h;erw[#[_,(jd (jy (jZ$ jv$ pv 0) (jg$ jo$ jF jb) jp)$ jd (jy (jZ$ jv$ pv 0) (jg$ jo$ jF$ ja (jv$ pv 0) jb) jp)$ jg$ jo$ jO (qm Z) Z M SO$ ja (jI (Ja Z) Z m boot_set$ ja (jw zT (c.e d$ ja (jv$ pv 0) jb)$ c.e d$ ja (jv$ pv 0) jb) jb) jb),?_]];erw[#[_,Z,a,_,_,_,Z,Z,g,Z,Z,_,Z,cq NM ?_]];exact#[gR,λr N=>q r N]
def rN:am z0z z0z (ae mQ):=bV
def wT(F:xD K "place_of_give" mQ f d)(C:‹7› U i z0z (dR 6) "names_in"):⇑8 f d z0z io:=by
 erw[F.ok rN λj A o s H V Q E l h=>?_]
 let⟨t,T,y,rfl,p,O,b,q⟩:=h;erw[#[_,(jg$ jo$ ji$ ja (C.e l.m$ ja (pv 0) jb)$ ja (ji$ ja (ji jb)$ ja (ji$ ja jm$ ja (pv 0) jb) jb) jb),?_]];erw[#[_,Z,t,T,y,Z,p,O.2,O.1,b,λg v a z B D M G I=>?_]];let J:NL a g v (λx=>x∈T.vars) y:=#[B,#[D,G,M],kE O.1,b];erw[#[gR,λe L=>#[_,Z,ci,λu c=>#[ci,λx N=>#[ci,λr n=>?_]]]]];let S:aa a (af (af (af (af a e$ .tup []) u$ .tup [.str "give",.ref t]) x$ .tup [.ref e,.ref u]) r$ .tup [.ref g,.ref x]):=(((je L).trans$ je c).trans$ je N).trans (je n);erw[q _ g _ #[r,_,.ref x,Z,jc,J.same S,?_] z (I.trans S)];rwa[jD (aq jc n)$ jl Z (jD (aq (aq (aq jc c) N) n) jB)$ jl Z (jD (aq (aq jc N) n)$ jl Z jS$ jl Z JJ jB) jB]
def Fc(F:xD K "place_of_give" mQ f j)(C:‹7› G l z0z (rY K) "names_in"):⇑8 f j z0z (rZ K):=by
 erw[F.ok rN λp A o s H V Q E v h=>?_]
 let⟨t,y,rfl,z,B,q⟩:=h;erw[#[_,(jg$ jo$ ji$ ja (C.e v.m$ ja (pv 0) jb)$ ja (ji$ ja (ji jb)$ ja (ji$ ja jm$ ja (pv 0) jb) jb) jb),?_]];erw[#[_,Z,t,Z,z,λg a=>?_]];let b:aa H (af H g$ .lst []):=je a;let c:NL (af H g$ .lst []) g [] (λx=>x∈(Tm.num 0).vars) y:=#[jc,#[TW,Z,λx=>UF],λx h=>absurd h O5,B];generalize af H g (.lst [])=d at b c;erw[#[gR,λe D=>#[_,Z,ci,λu i=>#[ci,λx N=>#[ci,λr n=>?_]]]]];let S:aa d (af (af (af (af d e$ .tup []) u$ .tup [.str "give",.ref t]) x$ .tup [.ref e,.ref u]) r$ .tup [.ref g,.ref x]):=(((je D).trans$ je i).trans$ je N).trans (je n);erw[q _ g _ #[r,_,.ref x,Z,jc,c.same S,?_] a (b.trans S)];rwa[jD (aq jc n)$ jl Z (jD (aq (aq (aq jc i) N) n) jB)$ jl Z (jD (aq (aq jc N) n)$ jl Z jS$ jl Z JJ jB) jB]
def AS{Y:xL ρ}:pV (.str x) (Y.map tT)=decide (x∈Y):=by
 by_cases h:x∈Y
 .rw[OE h];unfold pV;rw[VP];exact#[.str x,dg.mpr #[x,h,Z],by simp [oE]]
 .rw[Oz h];unfold pV;rw[VJ];intro z;rw[VP]at z;let⟨v,a,e⟩:=z;let⟨y,H,rfl⟩:=dg.mp a;let E:x=y∨y=x:=by
   first
    |exact .inl (by simpa [oE] using e)
    |exact .inr (by simpa [oE] using e)
  rcases E with rfl |rfl
  .rwa[h H]
  .rwa[h H]
def GG{H:Hp}{w:Wy}{v:V}(h:aS H (iU w) v []):∃(W s:ζ) (S:xL V) (y:V),v= .ref W/\H W=δ (.tup [.ref s,y])/\H s=δ (.tup S)/\aS H (aC$ w.sets.map setT) .non S/\aS H (AR w.goal) y []:=by obtain⟨_,W,x,rfl,a,_,_,l,b,e,⟨_,s,S,c,d,f⟩,_,_,g,Y,E,i,j⟩:=h;let k:Y=[]:=j;rw[k]at E;rw[E]at e;rw[e,c]at a;exact#[W,s,S,g,Z,a,d,f,i]
def px:am ["statement","behind","way"] z3z (ae xS):=bV
def Bp(F:xD K "place_of_set" xS f fd)(cU:‹10› fU f0 z3z (ip 0) "used_ahead_of"):⇑11 f fd z3z lK:=by
 erw[F.ok px λc0 A O s H vs Q E hr h=>?_]
 let⟨v,bv,p,t,x,T,C,g,Y,rfl,X,hp,hx,ok,hl,q⟩:=h;erw[#[_,(jd (jA 2 px.nd$ jv$ pv 1)$ jd (j6$ jy (jz zC (jv$ pv 0) (jv$ pv 1) Z) (jg$ jA 2 px.nd$ ji$ ja (jw jU (ji$ ja (jJ kc (pv 0) (jG jf) jT) jb)$ jv$ pv 2)$ ja (jv$ pv 2) jb) jp)$ jg$ jo$ ji$ ja (cU.e hr.m$ ja (pv 0)$ ja (jv$ pv 1) jb)$ ja (pv 2) jb),?_]];let b0:=aN;let⟨r,ss,wv,rfl,b,B,hW⟩:=hp;let h0:=X;cases X with
 |lf _ _ vs h1 h2=>
  let⟨rfl,hT⟩:=h2;let⟨wa,sa,sx,y,rfl,i,D,j,hy⟩:=GG hW;erw[ah λF1 d=>(jr b Z$ d _ _ ?_)];let sl:=zn j;rw[Oq]at sl;erw[ah λF1 d=>dX (λl I=>∃W:V,l=[↑p,↑r,δ W]/\aS I (iU$ lB x t C) W []/\aa H I) (λE2 _ fm=>?_) λl I h=>?_]
  .erw[oU λG kT kF=>(jr h1 Z$ jr b Z #[g,_,Z,.inl$ aL.of B.at',Z,Q9 _,_,Z,?_])];rw[AS];by_cases a:x∈ss
   .rw[OE a];erw[kT _ #[_,Z,_,Z,p,_,Z,h1,λs1 H1 J k1=>#[iT,λu nu=>?_]]];let L:=k1.trans (je (o:=.tup [.ref s1]) nu);erw[(jr (L _ _ i) Z #[u,sa,_,_,Z,Z,jc,L _ _ D,by show 1+ο sx<=_;omega,λc H2 hc z=>?_])];let R:=L.trans z;erw[(jr (R _ _ i) Z #[ci,λnw n=>fm _ _ #[.ref nw,Z,?_,R.trans$ je n]])];let tm:=aa.tm (R.trans$ je (o:=.tup [.ref c,y]) n);unfold lB;rw[OB ((B.nm.mem x).mp a)];erw[jD jc$ jl Z (jD (aq hc n)$ jl Z ?_$ j.mono tm)$ jl (Ef _) (hy.mono tm) jB];rwa[jD (aq (z _ _$ aq J nu) n)$ jl Z jS$ jl Z JJ jB]
   .rw[Oz a];erw[kF _$ fm _ _ #[_,Z,?_,aa.refl _]];unfold lB;rw[OD λw=>a ((B.nm.mem x).mpr w)];rwa[hW]
  .let⟨W,rfl,S,k⟩:=h;erw[d _ _ ?_];erw[#[_,Z,jr (k _ _ b) Z #[.ref p,g,.lf p (.st x t T) .nil,ss,C.M,Y,Z,h0.mono$ aa.tm k,B.same k,#[#[hx,ok],trivial],(by show 0 < 1;decide),(by show 0+1<=10000000;decide),λg' zs H3 n3 N3 z=>?_]]];erw[#[_,Z,ci,λr' N=>q _ g' _ #[r',zs,W,Z,jc,N3.same$ je N,S.mono$ aa.tm$ z.trans$ je N] (k.free n3) ((k.trans z).trans$ je N)]]
abbrev BQ:bU:=bP (bX 56) 1
abbrev BW:bU:=bP (bX 56) 2
abbrev BR:bU:=bP (bX 56) 3
abbrev BZ:bU:=bP (bX 56) 4
abbrev xN:bU:=bP (bX 56) 0
def pL(m:Int)(p:ζ)(l:Lf)(q:Pc×xL Ct):Pc×xL Ct:=match l with
 | .gv t T=>(#[λx=>x∈T.vars,#[[],.give t]],q.2)
 | .st x t T=>(#[(Lf.st x t T).use q.1.M,lB x t q.1],q.2)
 | .rd x t T=>(#[(Lf.rd x t T).use q.1.M,#[[],.go (m - (q.2.length:Int) - 1)]],q.2++[#[(Lf.rd x t T).use q.1.M,.st p,[q.1.w]]])
 | .wr t u T U=>(#[(Lf.wr t u T U).use q.1.M,#[[],.go (m - (q.2.length:Int) - 1)]],q.2++[#[(Lf.wr t u T U).use q.1.M,.st p,[q.1.w]]])
 | .cl x f a b=>(#[(Lf.cl x f a b).use q.1.M,#[[],.go (m - (q.2.length:Int) - 1)]],q.2++[#[(Lf.cl x f a b).use q.1.M,.st p,[q.1.w]]])
def pB(m:Int):Bd->Pc->xL Ct->Pc×xL Ct
 | .nil,c,f=>(c,f)
 | .lf p l r,c,f=>pL m p l (pB m r c f)
 | .ite p t T a b r,c,f=>
  let q:=pB m r c f
  let o:=pB m b q.1 q.2
  let s:=pB m a q.1 o.2
  (#[(Bd.ite p t T a b .nil).use q.1.M,#[[],.go$ m - (q.2.length:Int) - ((Bd.ite p t T a b .nil).cuts:Int)]],s.2++[#[(Bd.ite p t T a b .nil).use q.1.M,.ask t,[s.1.w,o.1.w]]])
 | .loop p t T a r,c,f=>
  let q:=pB m r c f
  let d:Pc:=#[(Bd.loop p t T a .nil).use q.1.M,#[[],.go$ m - (q.2.length:Int) - ((Bd.loop p t T a .nil).cuts:Int)]]
  let s:=pB m a d q.2
  (d,s.2++[#[(Bd.loop p t T a .nil).use q.1.M,.ask t,[s.1.w,q.1.w]]])
theorem KI(m:Int):∀(a b:Bd) (c:Pc) (f:xL Ct),pB m (a.app b) c f=pB m a (pB m b c f).1 (pB m b c f).2
 | .nil,_,_,_=>rfl
 | .lf p l r,b,c,f=>by show pL m p l (pB m (r.app b) c f)=pL m p l (pB m r _ _);rw[KI m r b c f]
 | .ite p t T x y r,b,c,f=>by let e:=KI m r b c f;show pB m (.ite p t T x y$ r.app b) c f=_;unfold pB;rw[e]
 | .loop p t T x r,b,c,f=>by let e:=KI m r b c f;show pB m (.loop p t T x$ r.app b) c f=_;unfold pB;rw[e]
theorem kn(m:Int):∀(b:Bd) (c:Pc) (F:xL Ct),(pB m b c F).2.length=ο F+b.cuts
 | .nil,_,_=>rfl
 | .lf p l r,c,F=>by
  let e:=kn m r c F;show(pL m p l$ pB m r c F).2.length=ο F+(l.cut+r.cuts);cases l with
  |rd x t T |wr t u T U |cl x f a d=>show((pB m r c F).2++[_]).length=ο F+(1+r.cuts);rw[Ot,e];show _+1=_;omega
  |st x t T |gv t T=>show(pB m r c F).2.length=ο F+(0+r.cuts);omega
 | .ite p t T x y r,c,F=>by let e:=kn m r c F;show((pB m x _ (pB m y _ _).2).2++[_]).length=_;rw[Ot,kn m x,kn m y,e];show _+1=ο F+(1+x.cuts+y.cuts+r.cuts);omega
 | .loop p t T x r,c,F=>by let e:=kn m r c F;show((pB m x _ _).2++[_]).length=_;rw[Ot,kn m x,e];show _+1=ο F+(1+x.cuts+r.cuts);omega
def Yg(x:ρ)(t:ζ)(p:Pc):(lB x t p).sets.length<=ο p.w.sets+1:=by
 unfold lB;split
 .rwa[Ou _]
 .rwa[PY _]
theorem Z8(m:Int):∀(b:Bd) (a:Pc) (f:xL Ct),(pB m b a f).1.w.sets.length<=ο a.w.sets+b.size
 | .nil,_,_=>Ou _
 | .lf p l r,a,f=>by
  let e:=Z8 m r a f;show(pL m p l$ pB m r a f).1.w.sets.length<=ο a.w.sets+(r.size+1);cases l with
  |st x t T=>have:=Yg x t (pB m r a f).1;show(lB x t (pB m r a f).1).sets.length<=_;omega
  |_=>rwa[OA _]
 | .ite p t T x y r,a,f | .loop p t T x r,a,f=>OA _
theorem kO:∀b:Bd,b.cuts<=b.size
 | .nil=>Ou _
 | .lf _ l r=>by
  let:=kO r;let h:l.cut<=1:=by cases l<;>first |exact Ou _ |exact OA _
  show l.cut+r.cuts<=r.size+1;omega
 | .ite _ _ _ a b r=>by let:=kO a;let:=kO b;let:=kO r;show 1+a.cuts+b.cuts+r.cuts<=a.size+b.size+r.size+1;omega
 | .loop _ _ _ a r=>by let:=kO a;let:=kO r;show 1+a.cuts+r.cuts<=a.size+r.size+1;omega
structure CK(K:β)(C:ζ):Prop where
 cl:uN K C
 nm:a9 K C "many"
 nf:a9 K C "found"
structure Cg(H:Hp)(C ia dx fa:ζ)(m:Int)(cts:xL Ct)(cs:xL V):Prop where
 ins:H ia=δ (.ins C dx [("many",.int m),("found",.ref fa)])
 fd:H fa=δ (.lst cs)
 tr:aS H (aC$ cts.map HK) .non cs
def Cg.same(h:Cg H C i d f m c a)(s:aa H b):Cg b C i d f m c a:=#[s _ _ h.ins,s _ _ h.fd,h.tr.mono$ aa.tm s]
def Cg.len(h:Cg H C i d f m c a):ο a=ο c:=by rw[zn h.tr,Oq]
def Cg.tm{H H':Hp}(h:Cg H C i d f m c a)(k:aI f H H'):aj H H':=λb x e=>k b _ (jM e h.fd BT) e
structure Ah(H:Hp)(C ia dx fa:ζ)(m:Int)(cts:xL Ct)(cs:xL V)(pc:Pc)(bv:V)(g:ζ)(ys:xL ρ)(b:Bd):Prop where
 c:Cg H C ia dx fa m cts cs
 p:oB H pc bv g ys
 ng:g≠fa
 ok:b.Ok ys
 sz:ο cts+ο pc.w.sets+b.size<=10000000
def uU(H:Hp)(C i d f:ζ)(m:Int)(y:xL ρ)(q:Pc×xL Ct)(Q:VK):Prop:=∀(v:V) (g:ζ) (c:xL V) (h:Hp),oB h q.1 v g y->g≠f->Cg h C i d f m q.2 c->aI f H h->Q v h
inductive oi(C:ζ)(n:Nat)(l:xL V)(H:Hp)(Q:VK)(c:XK):Prop
 |mk(j h i a g:ζ)(m:Int)(d:xL Ct)(f o:xL V)(k:Pc)(e:V)(p:xL ρ)(b:Bd)(_:l=[.ref j,.ref a,e])(_:Ah H C j h i m d f k e g p b)(_:H a=δ (.tup o))(_:eI H b o)(_:b.dep < n)(_:uU H C j h i m p (pB m b k d) Q)
inductive Gk(C:ζ)(n:Nat)(j:xL V)(H:Hp)(Q:VK)(a:XK):Prop
 |mk(h e f g:ζ)(m:Int)(b:xL Ct)(d:xL V)(i:Pc)(v c:V)(k:xL ρ)(s:Bd)(_:j=[.ref h,v,c])(_:Ah H C h e f m b d i c g k s)(_:iV H v s)(_:s.dep < n+1)(_:uU H C h e f m k (pB m s i b) Q)
def Bd.isCut:Bd->Bool
 | .lf _ l _=>l.isCut
 | .nil=>ν
 |_=>μ
inductive Cp(C:ζ)(n:Nat)(j:xL V)(H:Hp)(Q:VK)(a:XK):Prop
 |mk(h e f g:ζ)(m:Int)(b:xL Ct)(d:xL V)(i:Pc)(v c:V)(k:xL ρ)(s:Bd)(_:j=[.ref h,v,c])(_:Ah H C h e f m b d i c g k s)(_:iV H v s)(_:s.dep < n+1)(_:s.isCut=μ)(_:uU H C h e f m k (pB m s i b) Q)
def iM(m:Int)(c:Pc)(p:Pc)(f:xL Ct):Bd->xL Wy×xL Ct
 | .ite _ _ _ a b _=>([(pB m a p (pB m b p f).2).1.w,(pB m b p f).1.w],(pB m a p (pB m b p f).2).2)
 | .loop _ _ _ a _=>([(pB m a c f).1.w,p.w],(pB m a c f).2)
 |_=>([p.w],f)
inductive Gm(C:ζ)(n:Nat)(o:xL V)(H:Hp)(Q:VK)(a:XK):Prop
 |mk(i e f g h:ζ)(m:Int)(b:xL Ct)(d:xL V)(j k:Pc)(v c l:V)(p:xL ρ)(s:Bd)(_:o=[.ref i,v,l,c])(_:Ah H C i e f m b d j c g p s)(_:oB H k l h p)(_:h≠f)(_:k.w.sets=[])(_:iV H v s)(_:s.dep < n+1)(_:∀(wv:V) (cs':xL V) (H':Hp),aS H' (ay ((iM m k j b s).1.map iU)) wv []->Cg H' C i e f m (iM m k j b s).2 cs'->aI f H H'->Q wv H')
def YU(h:iV H v s)(g:s.isCut=μ)(m:Int)(c:Pc)(F:xL Ct):
  pB m s c F=(#[s.use c.M,#[[],.go$ m - (F.length:Int) - (s.cuts:Int)]],(iM m #[s.use c.M,#[[],.go$ m - (F.length:Int) - (s.cuts:Int)]] c F s).2++[#[s.use c.M,s.deed,(iM m #[s.use c.M,#[[],.go$ m - (F.length:Int) - (s.cuts:Int)]] c F s).1]]):=by
 cases h with
 |lf p l V d e=>
  cases l with
  |rd x t T |wr t u T U |cl x f a k=>rfl
  |st x t T |gv t T=>cases g
 |ite p t T a b q Q A B d i e j n o |loop p t T a q A d i e j=>rfl
def yU(h:oB H p v g y):∃(r:ζ) (W:V),v= .ref r/\H r=δ (.tup [.ref g,W])/\aS H (iU p.w) W []:=by let⟨r,s,W,e,a,c,b⟩:=h;exact#[r,W,e,a,b]
def K':am ["self","statement","place","behind","other"] z24z (ae BZ):=bV
def ID(F:aU K "ways_of" "Cutting.ways_of" BZ f fd)(X:CK K C)(GB:⇑(4*n+31) fB f0 z13z (oi C n))(bB:aE K f0 z13z [])(hB:bh K C "place_of_body" fB):⇑(4*n+32) f fd z24z (Gm C n):=by
 erw[F.ok K' λc3 A o1 s H vs Q E hr h=>?_]
 let⟨i,D,R,g,g2,m,d,S,y,pl,v,bv,G,Y,st,rfl,I,h6,n0,h7,hs,hd,q⟩:=h;erw[#[_,(jd (jy (jZ$ jv$ pv 1) (jd (jA 4 K'.nd$ kf (pv 0) X.cl hB GB hr.m bB .nil bQ$ ja (jv$ pv 1)$ ja (pv 3) jb)$ jg$ jo$ ji$ ja (jq jE (kf (pv 0) X.cl hB GB hr.m bB .nil bQ$ ja (jv$ pv 1)$ ja (pv 3) jb) jf ∅)$ ja (jv$ pv 4) jb) jp)$ jd (jy (jZ$ jv$ pv 1) (jg$ jo$ ji$ ja (jq jE (kf (pv 0) X.cl hB GB hr.m bB .nil bQ$ ja (jv$ pv 1)$ ja (pv 2) jb) jf ∅)$ ja (jv$ pv 3) jb) jp)$ jg$ jo$ ji$ ja (jv$ pv 3) jb),?_]];let b0:=aN;let⟨br,bw,rfl,J,L⟩:=yU I.p;cases hs with
 |lf p l vs e M=>
  let f2:iy (cQ$ ap (fc (db K) (bj 3)$ tC$ vr 1) aY) { nx:=λx H'=>Q V.non H',rt:=Q } [↑i,↑p,δ G,↑br,θ] H:=by erw[(jr J Z #[iT,λr N=>q (.ref r) S _ (jD jc$ jl Z (L.mono$ aa.tm$ je N) jB) (I.c.same$ je N) (aI.of_same$ je N)])]
  cases l with
  |rd x t T |st x t T |wr t u T U |cl x f q2 ts |gv t T=>let⟨rfl,_⟩:=M;erw[(jr e Z #[Z,_,Z,aV NM ?_])];erw[(jr e Z #[Z,_,Z,aV NM ?_])];rwa[f2]
 |ite p t T a b qa qb as bs e h0 M h3 h4 h5=>erw[(jr e Z #[Z,_,Z,cq NM ?_])];let h8:max (max a.dep b.dep+1) 0 < n+1:=hd;let hz:ο d+ο y.w.sets+(a.size+b.size+0+1)<=10000000:=I.sz;let W:=I.ok;erw[ah λF1 f1=>#[_,Z,i,D,_,Z,I.c.ins,Z,jr e Z #[_,Z,i,D,R,qb,g,m,d,S,bs,y,.ref br,Y,b,Z,#[I.c,I.p,I.ng,W.2.2.1,NO],h3,h5,NO,λv1 g1 j H1 p1 n1 O z=>f1 _ _ ?_]]];let B:=I.c.tm z;let lc:=kn m b y d;let cb:=kO b;erw[#[_,Z,i,D,_,Z,O.ins,Z,jr (B _ _ e) Z #[_,Z,i,D,R,qa,g,m,_,j,as,y,.ref br,Y,a,Z,#[O,I.p.but z I.c.fd I.ng,I.ng,W.2.1,NO],B _ _ M,h4.mono B,NO,λv2 g2 c0 H2 p2 n2 c2 k2=>?_]]];let⟨r2,w2,rfl,h',a0⟩:=yU p2;let⟨r1,w1,rfl,k,o⟩:=yU (p1.but k2 O.fd n1);erw[#[r2,_,_,_,Z,Z,aF.of h',Z,jr k Z #[ci,λr N=>q (.ref r) c0 _ (jD jc$ jl Z (a0.mono$ aa.tm$ je N)$ jl Z (o.mono$ aa.tm$ je N) jB) (c2.same$ je N) ((z.trans k2).trans$ aI.of_same$ je N)]]]
 |loop p t T a qa as e h0 M h3=>erw[(jr e Z #[Z,_,Z,aV NM ?_])];erw[(jr e Z #[Z,_,Z,cq NM ?_])];let h8:max (a.dep+1) 0 < n+1:=hd;let hz:ο d+ο y.w.sets+(a.size+0+1)<=10000000:=I.sz;let W:=I.ok;erw[#[_,Z,i,D,_,Z,I.c.ins,Z,jr e Z #[_,Z,i,D,R,qa,g2,m,d,S,as,pl,G,Y,a,Z,#[I.c,h6,n0,W.2.1,by rw[h7];show ο d+0+a.size<=_;omega],M,h3,NO,λv1 g1 j H1 p1 n1 O z=>?_]]];let⟨r1,w1,rfl,k,o⟩:=yU p1;let B:=I.c.tm z;erw[#[r1,_,_,_,Z,Z,aF.of k,Z,jr (B _ _ J) Z #[ci,λr N=>q (.ref r) j _ (jD jc$ jl Z (o.mono$ aa.tm$ je N)$ jl Z ((L.mono B).mono$ aa.tm$ je N) jB) (O.same$ je N) (z.trans$ aI.of_same$ je N)]]]
def x6:am ["self","statement","behind","n","names","place","ways"] z8z (ae BR):=bV
def Iz(F:aU K "place_of_cut" "Cutting.place_of_cut" BR f fd)(y:CK K C)(h7:n<=7)(GW:⇑(4*n+32) fW f0 z24z (Gm C n))(bW:aE K f0 z24z [])(hW:bh K C "ways_of" fW)(cM:‹2› fM f2 ["body"] iH "many_cuts")(cU:‹31› fU f3 z3z (ip 7) "used_ahead_of")(cD:‹1› fD f4 z4z lE "deed_of")(ml:mg "len"=θ)(m0:mg "tuple"=θ):⇑(4*n+33) f fd z8z (Cp C n):=by
 erw[F.ok x6 λc0 A o1 s H vs Q E Y h=>?_]
 let⟨z,L,l,g,m,a,cs,j,v,bv,ys,st,rfl,I,B,hd,hc,q⟩:=h;erw[#[_,(jd (jA 3 x6.nd$ jw zb (jw zb (kW (pv 0) Z)$ jO jL Z ml Pm$ ja (kW (pv 0) Z) jb)$ cM.e Y.m$ ja (ji$ ja (pv 1) jb) jb)$ jd (jA 4 x6.nd$ cU.e Y.m$ ja (pv 1)$ ja (jv$ pv 2) jb)$ jd (jA 5 x6.nd$ ji$ ja (pv 4)$ ja (ji$ ja (ji jb)$ ja (ji$ ja jm$ ja (pv 3) jb) jb) jb)$ jd (jA 6 x6.nd$ kf (pv 0) y.cl hW GW Y.m bW .nil bQ$ ja (pv 1)$ ja (pv 5)$ ja (pv 2) jb)$ jd (jN$ j9 OF OR OQ jQ (kW (pv 0) Z)$ ja (ji$ ja (jI jK Z m0 P'$ ja (pv 4) jb)$ ja (cD.e Y.m$ ja (pv 1) jb)$ ja (pv 6) jb) jb)$ jg$ jo$ pv 5),?_]];let b0:=aN;let⟨br,ss,bw,rfl,h0,hN,h1⟩:=id I.p;let hz:=I.sz;let lc:=I.c.len;erw[ah λF1 i=>#[_,Z,z,C,L,_,_,Z,I.c.ins,y.cl,y.nm,Z,_,Z,z,C,L,_,_,Z,I.c.ins,y.cl,y.nf,Z,l,_,Z,.inl$ aL.of I.c.fd,_,_,Z,Z,_,Z,iT,λu nu=>?_]];let s1:aa H (af H u$ .tup [v]):=je nu;erw[#[u,st,_,Z,jc,(B.mono$ aa.tm s1).bd,NO,λH1 k1=>#[_,_,Z,Z,i _ _ ?_]]];let S:=s1.trans k1;rw[lc];erw[ah λF1 i=>#[_,Z,jr (S _ _ h0) Z #[v,g,st,ss,j.M,ys,Z,B.mono$ aa.tm S,hN.same S,I.ok,NO,NO,λG zs H2 n2 N2 k2=>i _ _ ?_]]];let s3:=S.trans k2;let N:G≠l:=λe=>by rw[e,S _ _ I.c.fd]at n2;cases n2
 erw[ah λF1 i=>#[_,Z,gR,λe ne=>#[_,Z,ci,λU O=>#[ci,λx nx=>#[ci,λr nr=>i _ _ ?_]]]]];let s4:aa H2 (af (af (af (af H2 e$ .tup []) U$ .tup [.str "go",.int$ m - (a.length:Int) - (st.cuts:Int)]) x$ .tup [.ref e,.ref U]) r$ .tup [.ref G,.ref x]):=(((je ne).trans$ je O).trans$ je nx).trans (je nr);let P4:oB (af (af (af (af H2 e$ .tup []) U$ .tup [.str "go",.int$ m - (a.length:Int) - (st.cuts:Int)]) x$ .tup [.ref e,.ref U]) r$ .tup [.ref G,.ref x]) #[st.use j.M,#[[],.go$ m - (a.length:Int) - (st.cuts:Int)]] (.ref r) G ys:=
  #[r,zs,.ref x,Z,jc,N2.same s4,jD (aq jc nr)$ jl Z (jD (aq (aq (aq jc O) nx) nr) jB)$ jl Z (jD (aq (aq jc nx) nr)$ jl Z jS$ jl Z jV jB) jB]
 generalize af (af (af (af H2 e$ .tup []) U$ .tup [.str "go",.int$ m - (a.length:Int) - (st.cuts:Int)]) x$ .tup [.ref e,.ref U]) r (.tup [.ref G,.ref x])=H4 at s4 P4;let R:=s3.trans s4;let c5:=I.c.same R;erw[ah λF1 i=>#[_,Z,z,L,_,Z,c5.ins,Z,_,Z,_,Z,_,Z,z,L,l,g,G,m,a,cs,j,_,v,.ref br,.ref r,ys,st,Z,#[c5,I.p.same R,I.ng,I.ok,I.sz],P4,N,Z,B.mono$ aa.tm R,hd,λwv D H6 w6 c6 k6=>i _ _ ?_]];let t0:=c5.tm k6;let p6:=P4.but k6 c5.fd N;let z6:H6 G=δ (.lst$ zs.map tT):=k6 _ _ N (s4 _ _ N2.at');let ez:=N2.nm.canon;let l6:=c6.len;let lw:(iM m #[st.use j.M,#[[],.go$ m - (a.length:Int) - (st.cuts:Int)]] j a st).2.length+1=ο a+st.cuts:=by let:=kn m st j a;rw[YU B hc m j a,Ot]at this;rwa[this]
 let cl:=kO st;erw[ah λF1 i=>#[_,Z,z,C,L,_,_,Z,c6.ins,y.cl,y.nf,Z,.inl #[Z,_,aL.of c6.fd],_,Z,G,_,Z,.inl #[aL.of z6,λnt n0=>?_]]];let s7:aa H6 (af H6 nt$ .tup$ zs.map tT):=je n0;erw[#[_,Z,v,st,Z,((B.mono$ aa.tm R).mono t0).mono$ aa.tm s7,λd H8 d8 k8=>#[_,Z,gU,λW J=>?_]]];let X:=(s7.trans k8).trans (je (o:=.tup [.ref nt,d,wv]) J);let t:=c6.same X;erw[#[l,D,_,Z,Z,t.fd,NO,i _ _ ?_]];let T9:aS (af H8 W$ .tup [.ref nt,d,wv]) (HK #[st.use j.M,st.deed,(iM m #[st.use j.M,#[[],.go$ m - (a.length:Int) - (st.cuts:Int)]] j a st).1]) (.ref W) []:=by erw[jD jc$ jl Z (jD (aq (k8 _ _ jc) J) ?_)$ jl (HN _) (d8.mono$ aa.tm$ je J)$ jl Z (w6.mono$ aa.tm X) jB];rw[<- ez];rwa[Ye zs]
 let p9:=p6.same X;generalize af H8 W (.tup [.ref nt,d,wv])=H9 at X t T9 p9;let k:aI l H9 (af H9 l$ .lst$ D++[.ref W]):=λb o nb e=>by rw[jh nb];rwa[e]
 let T:=t.tm k;let n1:z≠l:=λe=>by let:=t.ins;rw[e,t.fd]at this;cases this
 erw[#[_,Z,q (.ref r) G (D++[.ref W]) _ ?_ N ?_ (λb o nb e=>k b o nb (X _ _$ k6 b o nb$ R _ _ e))]]
 .rw[YU B hc m j a];rwa[p9.but k t.fd N]
 .rw[YU B hc m j a];erw[#[k _ _ n1 t.ins,jc,?_]];rw[OU];rwa[Kj (jl Z (T9.mono T) jB)$ t.tr.mono T]
inductive BI(C u j s a:ζ)(m:Int)(c:xL Ct)(x:Pc)(f:V)(z:xL ρ)(b:Bd)(y:xL V)(H:Hp)(i:Nat)(A:_L.St)(e:Hp):Prop
 |mk(d t:Bd)(v:V)(g:ζ)(h:xL V)(w:ym V)(k:A=[↑u,↑a,δ f,δ v,w])(l:b=d.app t)(n:eI H d (y.take (ο y - i)))(o:oB e (pB m t x c).1 v g z)(p:g≠s)(q:Cg e C u j s m (pB m t x c).2 h)(r:aI s H e)
theorem Kk(m:Int):∀(b:Bd) (c:Pc) (F:xL Ct),(pB m b c F).2.length+(pB m b c F).1.w.sets.length<=ο F+ο c.w.sets+b.size
 | .nil,_,_=>Ou _
 | .lf p l r,c,F=>by
  let e:=Kk m r c F;show(pL m p l$ pB m r c F).2.length+(pL m p l$ pB m r c F).1.w.sets.length<=ο F+ο c.w.sets+(r.size+1);cases l with
  |st x t T=>have:=Yg x t (pB m r c F).1;show(pB m r c F).2.length+(lB x t (pB m r c F).1).sets.length<=_;omega
  |gv t T=>show(pB m r c F).2.length+0<=_;omega
  |rd x t T |wr t u T U |cl x f a d=>show((pB m r c F).2++[_]).length+0<=_;rw[Ot];show _+1+0<=_;omega
 | .ite p t T x y r,c,F=>by let e:=Kk m r c F;let h:=kO x;let H:=kO y;show((pB m x _ (pB m y _ _).2).2++[_]).length+0<=ο F+ο c.w.sets+(x.size+y.size+r.size+1);rw[Ot,kn m x,kn m y];show _+1+0<=_;omega
 | .loop p t T x r,c,F=>by let e:=Kk m r c F;let h:=kO x;show((pB m x _ _).2++[_]).length+0<=ο F+ο c.w.sets+(x.size+r.size+1);rw[Ot,kn m x];show _+1+0<=_;omega
def MG:am z8z z8z (ae BW):=bV
def IC(F:aU K "place_of" "Cutting.place_of" BW f fd)(ck:CK K C)(GC:⇑(4*n+33) fC D z8z (Cp C n))(bC:aE K D z8z [])(hC:bh K C "place_of_cut" fC)(cG:‹8› fG f0 z0z io "place_of_give")(cS:‹11› fS f1 z3z lK "place_of_set"):⇑(4*n+34) f fd z8z (Gk C n):=by
 erw[F.ok MG λc0 A O s H vs Q E G h=>?_]
 let⟨r,J,fa,g,m,j,z,L,v,B,y,st,rfl,I,M,hd,q⟩:=h;erw[#[_,(jd (jy (jZ$ jv$ pv 1) (jg$ jo$ cG.e G.m$ ja (jv$ pv 1) jb) jp)$ jd (jy (jZ$ jv$ pv 1) (jg$ jo$ cS.e G.m$ ja (pv 1)$ ja (pv 2) jb) jp)$ jg$ jo$ kf (pv 0) ck.cl hC GC G.m bC .nil bQ$ ja (pv 1)$ ja (pv 2) jb),?_]];let hz:=I.sz;let R:=M;let i:st.isCut=μ->iy (yE C "place_of_cut" (Cp C n) [] E0 (bj 0)$ ap (bj 1)$ ap (bj 2) aY) { nx:=λx k=>Q V.non k,rt:=Q } [↑r,δ v,δ B] H:=λhc=>
  #[_,Z,r,J,_,Z,I.c.ins,Z,_,Z,_,Z,r,J,fa,g,m,j,z,L,v,B,y,st,Z,I,M,hd,hc,q]
 cases M with
 |lf p l vs d o=>
  cases l with
  |rd x t T |wr t u T U |cl x f q2 ts=>let⟨rfl,_⟩:=o;erw[(jr d Z #[Z,_,Z,aV NM ?_])];erw[(jr d Z #[Z,_,Z,aV NM ?_])];rwa[i Z]
  |gv t T=>
   let⟨rfl,hT⟩:=o;erw[(jr d Z #[Z,_,Z,cq NM ?_])];let Y:ο y<=21:=by let⟨_,_,_,_,_,hN,_⟩:=I.p;rwa[hN.y20]
   exact(jr d Z #[t,T,y,Z,hT,I.ok.1,Y,λW X k p' N S=>q W X z k p' (λe=>by rw[e,I.c.fd]at N;cases N) (I.c.same S) (aI.of_same S)])
  |st x t T=>let⟨rfl,hT⟩:=o;erw[(jr d Z #[Z,_,Z,aV NM ?_])];erw[(jr d Z #[Z,_,Z,cq NM ?_])];exact#[_,Z,_,Z,.ref p,B,p,t,x,T,L,g,y,Z,R,I.p,I.ok.1.1,I.ok.1.2,NO,λW X k p' N S=>q W X z k p' (λe=>by rw[e,I.c.fd]at N;cases N) (I.c.same S) (aI.of_same S)]
 |ite p t T a b qa qb as bs d h0 o h3 h4 h5 |loop p t T a qa as d h0 o h3=>erw[(jr d Z #[Z,_,Z,aV NM ?_])];erw[(jr d Z #[Z,_,Z,aV NM ?_])];rwa[i Z]
def Cb:am ["self","body","behind","place","statement"] z13z (ae BQ):=bV
def Iy(F:aU K "place_of_body" "Cutting.place_of_body" BQ f fd)(ck:CK K C)(GO:⇑(4*n+34) fO T z8z (Gk C n))(bO:aE K T z8z [])(hO:bh K C "place_of" fO)(R:mg "reversed"=θ):⇑(4*n+35) f fd z13z (oi C$ n+1):=by
 erw[F.ok Cb λc1 A U s H vs Q E hr h=>?_]
 let⟨r,J,V,a,g,m,d,cs,xs,l,L,Y,b,rfl,I,ha,hb,hd,q⟩:=h;erw[#[_,(jd (jA 3 Cb.nd$ pv 2)$ jd (km O8 Z (@xp _ _ _ _ _ _ _ Z R Vn (pv 1) NP NP NK NK) (jx (i:=4) Cb.nd Z$ ω Z)$ jg$ jA 3 Cb.nd$ kf (pv 0) ck.cl hO GO hr.m bO .nil bQ$ ja (pv 4)$ ja (pv 3) jb)$ jg$ jo$ pv 3),?_]];let b0:=aN;let hz:=I.sz;let xl:=hb.len;erw[ah λF1 u=>#[_,Z,u _ _ ?_]];erw[ah λF1 u=>?_];erw[fQ λF kF=>#[_,Z,a,xs,Z,aF.of ha,kF _ _ ?_]];erw[X9 (K:=K) (xs:=xs) (BI C r J V a m d l L Y b xs H) #[b,.nil,L,g,cs,_,Z,(app_nil b).symm,by rw[SQ,Pg];rwa[hb],I.p,I.ng,I.c,aI.refl] (λi σ H' hi h=>?_) ?_ (λσ H' h=>u _ _ ?_)]
 .let⟨_,_,_,_,_,_,_,_,_,_,_,_,k⟩:=h;rwa[aF.of$ I.c.tm k _ _ ha]
 .intro E _ i x σ H2 M fE Gq t h;let⟨pre,gQ,v,W,o,o4,rfl,j,y,X,h4,N,O⟩:=h;let hi:i < ο xs:=by
   rcases Tx i xs.length with z |z
   .rwa[z]
   .rw[Pk (z:)]at M;cases M
  rw[Sv hi]at M;let et:xs.take (ο xs - i)=xs.take (ο xs - (i+1))++[x]:=by
   let D:ο xs - i=(ο xs - 1 - i)+1:=NO
   let e2:ο xs - (i+1)=ο xs - 1 - i:=NO
   rw[D,e2,PQ,M];rfl
  rw[et]at y;rcases y.last with ⟨e,_⟩ | ⟨ws,v',B,S,D,e2,h6,h7⟩
  .rwa[absurd e NN]
  let⟨ew,ev⟩:=VO D Z;cases ev;subst e2;let h0:=zU (j▸I.ok);let G:=zU h0.1;let a1:b.dep=max (B.app S).dep gQ.dep:=by rw[j,zu]
  let a2:(B.app S).dep=max B.dep S.dep:=zu ..;let h8:S.dep<=b.dep:=by rw[a1,a2];rwa[OK (Sx ..)$ SK ..]
  let h':b.size=B.size+S.size+gQ.size:=by rw[j,j7,j7]
  let hl:=kn m gQ l d;let a0:=kO gQ;let a3:=Z8 m gQ l d;let a4:(pB m gQ l d).1.w.sets.length+(pB m gQ l d).2.length+S.size<=10000000:=by let:=Kk m gQ l d;omega
  erw[t ?_];let tm:=I.c.tm O;show eP _ _ E [↑r,↑a,δ L,δ v,δ x] H2;erw[#[_,Z,r,J,_,Z,N.ins,Z,_,Z,_,Z,r,J,V,W,m,_,o,_,x,v,Y,S,Z,#[N,X,h4,G.2,NO],h7.mono tm,NO,λv3 g3 c0 H3 p3 n3 c3 k3=>fE _ _ #[B,S.app gQ,v3,g3,c0,_,Z,by rw[j,app_assoc],?_,by rw[KI];rwa[p3],n3,by rw[KI];rwa[c3],O.trans k3]]];rw[ew];rwa[h6]
 .let⟨pre,gQ,v,W,o,o4,rfl,j,y,X,h4,N,O⟩:=h;rw[Tw]at y;let ep:pre= .nil:=by
   rcases y.last with ⟨_,e⟩ | ⟨ws,v,B,S,D,_⟩
   .rwa[e]
   .rwa[absurd D NN]
  rw[ep]at j;erw[#[_,Z,q v W o H' ?_ h4 ?_ O]]
  .rw[j];rwa[X]
  .rw[j];rwa[N]
def Iu:⇑k f i z13z (oi C 0):=by
 let n:∀v H Q E,¬oi C 0 v H Q E:=λv H Q E h=>by let⟨I,D,F,a,g,m,d,j,x,p,B,y,b,_,_,_,_,e,_⟩:=h;rwa[absurd e$ SJ _]
 exact#[λv H Q E h=>absurd h (n v H Q E),λA o s H c u v Q E _ _ _ _ h=>absurd h (n v H Q E)]
theorem Nf(c:CK K C)(FB:aU K "place_of_body" "Cutting.place_of_body" BQ g f)(F:aU K "place_of" "Cutting.place_of" BW A a)(i:aU K "place_of_cut" "Cutting.place_of_cut" BR D b)(j:aU K "ways_of" "Cutting.ways_of" BZ E d)
  (B:aE K f z13z []) (H:bh K C "place_of_body" g) (k:aE K a z8z []) (l:bh K C "place_of" A) (o:aE K b z8z []) (p:bh K C "place_of_cut" D) (q:aE K d z24z []) (r:bh K C "ways_of" E)
  (s:‹2› T G ["body"] iH "many_cuts") (t:‹31› U I z3z (ip 7) "used_ahead_of") (u:‹1› Y J z4z lE "deed_of") (v:‹8› fG L z0z io "place_of_give") (x:‹11› fS N z3z lK "place_of_set") (y:mg "len"=θ) (m:mg "tuple"=θ) (M:mg "reversed"=θ):
  ∀n:Nat,n<=8->⇑(4*n+31) g f z13z (oi C n)
 |0,_=>Iu
 |n+1,h=>by
  let O:=Nf c FB F i j B H k l o p q r s t u v x y m M n NO;let Q:=ID j c O B H;let R:=Iz i c NO Q q r s t u y m;let S:=IC F c R o p v x;let z:=Iy FB c S k l M;let e:4*n+35=4*(n+1)+31:=NO
  rw[e]at z;rwa[z]
def Z9{X:Cx}{K:β}{n:Nat}(a:X.K=K)(b:X.calm=μ)(h:GV X e t)
  (c:(assignEach e X.env).length=n) (H:(assignEach e X.env).findIdx? (·.1)=θ):PG X (.Tuple e k p) (sX K n t):=by
 subst a;rwa[zR b h c H]
abbrev g3(K:β)(i j k:Nat):TG:=sX K 3 (dZ (bH i)$ dZ (bH j)$ dZ (bH k) vV)
def Mv{t:_L.St}(h:ο t=3):∃a b c,t=[a,b,c]:=by
 cases t with
 |nil=>cases h
 |cons a r=>
  cases r with
  |nil=>cases h
  |cons b R=>
   cases R with
   |nil=>cases h
   |cons c d=>
    cases d with
    |nil=>exact#[a,b,c,Z]
    |cons _ _=>cases h
abbrev xR:bU:=bX 57
abbrev rG:bU:=bX 58
structure Df where
 f:ρ
 p:ζ
 pa:ζ
 pb:ζ
 b:Bd
def CN(H:Hp)(d:Df)(v:V):Prop:=∃B,v= .ref d.p/\H d.p=δ (.tup [.str d.f,.ref d.pa,.ref d.pb])/\H d.pb=δ (.tup B)/\eI H d.b B
inductive dqc(W:V->Prop)(R:xL V->Prop)(a:xL V):Prop|mk(v r:_)(_:a=v::r)(_:W v)(_:R r)
def dq(H:Hp):xL Df->xL V->Prop
 | [],a=>a=[]
 |d::D,a=>dqc (CN H d) (dq H D) a
def CN.mono(k:aj H a)(h:CN H d v):CN a d v:=by let⟨b,e,c,f,g⟩:=h;exact#[b,e,k _ _ c,k _ _ f,g.mono k]
def dq.mono(k:aj H b):∀{a:xL V},dq H D a->dq b D a:=by
 induction D with
 |nil=>exactλh=>h
 |cons d D i=>rintro a ⟨v,r,e,c,f⟩;exact#[v,r,e,c.mono k,i f]
theorem dq.snoc{d:Df}(a:CN H d v):∀{D:xL Df} {b:xL V},dq H D b->dq H (D++[d]) (b++[v])
 | [],_,h=>by let e:_=[]:=h;rw[e];exact#[v,[],Z,a,Z]
 |_::_,_,z=>by let⟨u,r,e,c,f⟩:=z;rwa[#[u,r++[v],by rw[e];rfl,c,dq.snoc a f]]
theorem dq.len:∀{d:xL Df} {v:xL V},dq H d v->ο v=ο d
 | [],_,h=>by let e:_=[]:=h;rw[e];rfl
 |_::_,_,z=>by let⟨u,r,e,b,a⟩:=z;rw[e,O1,O1,dq.len a]
theorem dq.at:∀{D:xL Df} {b:xL V},dq H D b->∀(i:Nat) (v:V),b[i]?=δ v->∃d,D[i]?=δ d/\CN H d v
 | [],_,h,i,v,a=>by let e:_=[]:=h;rw[e]at a;simp at a
 |d::_,_,q,0,v,a=>by let⟨u,r,e,c,f⟩:=q;rw[e]at a;cases a;exact#[d,Z,c]
 |_::D,_,q,i+1,v,a=>by let⟨u,r,e,c,f⟩:=q;rw[e]at a;simpa using dq.at f i v (a:)
def oG(d:Df):Prop:=(∃y:xL ρ,y.length<=20/\d.b.Ok y)/\d.b.dep < 8/\d.b.size<=3000
def My(n:ζ):Pc:=#[λx=>x∈(Tm.num 0).vars,#[[],.give n]]
def iP(n:ζ)(d:Df):Pc×xL Ct:=pB (d.b.cuts:Int) d.b (My n) []
def gG(n:ζ)(d:Df):Tr:=ay [aM d.f,uo d.pa,iU (iP n d).1.w,ay ((iP n d).2.reverse.map HK)]
def oJ(K:β)(n:ζ):Prop:=∀H:Hp,aF K H n [.str "num",.int 0]
inductive rV(C:ζ)(f:xL V)(H:Hp)(Q:VK)(c:XK):Prop
 |mk(e d a:ζ)(b:Bd)(g:xL V)(_:f=[.ref e,.ref a])(_:H e=δ (.ins C d []))(_:H a=δ (.tup g))(_:eI H b g)(_:b.size<=10000000)(_:∀(fa:ζ) (H':Hp),H fa=θ->Cg H' C e d fa (b.cuts:Int) [] []->aI e H H'->Q .non H')
inductive nj(K:β)(c:ζ)(e:xL V)(H:Hp)(Q:VK)(a:XK):Prop
 |mk(d:Df)(b:xL V)(_:e=[.str d.f,.ref d.pa,.ref d.pb])(_:H d.pb=δ (.tup b))(_:eI H d.b b)(_:oG d)(_:∀(v:V) (H':Hp),aS H' (gG c d) v []->aa H H'->Q v H')
inductive nh(K:β)(e:ζ)(f:xL V)(H:Hp)(Q:VK)(b:XK):Prop
 |mk(a:ζ)(c:xL Df)(g:xL V)(_:f=[.ref a])(_:H a=δ (.tup g))(_:dq H c g)(_:ο c<=1000)(_:∀d∈c,oG d)(_:∀(v:V) (H':Hp),aS H' (ay (c.map (gG e))) v []->aa H H'->Q v H')
def sO{K:β}{t:TE}{Q:xL V->Hp->Prop}{H:Hp}(x:H a=δ (.tup g))(u:dq H D g)(R:ο D<=1000)
  (Pv:Nat->xL V->Hp->Prop) (z:Pv 0 [] H) (A:∀i Y h,Pv i Y h->aa H h/\ο Y<=i)
  (C:∀i d B Y h,D[i]?=δ d->h d.pb=δ (.tup B)->eI h d.b B->Pv i Y h->t (δ (.str d.f)::δ (.ref d.pa)::δ (.ref d.pb)::l) h λy j=>Pv (i+1) (Y++[y]) j)
  (E:∀Y h,Pv D.length Y h->Q Y h):eZ (Ai K a) 3 l (g3 K 0 1 2) nq t Q H:=by
 let F:=aN;let S:=u.len;erw[#[λi m Y h=>m=ο D - i/\i<=ο D/\Pv i Y h,#[D.length,NN,OA _,z],?_]];intro i m Y h c;let⟨rfl,T,p⟩:=c;let⟨s,U⟩:=A i Y h p;let c:aF K h a g:=aF.of (s _ _ x);by_cases n:i < ο D
 .let I:i < ο g:=by omega
  erw[.inr #[#[g,g[i],c,On I],NO,Pv$ i+1,λJ j L=>#[ο D - (i+1),NO,Z,n,L],λv j W o y=>?_]];let⟨e,y⟩:=y;subst e;let q:=y g c;let⟨d,r,B,rfl,M,N,O⟩:=(u.mono$ aa.tm s).at i v q;let⟨X,t2,t3,rfl⟩:=Mv o;erw[#[d.p,_,Z,aF.of M,Z,_,_,Z,_,_,Z,_,_,Z,Z,#[[δ _,δ _,δ _],Z,Z],?_]];rwa[C i d B Y j r N O p]
 .let e:i=ο D:=by omega
  subst e;rwa[.inl #[#[g,c,NO],E Y h p]]
def I0:am ["self","body"] ["self","body"] (ae xN):=bV
def EU(F:aU K "__init__" "Cutting.__init__" xN f t)(d:CK K C)(u:‹2› M v ["body"] iH "many_cuts"):⇑3 f t ["self","body"] (rV C):=by
 erw[F.ok I0 λy A O s H V Q E B h=>?_]
 let⟨i,D,a,b,x,rfl,G,I,J,L,q⟩:=h;erw[#[_,(jd (@qx _ _ _ _ _ _ _ _ (pv 0) (u.e B.m$ ja (pv 1) jb) Z)$ jg$ @qx _ _ _ _ _ _ _ _ (pv 0) (jF jb) Z),?_]];erw[ah λS l=>#[_,Z,a,b,x,Z,I,J,L,λT k=>#[_,Z,i,C,D,_,Z,k _ _ G,d.cl,d.nm,NP,l _ _ ?_]]];erw[#[gR,λg n=>#[_,Z,i,C,D,_,Z,aq jc n,d.cl,d.nf,(by show 1 < 1000;decide),?_]]];let N:g≠i:=λe=>by rw[e,jc]at n;cases n
 let p:H g=θ:=by
  cases e:H g with
  |none=>rfl
  |some o=>rw[jh N,k _ _ e]at n;cases n
 erw[q g _ p #[jc,by rw[jh N,jc],Z] λc o r e=>?_];rw[jh r,jh (λz=>by rw[z,p]at e;cases e),jh r];rwa[k _ _ e]
def pw:am ["name","params","body","cutting","first"] z22z (ae xR):=bV
def Bo(F:xD K "part_made" xR f fd)(t:CK K C)(mk:Mk K C fI)(GI:⇑3 fI u ["self","body"] (rV C))(bI:aE K u ["self","body"] [])(mC:mg "Cutting"=↑C)(M:mg "NOUGHT"=↑n)(no:oJ K n)(GB:⇑63 fB x z13z (oi C 8))(bB:aE K x z13z [])(hB:bh K C "place_of_body" fB)(cG:‹8› fG f0 z0z (rZ K) "place_of_give")(y:mg "tuple"=θ)(z:mg "reversed"=θ):⇑64 f fd z22z (nj K n):=by
 erw[F.ok pw λc0 A O s H vs Q E B h=>?_]
 let⟨d,G,rfl,hb,a,I,q⟩:=h;erw[#[_,(jd (jA 3 pw.nd$ Xv mk GI B.m Z mC bI .nil bQ$ ja (pv 2) jb)$ jd (jA 4 pw.nd$ kf (pv 3) t.cl hB GB B.m bB .nil bQ$ ja (pv 2)$ ja (cG.e B.m$ ja (Je (v:=.ref n) Z M Z) jb) jb)$ jg$ jo$ ji$ ja (pv 0)$ ja (pv 1)$ ja (jv$ pv 4)$ ja (@uj _ _ _ _ _ _ _ _ _ Z Z y P' Z z Vn (kW (pv 3) Z) NP NP NP NP NK NK NK NK) jb),?_]];let b0:=aN;obtain⟨⟨ys,y0,ok⟩,J,hz⟩:=I;erw[ah λF1 j=>#[_,Z,λi D N L n0=>?_]];let S:aa H (af (af H D$ .own i) i$ .ins C D []):=λc o e=>by rw[jh$ jk e N,jh$ jk e L];rwa[e]
 erw[#[i,D,d.pb,d.b,G,Z,jc,S _ _ hb,a.mono$ aa.tm S,NO,λp H1 nf R k1=>#[Z,j _ _ ?_]]];let s1:aa H H1:=λc o e=>k1 c o (jk e N) (S _ _ e);let T:H p=θ:=S.free nf;erw[ah λF1 j=>#[_,Z,i,D,_,Z,R.ins,Z,_,Z,n,ys,Z,no _,NO,λv g H2 p2 n2 k2=>?_]];let ng:g≠p:=λe=>by rw[e,R.fd]at n2;cases n2
 let U:=s1.trans k2;erw[#[i,D,p,d.pb,g,_,[],[],G,My n,v,ys,d.b,Z,#[R.same k2,p2,ng,ok,by show 0+0+d.b.size<=_;omega],U _ _ hb,a.mono$ aa.tm U,J,λv3 g3 k V p3 n3 W k3=>j _ _ ?_]];let⟨r3,w3,rfl,X,Y⟩:=yU p3;let s3:aa H V:=λc o e=>k3 c o (jk e T) (U _ _ e);erw[#[_,Z,_,Z,jr X Z #[_,Z,i,C,D,_,_,Z,W.ins,t.cl,t.nf,Z,p,k,Z,aL.of W.fd,λl nl=>#[oF,λr nr=>?_]]]];let s5:aa V (af (af V l$ .tup k.reverse) r$ .tup [.str d.f,.ref d.pa,w3,.ref l]):=(je nl).trans (je nr);erw[q (.ref r) _ ?_$ s3.trans s5];erw[jD jc$ jl Z jS$ jl Z JJ$ jl Z (Y.mono$ aa.tm s5)$ jl Z (jD (aq jc nr) ?_) jB];let e:=Z7 (W.tr.mono$ aa.tm s5);rw[<- List.map_reverse]at e;rwa[e]
def Gb:am ["program"] ["program"] (ae rG):=bV
def yn:ic:=#[.function,[(".0",.local),("name",.local),("params",.local),("body",.local),("part_made",.globalImplicit)],ν,ν,[]]
def wF:(z22z:xL ρ).Nodup:=NM
def Hw:bn ["program"] (ae rG) yn z22z 3 []:=oQ
def Bl(F:xD K "made" rG f p)(C:‹64› U t z22z (nj K N) "part_made")(M:mg "tuple"=θ):⇑65 f p ["program"] (nh K N):=by
 erw[F.ok Gb λu A o s H V Q E x h=>?_]
 let⟨a,D,X,rfl,g,y,B,O,q⟩:=h;erw[#[_,(jg$ jo$ jI jK Z M P'$ ja (@zk _ _ _ _ _ _ _ (z22z) (3) ([]) _ _ _ _ Z (qw$ pv 0) Hw (λ_ _ _ _ _=>(Z9 (K:=K) (n:=3) Z Z (jC (jx (i:=0) wF Z$ ω Z)$ jC (jx (i:=1) wF Z$ ω Z)$ jC (jx (i:=2) wF Z$ ω Z) kB) Z Z)) (λ_ _ _ _ _=>(@zF _)) (λ_ _ _ _ _=>(C.e x.m$ ja (pv 0)$ ja (pv 1)$ ja (pv 2) jb)) Cv) jb),?_]];erw[#[_,Z,a,Z,#[_,aF.of g],?_]];erw[sO g y B (λi V b=>aS b (aC ((D.take i).map$ gG N)) .non V/\aa H b/\i<=ο D) #[Z,aa.refl _,OA _] (λi V b h=>#[h.2.1,?_]) (λi d G V b c I J h=>?_) (λV b h l L=>?_)]
 .rw[zn h.1,Oq,OZ];rwa[TJ ..]
 .let R:i < ο D:=by
   rcases Tx i D.length with z |z
   .rwa[z]
   .rw[Pk z]at c;cases c
  erw[#[_,Z,_,Z,_,Z,d,G,Z,I,J,O d$ OX c,λv Y T j=>#[?_,h.2.1.trans j,R]]];rw[PQ,c,OU];rwa[Kj (jl Z T jB)$ h.1.mono$ aa.tm j]
 .erw[#[l,V,Z,.inl #[aL.of jc,λr S=>?_]]];let s:aa b (af (af b l$ .lst V) r$ .tup V):=(je L).trans (je S);erw[q (.ref r) _ (jD jc ?_)$ h.2.1.trans s];let e:=h.1;rw[Pg]at e;rwa[e.mono$ aa.tm s]
abbrev xT:bU:=bX 65
abbrev xU:bU:=bX 66
abbrev rE:bU:=bX 67
def aR(p q:ζ)(H h:Hp):Prop:=∀b o,b≠p->b≠q->H b=δ o->h b=δ o
def aR.refl:aR p q H H:=λ_ _ _ _ h=>h
def aR.trans(a:aR p q H d)(b:aR p q d e):aR p q H e:=λc o n m h=>b c o n m (a c o n m h)
def aI.two(a:aI p H b):aR p q H b:=λc o n _ h=>a c o n h
def aR.of_same(a:aa H b):aR p q H b:=λc o _ _ h=>a c o h
def aR.at:aR p q H (af H q o):=λb u _ m e=>by rw[jh m];rwa[e]
def eE(H:Hp)(q:ζ):Prop:=∃k:Int,H q=δ (.lst [.int k])
def eE.new{o:HO}(h:eE H q)(n:H r=θ):eE (af H r o) q:=by let⟨k,e⟩:=h;rwa[#[k,aq e n]]
def eE.ne(h:eE H q)(B:au H p):q≠p:=by let⟨k,e⟩:=h;let⟨a,b,_,_,_,d⟩:=B.ob;rwa[jM e d BT]
def eE.but(h:eE H q)(B:au H p)(k:aI p H a):eE a q:=by let n:=h.ne B;let⟨z,e⟩:=h;exact#[z,k _ _ n e]
def aR.tm{p:ζ}{H H':Hp}(k:aR p q H H')(B:au H p)(s:eE H q):aj H H':=λb x e=>by let⟨a,c,_,_,_,h⟩:=B.ob;let⟨z,f⟩:=s;rwa[k b _ (jM e h (by intro w;cases w)) (jM e f (by intro w;cases w)) e]
def iE(H:Hp)(q:ζ):Int:=match H q with
 |some (.lst [.int k])=>k
 |_=>0
def JK{H:Hp}(e:H q=δ (.lst [.int k])):iE H q=k:=by unfold iE;rw[e]
def YV{h:Hp}(s:eE H q)(k:∀o,H q=δ o->h q=δ o):iE h q=iE H q:=by let⟨z,e⟩:=s;rw[JK e,JK$ k _ e]
def kH(B:au H p)(s:eE H q)(k:aI p H h):iE h q=iE H q:=YV s λo e=>k _ _ (s.ne B) e
def kr(s:eE H q)(k:aa H h):iE h q=iE H q:=YV s λo e=>k _ _ e
def LB(H:Hp)(c:ρ×xL ρ)(v:V):Prop:=∃p t,v= .ref p/\H p=δ (.tup [.str c.1,.ref t])/\H t=δ (.tup$ c.2.map tT)
def eU(H:Hp):xL (ρ×xL ρ)->xL V->Prop
 | [],a=>a=[]
 |c::C,a=>dqc (LB H c) (eU H C) a
theorem eU.mono(k:aj H b):∀{c:xL (ρ×xL ρ)} {a:xL V},eU H c a->eU b c a
 | [],_,h=>h
 |_::_,_,z=>by obtain⟨v,r,e,⟨p,t,E,d,f⟩,g⟩:=z;rwa[#[v,r,e,#[p,t,E,k _ _ d,k _ _ f],eU.mono k g]]
theorem eU.snoc(a:LB H c v):∀{C:xL (ρ×xL ρ)} {b:xL V},eU H C b->eU H (C++[c]) (b++[v])
 | [],_,h=>by let e:_=[]:=h;rw[e];exact#[v,[],Z,a,Z]
 |_::_,_,z=>by let⟨u,r,e,d,f⟩:=z;rwa[#[u,r++[v],by rw[e];rfl,d,eU.snoc a f]]
theorem eU.len:∀{c:xL (ρ×xL ρ)} {v:xL V},eU H c v->ο v=ο c
 | [],_,h=>by let e:_=[]:=h;rw[e];rfl
 |_::_,_,z=>by let⟨u,r,e,b,a⟩:=z;rw[e,O1,O1,eU.len a]
theorem eU.at:∀{C:xL (ρ×xL ρ)} {b:xL V},eU H C b->∀(i:Nat) (v:V),b[i]?=δ v->∃c,C[i]?=δ c/\LB H c v
 | [],_,h,i,v,a=>by let e:_=[]:=h;rw[e]at a;simp at a
 |c::_,_,q,0,v,a=>by let⟨u,r,e,d,f⟩:=q;rw[e]at a;cases a;exact#[c,Z,d]
 |_::C,_,q,i+1,v,a=>by let⟨u,r,e,d,f⟩:=q;rw[e]at a;simpa using eU.at f i v (a:)
def FK(h:eU H C a)(i:0<=k)(j:k < (a.length:Int)):∃v c,eV a k=δ v/\c∈C/\LB H c v:=by
 let b:k.toNat < ο a:=NO
 let d:k=((k.toNat:Nat):Int):=NO
 let E:a[k.toNat]?=δ a[k.toNat]:=On b;let e:eV a ((k.toNat:Nat):Int)=δ a[k.toNat]:=jH E;rw[<- d]at e;let⟨c,f,g⟩:=h.at _ _ E;exact#[_,c,e,OX f,g]
def Bd.fit(h:xL (ρ×xL ρ))(y:xL ρ)(d:Nat)(b:Bd):Prop:=(b.Ok y/\b.Cs (h.map λc=>(c.1,c.2.length)))/\b.dep<=d
def pM:Bd.fit h y d .nil:=#[#[trivial,trivial],OA _]
def Ec{H:xL (ρ×xL ρ)}{l:Lf}(h:l.Ok y)(k:l.Cs (H.map λc=>(c.1,c.2.length))):Bd.fit H y d (.lf p l .nil):=#[#[#[h,trivial],k,trivial],OA _]
def pK{a b:Bd}(h:a.fit H y d)(k:b.fit H y d):(a.app b).fit H y d:=#[#[KH h.1.1 k.1.1,KG h.1.2 k.1.2],by rw[zu];let:=h.2;let:=k.2;omega]
def AM{a b:Bd}(c:dW y T)(h:a.fit H y d)(k:b.fit H y d):Bd.fit H y (d+1) (.ite p t T a b .nil):=#[#[#[c,h.1.1,k.1.1,trivial],h.1.2,k.1.2,trivial],by show max (max a.dep b.dep+1) 0<=d+1;let:=h.2;let:=k.2;omega]
def vN{a:Bd}(H:dW y T)(h:a.fit b y d):Bd.fit b y (d+1) (.loop p t T a .nil):=#[#[#[H,h.1.1,trivial],h.1.2,trivial],by show max (a.dep+1) 0<=d+1;let:=h.2;omega]
def Nj:Nat->Nat
 |0=>1
 |d+1=>1+2*(5*Nj d)
inductive lM(b:xL V)(H:Hp)(Q:VK)(a:XK):Prop
 |mk(p g:ζ)(c:xL ρ)(_:b=[.ref p,.ref g])(_:au H p)(_:H g=δ (.lst (c.map tT)))(_:1<=ο c)(_:c.length<=20)(_:∀(r:ζ) (T:Tm) (H':Hp),bJ H' T r->dW c T->au H' p->aI p H H'->Q (.ref r) H')
structure oA(H:Hp)(p g h sp:ζ)(ys:xL ρ)(hs:xL (ρ×xL ρ)):Prop where
 B:au H p
 g:H g=δ (.lst$ ys.map tT)
 y1:1<=ο ys
 y2:ys.length<=20
 h:∃hv,H h=δ (.lst hv)/\eU H hs hv
 h1:1<=ο hs
 h2:hs.length<=20
 h3:∀c∈hs,ο c.2<=6
 s:eE H sp
def oA.gsp{H:Hp}{p g h S:ζ}{y:xL ρ}{b:xL (ρ×xL ρ)}(G:oA H p g h S y b):g≠S:=by
 let⟨k,e⟩:=G.s;erw[jM G.g e λz=>?_];injection z with z;let c:=G.y1
 match y,c,z with
 |a::r,_,z=>injection z with d _;cases d
def oA.hsp{H:Hp}{p g h S:ζ}{y:xL ρ}{f:xL (ρ×xL ρ)}(G:oA H p g h S y f):h≠S/\h≠p:=by
 let⟨k,e⟩:=G.s;let⟨j,E,l⟩:=G.h;let⟨a,b,_,_,_,m⟩:=G.B.ob;let n:=G.h1;let:∃q r,j= .ref q::r:=by
  match f,n,l with
  |c::C,_,#[v,r,e,#[q,t,o,_],_]=>exact#[q,r,by rw[e,o]]
 let⟨q,r,rfl⟩:=this;erw[#[jM E e λz=>?_,jM E m λz=>?_]]
 .injection z with z;injection z with d _;cases d
 .injection z with z;injection z with d _;cases d
def oA.but2{H a:Hp}{p g h S:ζ}{y:xL ρ}{b:xL (ρ×xL ρ)}(G:oA H p g h S y b)(B:au a p)(s:eE a S)(k:aR p S H a):oA a p g h S y b:=by let⟨c,e,E⟩:=G.h;exact#[B,k _ _ (qy G.B G.g) G.gsp G.g,G.y1,G.y2,#[c,k _ _ G.hsp.2 G.hsp.1 e,E.mono$ k.tm G.B G.s],G.h1,G.h2,G.h3,s]
def oA.but{H a:Hp}{p g h S:ζ}{y:xL ρ}{b:xL (ρ×xL ρ)}(G:oA H p g h S y b)(B:au a p)(k:aI p H a):oA a p g h S y b:=G.but2 B (G.s.but G.B k) k.two
inductive mn(n:Nat)(f:xL V)(H:Hp)(Q:VK)(a:XK):Prop
 |mk(p g h e:ζ)(d:Nat)(i:xL ρ)(c:xL (ρ×xL ρ))(_:f=[.ref p,.ref g,.ref h,.ref e,.int (d:Int)])(_:oA H p g h e i c)(_:d < n)(_:0 < iE H e)(_:∀(r:ζ) (b:Bd) (H':Hp),eI H' b [.ref r]->(b.size:Int)+iE H' e<=iE H e->0<=iE H' e->b.fit c i d->au H' p->eE H' e->aR p e H H'->Q (.ref r) H')
inductive iG(n:Nat)(f:xL V)(H:Hp)(Q:VK)(a:XK):Prop
 |mk(p g h e:ζ)(d:Nat)(i:xL ρ)(c:xL (ρ×xL ρ))(_:f=[.ref p,.ref g,.ref h,.ref e,.int (d:Int)])(_:oA H p g h e i c)(_:d < n)(_:0<=iE H e)(_:∀(r:ζ) (b:Bd) (bs:xL V) (H':Hp),H' r=δ (.tup bs)->eI H' b bs->(b.size:Int)+iE H' e<=iE H e->0<=iE H' e->b.fit c i d->au H' p->eE H' e->aR p e H H'->Q (.ref r) H')
def yj:am ["_law_box_here","_law_names_here","_law_kind"] z29z (ae xT):=bV
def Bq(F:xD K "_law_spot" xT f M)(C:‹1› Y N z1z bo "_law_take")(O:‹6› fM R z12z (dB 4) "_law_term"):⇑7 f M z29z lM:=by
 erw[F.ok yj λS A o s H vs Q E a h=>?_]
 let⟨p,g,y,rfl,B,I,i,j,q⟩:=h;erw[#[_,(jd (jA 2 yj.nd$ C.e a.m$ ja (pv 0)$ ja jf jb)$ jd (jy (jz QN (pv 2) jf$ aD _) (jg$ jo$ O.e a$ ja (pv 0)$ ja (pv 1)$ ja jf jb) jp)$ jd (jy (zo$ pv 2) (jg$ jo$ ji$ ja jm$ ja (jw zb (jw zb (jw KB jf jf) jf)$ C.e a.m$ ja (pv 0)$ ja jf jb) jb) jp)$ jg$ jo$ ji$ ja jm$ ja (C.e a.m$ ja (pv 0)$ ja jf jb) jb),?_]];let k:g≠p:=qy B I;erw[#[_,Z,p,8,Z,B,NP,NP,λkd J k0 k1 l L=>?_]];let t:J g=δ (.lst$ y.map tT):=by rw[L g k];rwa[I]
 let u:aI p H J:=aI.of_eq L;erw[#[_,Z,_,_,Z,Z,_,Z,?_]];erw[cw (λc=>?_) (λc=>?_)]
 .exact#[_,Z,_,Z,p,g,1,y,Z,l,t,i,j,NP,NP,λr T v U dT W b X=>q r T v U #[W,NO] b (u.trans X)]
 erw[#[_,Z,Z,_,Z,?_]];erw[cw (λc=>?_) (λc=>?_)]
 .erw[#[_,_,Z,Z,#[NP,NP,NP],_,_,Z,Z,_,Z,p,4,Z,l,NP,NP,λD v d x b z=>#[_,_,Z,Z,ci,λr n=>?_]]];rwa[q r (.num (1000000000000000000 - 1 - D)) _ jc #[#[NO,NO],(by show 0 < 6;decide)] (b.upd_new n) ((u.trans$ aI.of_eq z).upd_new n)]
 .erw[#[_,Z,p,12,Z,l,NP,NP,λD v d x b z=>#[ci,λr n=>?_]]];rwa[q r (.num D) _ jc #[#[d,NO],(by show 0 < 6;decide)] (b.upd_new n) ((u.trans$ aI.of_eq z).upd_new n)]
def mh:am z42z z6z (ae xU):=bV
def uE:ic:=#[.function,[(".0",.local),("_law_one",.local),("_law_term",.globalImplicit),("_law_box_here",.free),("_law_names_here",.free)],ν,ν,[]]
def EB:(z37z:xL ρ).Nodup:=NM
def D4:bn z42z (ae xU) uE z37z 1 [0,1]:=oQ
def RH(p g h s:ζ)(d:Nat)(k:Int)(y:ρ)(H:Hp)(a:_L.St)(b:Hp):Prop:=a=[↑p,↑g,↑h,↑s,δ$ .int (d:Int),δ$ .int k,δ$ .str y,θ,θ,θ]/\b=H
def Fe(F:xD K "_law_statement" xU f fd)(cT:‹1› fT f0 z1z bo "_law_take")(cM:‹6› fM f3 z12z (dB 4) "_law_term")(cP:‹7› fP f4 z29z lM "_law_spot"){L:Nat}(cB:‹L+9› fB f5 z6z (iG n) "_law_body")(ml:mg "len"=θ)(m0:mg "tuple"=θ):⇑(L+10) f fd z6z (mn$ n+1):=by
 erw[F.ok mh λc3 A o2 s H vs Q E R h=>?_]
 symm;let⟨p,g,h,S,d,ys,hs,rfl,G0,hd,b5,q⟩:=h;erw[#[_,(jd (jA 5 mh.nd$ cT.e R.m$ ja (pv 0)$ ja jf jb)$ jd (jA 6 mh.nd$ jq ju (pv 1) (cT.e R.m$ ja (pv 0)$ ja (jO jL Z ml Pm$ ja (pv 1) jb) jb) ∅)$ jd (kS (jw zb (jq ju (pv 3) jf ∅) jf)$ zS (pv 3) jf kM)$ jd (jy (jz QN (pv 5) jf$ aD _) (jg$ jo$ ji$ ja jm$ ja (pv 6)$ ja (cP.e R.m$ ja (pv 0)$ ja (pv 1) jb) jb) jp)$ jd (jy (PW.pt$ QL (zo$ pv 5)$ JI$ zo$ pv 5) (jg$ jo$ ji$ ja jm$ ja (cP.e R.m$ ja (pv 0)$ ja (pv 1) jb)$ ja (cM.e R.m$ ja (pv 0)$ ja (pv 1)$ ja jf jb) jb) jp)$ jd (jy (PW.pt$ QL (zo$ pv 5)$ JI$ zo$ pv 5) (jd (kS (jq ju (pv 2) (cT.e R.m$ ja (pv 0)$ ja (jO jL Z ml Pm$ ja (pv 2) jb) jb) ∅)$ zR (n:=2) Z$ jC (jx (i:=7) mh.nd Z$ ω Z)$ jC (jx (i:=8) mh.nd Z$ ω Z) kB)$ jg$ jo$ ji$ ja jm$ ja (pv 6)$ ja (pv 7)$ ja (jI jK Z m0 P'$ ja (@zk _ _ _ _ _ _ _ (z37z) (1) ([0,1]) _ _ _ _ Z (qw$ pv 8) D4 (λ_ _ _ _ _=>(jx (i:=0) EB Z$ ω Z)) (λ_ _ _ _ _=>(@zF _)) (λ_ _ _ _ _=>(cM.e R.m$ ja (pv 1)$ ja (pv 2)$ ja jf jb)) Cv) jb) jb) jp)$ jd (j6$ jy (PW.pt$ qv (zo$ pv 5)$ zN$ jz qt (pv 4) jf$ aD _) (jd (jA 9 mh.nd$ cB.e R$ ja (pv 0)$ ja (pv 1)$ ja (pv 2)$ ja (pv 3)$ ja (jw zb (pv 4) jf) jb)$ jg$ jo$ ji$ ja jm$ ja (cM.e R.m$ ja (pv 0)$ ja (pv 1)$ ja jf jb)$ ja (pv 9)$ ja (cB.e R$ ja (pv 0)$ ja (pv 1)$ ja (pv 2)$ ja (pv 3)$ ja (jw zb (pv 4) jf) jb) jb) jp)$ jd (j6$ jy (PW.pt$ qv (zo$ pv 5)$ zN$ jz qt (pv 4) jf$ aD _) (jg$ jo$ ji$ ja jm$ ja (cM.e R.m$ ja (pv 0)$ ja (pv 1)$ ja jf jb)$ ja (cB.e R$ ja (pv 0)$ ja (pv 1)$ ja (pv 2)$ ja (pv 3)$ ja (jw zb (pv 4) jf) jb) jb) jp)$ jd (jy (zo$ pv 5) (jg$ jo$ ji$ ja jm$ ja (cM.e R.m$ ja (pv 0)$ ja (pv 1)$ ja jf jb) jb) jp)$ jg$ jo$ ji$ ja jm$ ja (pv 6)$ ja (cM.e R.m$ ja (pv 0)$ ja (pv 1)$ ja jf jb) jb),?_]];let b7:=aN;let B:=G0.B;let b8:g≠p:=qy B G0.g;sleep 9;erw[ah λF1 o=>#[_,Z,p,10,Z,B,NP,NP,λkd H1 k0 k1 B1 e1=>o _ _ ?_]];left;let G1:=G0.but B1 (aI.of_eq e1);let y1:=G0.y1;let y2:=G0.y2;erw[ah λF1 o=>#[_,Z,_,Z,_,Z,g,_,Z,.inl$ aL.of G1.g,p,_,Z,B1,by rw[Oq];omega,by rw[Oq];omega,λd2 H2 d1 d0 B2 e2=>?_]];rw[Oq]at d0;let G2:=G1.but B2 (aI.of_eq e2);symm;let⟨y,hy,a2⟩:=KF (ys:=ys) d1 d0;erw[#[g,_,_,_,Z,Z,aL.of G2.g,a2,o _ _ ?_]];left;symm;let⟨k,hk⟩:=G2.s;let ek:iE H S=k:=((kH B1 G1.s$ aI.of_eq e2).trans$ kH B G0.s$ aI.of_eq e1).symm.trans (JK hk);erw[ah λF1 o=>#[_,Z,S,_,_,_,Z,Z,aL.of hk,Z,_,_,Z,Z,_,Z,S,_,_,0,Z,Z,hk,Z,o _ _ ?_]];left;let s0:=G2.s.ne B2;let B3:au (af H2 S$ .lst ([.int k].set 0 (.int$ k - 1))) p:=B2.eq (jh$ O3 s0);let s3:eE (af H2 S$ .lst ([.int k].set 0 (.int$ k - 1))) S:=#[k - 1,jc];let K3:aR p S H (af H2 S$ .lst ([.int k].set 0 (.int$ k - 1))):=((aI.of_eq e1).trans$ aI.of_eq e2).two.trans aR.at;let G:=G0.but2 B3 s3 K3;let e3:iE (af H2 S$ .lst ([.int k].set 0 (.int$ k - 1))) S=k - 1:=JK jc;generalize af H2 S (.lst ([.int k].set 0 (.int$ k - 1)))=H3 at B3 s3 K3 G e3;let l0:∀(l:Lf) (zs:xL V) (j:Hp) (r:ζ),Aj j l zs->l.Ok ys->l.Cs (hs.map λc=>(c.1,c.2.length))->oA j p g h S ys hs->aR p S H j->iE j S=k - 1->j r=θ->Q (.ref r) (af j r$ .tup zs):=λl zs j r hl ok cs u K4 e4 nr=>
  q r (.lf r l .nil) _ #[zs,[],Z,jc,hl.mono$ aa.tm$ je nr,Z] (by rw[kr u.s$ je nr];show((0+1:Nat):Int)+_<=_;omega) (by rw[kr u.s$ je nr];omega) (Ec ok cs) (u.B.upd_new nr) (u.s.new nr) (K4.trans$ aR.of_same$ je nr)
 erw[ah λF1 o=>pU λG' C=>#[_,Z,_,_,Z,Z,_,Z,C _ _ ?_]];erw[cw (λc=>?_) (λc=>o _ _ ?_)]
 .erw[#[_,Z,_,Z,_,Z,p,g,ys,Z,G.B,G.g,y1,y2,λr T j U oT B4 J=>#[gU,λt N=>?_]]];rwa[l0 (.rd y r T) _ j t #[Z,U] #[hy,oT] trivial (G.but B4 J) (K3.trans J.two) ((kH G.B G.s J).trans e3) N]
 let wr:∀(r:ζ) (T0:Tm) (j:Hp),bJ j T0 r->dW ys T0->au j p->aI p H3 j->fb (dB 4) [] E0 (ap (bj 0)$ ap (bj 1)$ ap (tC$ .int 2) aY) [↑p,↑g,↑h,↑S,δ$ .int (d:Int),δ$ .int kd,δ$ .str y,θ,θ,θ] j (λv D=>3<=τ/\∀t,D t=θ->Q (.ref t) (af D t$ .tup [.str "write",.ref r,v])):=λr T0 j h4 o1 B4 J=>by erw[#[_,Z,_,Z,p,g,2,ys,Z,B4,(G.but B4 J).g,y1,y2,NP,NP,λW T D U dT gT O a=>#[NP,λt N=>?_]]];rwa[l0 (.wr r W T0 T) _ D t #[Z,h4.but B4 a,U] #[o1,gT,NO] trivial (G.but O$ J.trans a) (K3.trans (J.trans a).two) ((kH G.B G.s$ J.trans a).trans e3) N]
 erw[ah λF1 o=>pU λG' C=>?_];let Y:G' μ H3:=C _ _ (nO #[_,Z,_,Z,p,g,ys,Z,G.B,G.g,y1,y2,λr T0 j h4 o1 B4 J=>wr r T0 j h4 o1 B4 J]);erw[#[_,Z,Z,_,Z,cw (λc=>Y) (λc=>#[_,Z,Z,_,Z,CV Y λc2=>C _ _ (aV c2$ o _ _ ?_)])]];symm;let⟨hv,hh,hH⟩:=G.h;let hl:=hH.len;let h1:=G0.h1;let h2:=G0.h2;let c1:∀(f':ρ) (ps:xL ρ) (h':(f',ps.length)∈hs.map λc=>(c.1,c.2.length)) (t:ζ) (j:Hp),oA j p g h S ys hs->aR p S H j->iE j S=k - 1->j t=δ (.tup$ ps.map tT)->ο ps<=6->
   eZ (Ai K t) 1 [↑p,↑g] (bH 0) nq (fb (dB 4) [] E0$ ap (bj 1)$ ap (bj 2)$ ap (tC$ .int 1) aY) (λzs D=>∀l,D l=θ->kP K [xm l] (af D l$ .lst zs) λv H6=>4<=τ/\∀r,H6 r=θ->Q (.ref r) (af H6 r$ .tup [.str "call",.str y,.str f',v])) j:=λf' ps h' t j u K4 e4 ht b9=>by
  erw[qN (K:=K) (xs:=ps.map tT) (by rw[Oq];omega) (λi zs D=>∃ts:xL (ζ×Tm),zs=ts.map (λc=>xm c.1)/\ο ts=i/\(∀c∈ts,bJ D c.2 c.1/\dW ys c.2)/\au D p/\aI p j D) #[[],Z,Z,(λ_ h=>absurd h O5),u.B,aI.refl] (λi zs D h5=>?_) ?_ ?_]
  .symm;let⟨ts,rfl,e5,_,_,a⟩:=h5;exact#[aF.of$ a.tm u.B _ _ ht,by rw[Oq,e5];rwa[Ou _]]
  .intro i x zs D hx a3;symm;let⟨ts,rfl,e5,h5,O,a⟩:=a3;erw[#[_,Z,_,Z,p,g,1,ys,Z,O,(u.but O a).g,y1,y2,NP,NP,λW T H6 U dT gT B6 k6=>#[ts++[(W,T)],by rw[OU];rfl,by rw[Ot,e5];rfl,λc hc=>?_,B6,a.trans k6]]];symm;rcases bm.mp hc with hc |hc
   .exact#[(h5 c hc).1.but O k6,(h5 c hc).2]
   .right;rw[χ.mp hc];exact#[U,gT,(by show T.depth < 6;omega)]
  .rintro zs D ⟨ts,rfl,e5,h5,O,a⟩ l nl;erw[#[l,_,Z,.inl #[aL.of jc,λl2 n0=>#[NP,λr nr=>?_]]]];let M:=u.but O a;let s6:aa D (af (af D l$ .lst$ ts.map λc=>xm c.1) l2$ .tup$ ts.map λc=>xm c.1):=(je nl).trans (je n0);rw[Oq]at e5;rwa[l0 (.cl y f' l2 ts) _ _ r #[Z,jc,λc hc=>(h5 c hc).1.same s6] #[hy,NO,λc hc=>(h5 c hc).2] (by show(f',ts.length)∈_;rw[e5];rwa[h']) (M.but2 ((M.B.upd_new nl).upd_new n0) ((M.s.new nl).new n0)$ aR.of_same s6) ((K4.trans a.two).trans$ aR.of_same s6) ((kr M.s s6).trans ((kH u.B u.s a).trans e4)) nr]
 erw[ah λF1 o=>pU λG' C=>?_];let Y:G' μ H3:=by erw[C _ _$ nO ?_];erw[ah λF2 f2=>#[_,Z,_,Z,_,Z,h,_,Z,.inl$ aL.of hh,p,_,Z,G.B,NO,NO,λd4 j d3 d5 B4 e4=>?_]];let u:=G.but B4 (aI.of_eq e4);let J:aI p H3 j:=aI.of_eq e4;let a4:=hH.mono (J.tm G.B);let⟨v,c0,a5,a0,p4,t4,rfl,z1,z2⟩:=FK a4 d3 d5;erw[#[h,_,_,_,Z,Z,aL.of$ J _ _ G.hsp.2 hh,a5,p4,_,Z,aF.of z1,Z,_,_,Z,_,_,Z,Z,f2 _ _ ?_]];left;erw[#[_,Z,_,Z,_,Z,t4,Z,#[_,aF.of z2],?_]];rwa[c1 c0.1 c0.2 (dg.mpr #[c0,a0,Z]) t4 j u (K3.trans J.two) ((kH G.B G.s J).trans e3) z2$ G0.h3 c0 a0]
 erw[#[_,Z,Z,_,Z,cw (λc=>Y) (λc=>#[_,Z,Z,_,Z,CV Y λc2=>C _ _ (aV c2$ o _ _ ?_)])]];let l1:∀(c:(0:Int) < (d:Int)),∃X:Nat,d=X+1:=λc=>#[d - 1,NO];erw[ah λF1 o=>dX (RH p g h S d kd y H3) (λE6 eR f6=>?_) λσ0 H' z=>?_]
 .left;erw[pU λG' C=>#[_,Z,Z,_,Z,?_]];erw[cw (λc=>?_) (λc=>C _ _ (nM$ f6 _ _ #[Z,Z]))];erw[#[_,Z,_,_,Z,Z,_,Z,C _ _ ?_]];erw[cw (λc2=>?_) (λc2=>f6 _ _ #[Z,Z])];symm;let⟨X,rfl⟩:=l1 (Pe c2);let ed:(((X+1:Nat):Int) - 1)=((X:Nat):Int):=by omega
  erw[#[_,Z,_,Z,_,Z,_,Z,_,Z,_,_,Z,Z,p,g,h,S,X,ys,hs,(by show [xm p,xm g,xm h,xm S,vr (((X+1:Nat):Int) - 1)]=_;rw[ed]),G,NO,NO,λr b bs j a' b1 c4 b2 b4 B4 s4 J=>?_]];let u:=G.but2 B4 s4 J;erw[#[_,Z,_,Z,p,g,2,ys,Z,u.B,u.g,y1,y2,NP,NP,λW T D U dT gT O a=>?_]];let M:=u.but O a;erw[#[_,Z,_,Z,_,Z,_,Z,_,Z,_,Z,_,_,Z,Z,p,g,h,S,X,ys,hs,(by show [xm p,xm g,xm h,xm S,vr (((X+1:Nat):Int) - 1)]=_;rw[ed]),M,NO,(by rw[kH u.B u.s a];rwa[b2]),λr3 b3 b0 H6 h6 h7 a1 h8 h0 B6 s6 k6=>#[oF,λt N=>?_]]];let G6:=M.but2 B6 s6 k6;let tm:aj j H6:=λb' xs e=>k6.tm M.B M.s _ _ (a.tm u.B _ _ e);let I:aj H6 (af H6 t$ .tup [.str "if",.ref W,.ref r,.ref r3]):=aa.tm (je N);rw[eR];erw[q t (.ite t W T b b3 .nil) _ #[r,r3,bs,b0,[],Z,jc,(U.mono$ k6.tm M.B M.s).mono I,I _ _$ tm _ _ a',I _ _ h6,(b1.mono tm).mono I,h7.mono I,Z] (by let x1:=kH u.B u.s a;rw[kr G6.s$ je N];show((b.size+b3.size+0+1:Nat):Int)+_<=_;omega) (by rw[kr G6.s$ je N];rwa[h8]) (AM #[gT,NO] b4 h0) (G6.B.upd_new N) (G6.s.new N) (((K3.trans J).trans$ a.two.trans k6).trans$ aR.of_same$ je N)]
 symm;let⟨rfl,e⟩:=z;right;rw[e];erw[o _ _ ?_];left;erw[ah λF1 o=>dX (RH p g h S d kd y H3) (λE6 eR f6=>?_) λσ0 H' z=>?_]
 .left;erw[pU λG' C=>#[_,Z,Z,_,Z,?_]];erw[cw (λc=>?_) (λc=>C _ _ (nM$ f6 _ _ #[Z,Z]))];erw[#[_,Z,_,_,Z,Z,_,Z,C _ _ ?_]];erw[cw (λc2=>?_) (λc2=>f6 _ _ #[Z,Z])];symm;let⟨X,rfl⟩:=l1 (Pe c2);let ed:(((X+1:Nat):Int) - 1)=((X:Nat):Int):=by omega
  erw[#[_,Z,_,Z,p,g,2,ys,Z,G.B,G.g,y1,y2,NP,NP,λW T D U dT gT O a=>?_]];let M:=G.but O a;erw[#[_,Z,_,Z,_,Z,_,Z,_,Z,_,_,Z,Z,p,g,h,S,X,ys,hs,(by show [xm p,xm g,xm h,xm S,vr (((X+1:Nat):Int) - 1)]=_;rw[ed]),M,NO,(by rw[kH G.B G.s a];omega),λr3 b3 b0 H6 h6 h7 a1 h8 h0 B6 s6 k6=>#[gU,λt N=>?_]]];let G6:=M.but2 B6 s6 k6;let I:aj H6 (af H6 t$ .tup [.str "while",.ref W,.ref r3]):=aa.tm (je N);rw[eR];erw[q t (.loop t W T b3 .nil) _ #[r3,b0,[],Z,jc,(U.mono$ k6.tm M.B M.s).mono I,I _ _ h6,h7.mono I,Z] (by let x1:=kH G.B G.s a;rw[kr G6.s$ je N];show((b3.size+0+1:Nat):Int)+_<=_;omega) (by rw[kr G6.s$ je N];rwa[h8]) (vN #[gT,NO] h0) (G6.B.upd_new N) (G6.s.new N) ((K3.trans$ a.two.trans k6).trans$ aR.of_same$ je N)]
 symm;let⟨rfl,e⟩:=z;right;rw[e];erw[o _ _ ?_];left;erw[ah λF1 o=>pU λG' C=>#[_,Z,Z,_,Z,C _ _ ?_]];erw[cw (λc=>?_) (λc=>o _ _ ?_)]
 .erw[#[_,Z,_,Z,p,g,2,ys,Z,G.B,G.g,y1,y2,NP,NP,λW T D U dT gT O a=>#[ci,λt N=>?_]]];rwa[l0 (.gv W T) _ D t #[Z,U] #[gT,NO] trivial (G.but O a) (K3.trans a.two) ((kH G.B G.s a).trans e3) N]
 .erw[#[_,Z,_,Z,_,Z,p,g,3,ys,Z,G.B,G.g,y1,y2,NP,NP,λW T D U dT gT O a=>#[gU,λt N=>?_]]];rwa[l0 (.st y W T) _ D t #[Z,U] #[hy,gT,NO] trivial (G.but O a) (K3.trans a.two) ((kH G.B G.s a).trans e3) N]
def pj:am ["_law_box_here","_law_names_here","_law_heads","_law_spare","_law_deep","_law_body_here","_law_k"] z6z (ae rE):=bV
def re(F:xD K "_law_body" rE f fd)(cT:‹1› fT f0 z1z bo "_law_take"){L:Nat}(cS:‹L+8› fS f1 z6z (mn n) "_law_statement")(mr:mg "range"=θ)(m2:mg "tuple"=θ):⇑(L+9) f fd z6z (iG n):=by
 erw[F.ok pj λc0 A o1 s H v Q E hr h=>?_]
 let⟨p,g,h,S,d,ys,hs,rfl,G,hd,h0,q⟩:=h;erw[#[_,(jd (jA 5 pj.nd$ jF jb)$ jd (km O8 Z (zh Z mr$ ja (cT.e hr.m$ ja (pv 0)$ ja jf jb) jb) (jx (i:=6) pj.nd Z$ ω Z)$ jg$ jy (jz qt (jq ju (pv 3) jf ∅) jf$ aD _) (jg$ jN$ j9 OF OR OQ jQ (pv 5)$ ja (cS.e hr$ ja (pv 0)$ ja (pv 1)$ ja (pv 2)$ ja (pv 3)$ ja (pv 4) jb) jb) jp)$ jg$ jo$ jI jK Z m2 P'$ ja (pv 5) jb),?_]];let b0:=aN;erw[#[OA _,λl N=>?_]];let s0:aa H (af H l$ .lst []):=je N;let O:oA (af H l$ .lst []) p g h S ys hs:=G.but2 (G.B.upd_new N) (G.s.new N) (aR.of_same s0);let l1:af H l (.lst []) l=δ (.lst []):=jc;let lp:l≠p:=G.B.ne N;let D:l≠S:=λe=>by let⟨k,z⟩:=G.s;rw[<- e,N]at z;cases z
 let k1:aR p S H (af H l$ .lst []):=aR.of_same s0;let R:iE (af H l$ .lst []) S=iE H S:=kr G.s s0;generalize af H l (.lst [])=H1 at O l1 k1 R;erw[#[_,Z,p,6,Z,O.B,NP,NP,λm H2 m0 m1 B2 e2=>#[_,Z,NO,NO,?_]]];let G2:=O.but B2 (aI.of_eq e2);refine QT (lo:=0) (λi σ I=>∃(o6:ym V) (v:xL V) (b:Bd),σ=[↑p,↑g,↑h,↑S,δ$ .int (d:Int),↑l,o6]/\I l=δ (.lst v)/\eI I b v/\((b.size:Int)+iE I S<=iE H S/\0<=iE I S)/\b.fit hs ys d/\ο v<=i/\au I p/\eE I S/\aR p S H I)
  #[θ,[],.nil,Z,by rw[e2 l lp];rwa[l1],Z,(by rw[kH O.B O.s$ aI.of_eq e2,R];exact#[by show((0:Nat):Int)+_<=_;omega,h0]),pM,OA _,B2,G2.s,k1.trans (aI.of_eq e2).two] ?_ ?_
 .intro i σ H3 hi J;let⟨o6,v,b,rfl,a,u,j,x,h1,T,C,U⟩:=J;let G3:=G.but2 T C U;let⟨kk,W⟩:=id C;erw[#[_,Z,S,_,_,_,Z,Z,aL.of W,Z,_,_,Z,Z,_,Z,?_]];refine cw (λc=>?_) (λc=>?_)
  .erw[#[_,Z,.inl #[Z,_,aL.of a],_,Z,_,Z,_,Z,_,Z,_,Z,p,g,h,S,d,ys,hs,Z,G3,hd,(by rw[JK W];rwa[Pe c]),λr b4 H4 h2 h5 h3 h4 B4 s4 k4=>?_]];let X:H4 l=δ (.lst v):=k4 _ _ lp D a;erw[#[l,_,_,Z,Z,X,NO,?_]];let tm:aj H4 (af H4 l$ .lst$ v++[.ref r]):=λb' xs e=>by rw[jh$ jM e X BT];exact e
   let Y:aj H3 H4:=k4.tm T C;erw[#[_,_,b.app b4,Z,jc,(h2.mono tm).app ((u.mono Y).mono tm),?_,pK x h4,by rw[Ot];show ο v+1<=i+1;omega,B4.eq$ jh$ O3 lp,?_,λb' o n1 n2 e=>?_]]
   .rw[j7,YV s4 λo e=>by rw[jh$ O3 D];rwa[e]];let⟨z1,z2⟩:=j;exact#[NO,h3]
   .let⟨z,hz⟩:=s4;exact#[z,by rw[jh$ O3 D];rwa[hz]]
   .rw[jh$ jk e N];rwa[k4 _ _ n1 n2$ U _ _ n1 n2 e]
  .exact#[_,v,b,Z,a,u,j,x,NO,T,C,U]
 .intro σ H3 J;let⟨o6,v,b,rfl,a,u,j,x,h1,T,C,U⟩:=J;erw[#[_,Z,l,v,Z,.inl #[aL.of a,λt M=>?_]]];let hm:(m).toNat<=5:=by omega
  erw[q t b v _ jc (u.mono$ aa.tm$ je M) (by rw[kr C$ je M];rwa[j.1]) (by rw[kr C$ je M];rwa[j.2]) x (T.upd_new M) (C.new M)$ U.trans$ aR.of_same$ je M]
def wI:⇑8 f c z6z (mn 0):=by
 let n:∀v H Q E,¬mn 0 v H Q E:=λv H Q E h=>by let⟨p,g,h,S,d,y,e,_,_,b,_⟩:=h;rwa[absurd b$ SJ _]
 exact#[λv H Q E h=>absurd h (n v H Q E),λA o s H a u v Q E _ _ _ _ h=>absurd h (n v H Q E)]
theorem Ld(F:xD K "_law_statement" xU f e)(FB:xD K "_law_body" rE g a)(c:‹1› r k z1z bo "_law_take")(C:‹6› s l z12z (dB 4) "_law_term")(h:‹7› t o z29z lM "_law_spot")(b:aE K e z6z [])(M:mg "_law_statement"=↑f)(B:aE K a z6z [])(i:mg "_law_body"=↑g)(j:mg "len"=θ)(m:mg "tuple"=θ)(d:mg "range"=θ):
  ∀n:Nat,⇑(n+n+8) f e z6z (mn n)/\⇑(n+n+9) g a z6z (iG n)
 |0=>#[wI,re (L:=0) FB c #[wI,b,F.kp,M] d m]
 |n+1=>by
  let I:=Ld F FB c C h b M B i j m d n;let E:n+n+10=n+1+(n+1)+8:=NO
  let p:n+n+2+9=n+1+(n+1)+9:=NO
  let H:=Fe (L:=n+n) F c C h #[I.2,B,FB.kp,i] j m;let q:=re (L:=n+n+2) FB c #[H,b,F.kp,M] d m;rw[<- E,<- p];exact#[H,q]
def HL{x:xL V}(h:k<=ο x):aT x θ (δ (k:Int))=x.take k:=by
 unfold aT;rw[HT.sIx_nat,HT.sIx_none];let e:min k (ο x)=k:=NO
 rw[e];simp
abbrev FM:bU:=bX 68
def AE(h:0<=d)(H:d < 4):∃D:Nat,eV [vr 3,.int 3,.int 3,.int 5] d=δ (.int (D:Int))/\D < 6/\Nj D<=111111/\D<=5:=by
 rcases(NO:d=0∨d=1∨d=2∨d=3) with rfl |rfl |rfl |rfl
 .exact#[3,Z,NP,NP,NP]
 .exact#[3,Z,NP,NP,NP]
 .exact#[3,Z,NP,NP,NP]
 .exact#[5,Z,NP,NP,NP]
def vo{ys:xL ρ}{k:Int}(h:ο ys=20)(H:14<=k)(a:k<=20):1<=(bK ys (δ 8)$ δ k).length/\(bK ys (δ 8)$ δ k).length<=20:=by
 erw[#[?_,by let:=qC ys (δ 8) (δ k);omega]];let e:(8:Int)=((8:Nat):Int):=rfl;let E:k=((k.toNat:Nat):Int):=NO
 unfold bK;rw[e,E,HT.sIx_nat,HT.sIx_nat,OZ,Ri];rwa[N09]
def AA{ss:xL ρ}(h:0<=k):(bK ss θ$ δ k).length<=k.toNat:=by
 let e:k=((k.toNat:Nat):Int):=NO
 unfold bK;rw[e,HT.sIx_nat,HT.sIx_none,OZ];omega
def ii{t u:TS}(h:∀E:bp,(∀a b,u D a b->E.nx a b)->t E c H):fh t u D c H:=h { D with nx:=u D } λ_ _ h=>h
def Hg(h:xL (ρ×xL ρ)):Prop:=∀c∈h,c.1.length<=20/\ο c.2<=6
def Nn(H:Hp)(D:xL Df):Prop:=∀d∈D,∃p:xL ρ,H d.pa=δ (.tup$ p.map tT)/\ο p<=100
def Ju{a:Type}{P:a->Prop}{X:xL a}{x:a}(h:∀c∈X,P c)(H:P x):∀c∈X++[x],P c:=λc b=>by
 rcases bm.mp b with h1 |h1
 .rwa[h c h1]
 .rw[χ.mp h1];rwa[H]
def nH(H:Hp)(D:xL Df)(N:xL Nat):Prop:=ο D=ο N/\∀(i:Nat) (d:Df) (n:Nat),D[i]?=δ d->N[i]?=δ n->∃p:xL ρ,H d.pa=δ (.tup$ p.map tT)/\ο p=n/\n<=100
def nH.mono(h:nH H D N)(k:aj H a):nH a D N:=#[h.1,λi d n b c=>let #[p,e,l]:=h.2 i d n b c;#[p,k _ _ e,l]]
def nH.snoc{d:Df}{p:xL ρ}(h:nH H D N)(e:H d.pa=δ (.tup$ p.map tT))(l:ο p<=100):nH H (D++[d]) (N++[p.length]):=by
 erw[#[by rw[Ot,Ot,h.1];rfl,λi c n a b=>?_]];by_cases f:i < ο D
 .rw[Rx f]at a;rw[Rx (by rw[<- h.1];rwa[f])]at b;rwa[h.2 i c n a b]
 .let g:i < (D++[d]).length:=(ξ.mp a).1;rw[Ot]at g;let E:i=ο D:=by let:i < ο D+1:=g;omega
  subst E;rw[Rs$ Ou _,Tw]at a;rw[h.1,Rs$ Ou _,Tw]at b;cases a;cases b;exact#[p,e,Z,l]
def nH.v(h:nH H D n):Nn H D:=λd b=>by
 let⟨i,a,e⟩:=iu.mp b;let c:D[i]?=δ d:=by rw[<- e];rwa[On a]
 let⟨p,e,l,k⟩:=h.2 i d _ c (On (by rw[<- h.1];rwa[a]));exact#[p,e,NO]
def uR(D:xL Df)(n:xL Nat):Prop:=(∀d∈D,oG d/\d.b.Cs ((D.map Df.f).zip n))/\(D.map Df.f).Nodup/\∀y∈D.map Df.f,y.length<=20
inductive rR(c:xL V)(H:Hp)(Q:VK)(a:XK):Prop
 |mk(p:ζ)(T b:Int)(_:c=[.ref p,.int T,.int b])(_:au H p)(_:1<=T)(_:T<=8)(_:0<=b)(_:b<=40)(_:∀(r:ζ) (ds:xL Df) (xs:xL V) (H':Hp),H' r=δ (.tup xs)->dq H' ds xs->(ds.length:Int)=T->∀ns:xL Nat,uR ds ns->nH H' ds ns->au H' p->aI p H H'->Q (.ref r) H')
def dD:am ["_law_box_here","_law_total","_law_room","_law_words","_law_most","_law_heads","_law_k","_law_turn","_law_row","_law_some","_law_deep","_law_defs","_law_f","_law_params","_law_spare","_law_body_here"] z38z (ae FM):=bV
inductive AJ(p k:ζ)(T j:Int)(H:Hp)(b:_L.St)(c:Hp):Prop
 |mk(a:xL ρ)(d:b=[↑p,δ (.int T),δ (.int j),↑k,θ,θ,θ,θ,θ,θ,θ,θ,θ,θ,θ,θ])(e:c k=δ (.lst (a.map tT)))(f:ο a=20)(g:(∀y∈a,y.length<=20)/\(a.take 8).Nodup)(h:au c p)(i:aI p H c)
inductive AI(p t k:ζ)(T s m:Int)(u:xL ρ)(H:Hp)(i:Nat)(v:_L.St)(a:Hp):Prop
 |mk(o q r:ym V)(l:xL (ρ×xL ρ))(n:xL V)(b:v=[↑p,δ (.int T),δ (.int s),↑t,δ (.int m),↑k,o,q,r,θ,θ,θ,θ,θ,θ,θ])(c:a k=δ (.lst n))(d:eU a l n)(e:ο l=i)(f:Hg l/\l.map (·.1)=u.take i)(g:a t=δ (.lst (u.map tT)))(h:au a p)(j:aI p H a)
inductive AK(p G y F h:ζ)(T E m:Int)(j:Nat)(I:xL ρ)(z:xL (ρ×xL ρ))(A:xL V)(H:Hp)(i:Nat)(J:_L.St)(g:Hp):Prop
 |mk(B C D b c e f:ym V)(k:xL Df)(l:xL V)(n:J=[↑p,δ (.int T),δ (.int E),↑G,δ (.int m),↑y,B,C,D,↑F,δ (.int (j:Int)),↑h,b,c,e,f])(o:g h=δ (.lst l))(q:dq g k l)(r:ο k=i)(s:(∀d∈k,oG d/\d.b.Cs (z.map λc=>(c.1,c.2.length)))/\k.map Df.f=(z.map (·.1)).take i)(t:g y=δ (.lst A))(u:eU g z A)(v:g F=δ (.lst (I.map tT)))(w:au g p)(x:aI p H g)(a:nH g k ((z.map λc=>c.2.length).take i))
inductive AL(v:xL (ρ×xL ρ))(D:xL ρ)(p C u z h B A:ζ)(T y m:Int)(i:Nat)(w x:ym V)(c:ρ×xL ρ)(e:Hp)(j:Nat)(E:_L.St)(d:Hp):Prop
 |mk(a:ym V)(f:ζ)(b:Bd)(g:xL V)(k:E=[↑p,δ (.int T),δ (.int y),↑C,δ (.int m),↑u,a,w,x,↑z,δ (.int (i:Int)),↑h,δ (.str c.1),↑B,↑A,↑f])(l:d f=δ (.tup g))(n:eI d b g)(o:(b.size:Int)+iE d A<=y/\0<=iE d A)(q:b.fit v D i)(r:au d p)(s:eE d A)(t:aR p A e d)
def EM(F:xD K "_law_any" FM f fd)(cT:‹1› fT j0 z1z bo "_law_take")(cA:‹2› fA j1 z28z ij "_law_names")(cB:‹21› fB j2 z6z (iG 6) "_law_body")(ml:mg "len"=θ)(mr:mg "range"=θ)(m0:mg "tuple"=θ)(mi:mg "int"=θ):⇑22 f fd z38z rR:=by
 erw[F.ok dD λj3 A o5 s H vs Q E hr h=>?_]
 symm;let⟨p,T,X,rfl,B,j4,j5,f4,j',q⟩:=h;erw[#[_,(jd (jA 3 dD.nd$ cA.e hr.m$ ja (pv 0)$ ja jf jb)$ jd (j6$ jy (zo$ cT.e hr.m$ ja (pv 0)$ ja jf jb) (jg$ kS (jJ kj (pv 3) jT$ jG jf)$ @xo _ _ _ _ _ _ _ _ _ (pv 3) jf jf Cv) jp)$ jd (jA 4 dD.nd$ jq ju (jF$ ja jf$ ja jf jb) (jI qM Z mi VX$ ja (qf qr (cT.e hr.m$ ja (pv 0)$ ja jf jb) jf$ aD _) jb) ∅)$ jd (jA 5 dD.nd$ jF jb)$ jd (km O8 Z (zh Z mr$ ja (pv 1) jb) (jx (i:=6) dD.nd Z$ ω Z)$ jd (jA 7 dD.nd$ jw jX jf$ cT.e hr.m$ ja (pv 0)$ ja jf jb)$ jd (jA 8 dD.nd$ jw zT (jJ kj (pv 3) (jG$ pv 7)$ jG jf)$ jJ kj (pv 3) (jG jf)$ jG$ pv 7)$ jg$ jN$ j9 OF OR OQ jQ (pv 5)$ ja (ji$ ja (jq ju (pv 3) (pv 6) ∅)$ ja (jI jK Z m0 P'$ ja (jJ kj (pv 8) jT$ jG$ cT.e hr.m$ ja (pv 0)$ ja (pv 4) jb) jb) jb) jb)$ jd (jA 9 dD.nd$ jJ kj (pv 3) (jG jf)$ jG$ jw jX jf$ cT.e hr.m$ ja (pv 0)$ ja jf jb)$ jd (jA 10 dD.nd$ jq ju (jF$ ja jf$ ja jf$ ja jf$ ja jf jb) (cT.e hr.m$ ja (pv 0)$ ja jf jb) ∅)$ jd (jA 11 dD.nd$ jF jb)$ jd (km O8 Z (zr$ pv 5) (zR (n:=2) Z$ jC (jx (i:=12) dD.nd Z$ ω Z)$ jC (jx (i:=13) dD.nd Z$ ω Z) kB)$ jd (jA 14 dD.nd$ jF$ ja (pv 2) jb)$ jd (jA 15 dD.nd$ ji jb)$ jd (km O8 Z (zh Z mr$ ja jf jb) (jx (i:=6) dD.nd Z$ ω Z)$ jg$ jA 15 dD.nd$ jw jU (pv 15)$ cB.e hr$ ja (pv 0)$ ja (pv 9)$ ja (pv 5)$ ja (pv 14)$ ja (pv 10) jb)$ jg$ jN$ j9 OF OR OQ jQ (pv 11)$ ja (ji$ ja (pv 12)$ ja (pv 13)$ ja (pv 15) jb) jb)$ jg$ jo$ jI jK Z m0 P'$ ja (pv 11) jb),?_]];let l4:=aN;sleep 9;erw[ii λE1 m1=>?_];erw[#[_,Z,p,20,Z,B,NP,NP,λW ys H1 c2 f5 c3 C B1 k1=>?_]];erw[m1 _ _ ?_];left;erw[ii λE2 m2=>?_];let wp:W≠p:=B.ne c2;erw[dX (AJ p W T X H) (λE0 _ fm=>?_) λσ0 H2 l=>?_]
 .left;erw[pU λG' g'=>#[_,Z,p,2,Z,B1,NP,NP,λd1 H2 l5 l6 B2 e2=>?_]];let Y:H2 W=δ (.lst$ ys.map tT):=by rw[e2 W wp];exact f5
  let k2:=k1.trans (aI.of_eq e2);erw[#[Z,_,Z,g' _ _ ?_]];erw[cw (λc=>?_) (λc=>fm _ _ #[ys,Z,Y,NO,#[C.1,C.2.sublist$ RB _ _],B2,k2])];erw[#[_,Z,_,Z,W,_,Z,aL.of Y,λsl n0=>?_]];let f7:W≠sl:=λe=>by rw[<- e,Y]at n0;cases n0
  let l8:=B2.ne n0;erw[#[_,Z,W,sl,_,_,_,_,Z,Z,Z,Z,aq Y n0,jc,f7,NP,NP,by rw[Oq];omega,?_,?_]]
  .let:=zp (ys.map tT) θ (δ 2);rw[Oq]at this ⊢;omega
  let e2:aT (ys.map tT) θ (δ 2)=(ys.take 2).map tT:=by rw[show(2:Int)=((2:Nat):Int) from Z,HL (by rw[Oq];omega),Sz]
  erw[fm _ _ #[ys.take 8++ys.take 2++ys.drop 10,Z,?_,?_,?_,(B2.upd_new n0).eq$ jh$ O3 wp,?_]]
  .rw[jc,e2,OU,OU,Sz,Wj,Sz];rfl
  .rw[Ot,Ot,OZ,OZ,Ri];omega
  .refine#[λy hy=>?_,?_]
   .symm;rcases bm.mp hy with h |h
    .rcases bm.mp h with h |h
     .rwa[C.1 y$ Pw h]
     .rwa[C.1 y$ Pw h]
    .rwa[C.1 y$ Vj h]
   .rw[Pb,List.take_append_of_le_length (by rw[OZ];omega),V8];rwa[C.2.sublist$ RB _ _]
  .exact(k2.upd_new n0).upd_own c2
 symm;let⟨ys,rfl,Y,c3,C,B2,k2⟩:=l;erw[m2 _ _ ?_];left;erw[ii λE3 m3=>?_];erw[#[ci,λl1 n7=>?_]];erw[#[_,Z,p,3,Z,B2.upd_new n7,NP,NP,λd2 H3 l9 l' B3 e3=>?_]];let k3:aI p H2 H3:=((aI.refl).upd_new n7).trans (aI.of_eq e3);let l0:=B2.ne n7;let f9:H3 l1=δ (.lst [.int 4,.int 7]):=by rw[e3 l1 l0];rwa[jc]
 erw[#[Z,.inr #[_,Z,?_]]];let a4:∀c:Bool,∃m:Int,eV [vr 4,vr 7] (if c then 1 else 0)=δ (.int m)/\4<=m/\m<=7:=λc=>by
  symm;cases c
  .exact#[4,Z,NP,NP]
  .exact#[7,Z,NP,NP]
 symm;let⟨m,hm,m4,m7⟩:=a4 _;erw[#[l1,_,_,_,Z,Z,aL.of f9,hm,?_]];erw[m3 _ _ ?_];left;erw[ii λE4 m4=>?_];let c4:H3 W=δ (.lst$ ys.map tT):=k3 _ _ wp Y;let k0:=k2.trans k3;erw[#[OA _,λhl n1=>?_]];erw[m4 _ _ ?_];left;erw[ii λE5 m5=>?_];let h0:=B3.ne n1;let n5:H hl=θ:=by
  cases z:H hl with
  |none=>rfl
  |some o=>have:=k0 _ _ h0 z;rw[n1]at this;symm;cases this
 let wh:W≠hl:=λe=>by rw[<- e,c4]at n1;cases n1
 erw[fQ λJ j=>#[_,Z,T,Z,NO,NO,j _ _ ?_]];refine zj (lo:=0) (AI p W hl T X m ys H)
  #[θ,θ,θ,[],[],Z,jc,Z,Z,#[(λc hc=>nomatch hc),Z],aq c4 n1,B3.upd_new n1,k0.upd_own n5] ?_ ?_
 .intro D' _ i σ H4 hi f0 Gq u l;symm;let⟨o6,o7,o8,hs,hv,rfl,a5,h5,c5,h6,a',B4,k4⟩:=l;erw[u ?_];show fh (eP _ _) _ D' _ _;sleep 2;erw[ii λF1 f1=>?_];erw[#[_,Z,p,6,Z,B4,NP,NP,λD H5 f' g0 B5 e5=>?_]];let k5:aI p H4 H5:=aI.of_eq e5;let h7:=k5 _ _ wp a';let b1:=k5 _ _ h0 a5;let b2:=h5.mono (k5.tm B4);erw[#[_,_,Z,Z,?_]];erw[f1 _ _ ?_];show fh (eP _ _) _ D' _ _;erw[ii λF2 f2=>?_];erw[#[_,Z,_,Z,_,Z,_,Z,W,_,Z,aL.of h7,λs1 n'=>?_]];erw[#[_,Z,_,Z,_,Z,_,Z,W,_,Z,aL.of$ aq h7 n',λs2 b3=>?_]];let L1:=qC ys (δ (8+D)) (δ 14);let L0:=qC ys (δ 8) (δ (8+D));let L3:=zp (ys.map tT) (δ (8+D)) (δ 14);let L4:=zp (ys.map tT) (δ 8) (δ (8+D));rw[Oq]at L3 L4;erw[#[s1,s2,_,_,Z,Z,aq jc b3,jc,NO,λrl c6=>?_]];erw[f2 _ _ ?_];let er:aT (ys.map tT) (δ (8+D)) (δ 14)++aT (ys.map tT) (δ 8) (δ (8+D))=(bK ys (δ (8+D)) (δ 14)++bK ys (δ 8) (δ (8+D))).map tT:=by rw[zJ,zJ,OU]
  let s6:aa H5 (af (af (af H5 s1$ .lst$ aT (ys.map tT) (δ (8+D))$ δ 14) s2$ .lst$ aT (ys.map tT) (δ 8)$ δ (8+D)) rl$ .lst$ aT (ys.map tT) (δ (8+D)) (δ 14)++aT (ys.map tT) (δ 8) (δ (8+D))):=((je n').trans$ je b3).trans (je c6);let r6:af (af (af H5 s1$ .lst$ aT (ys.map tT) (δ (8+D))$ δ 14) s2$ .lst$ aT (ys.map tT) (δ 8)$ δ (8+D)) rl (.lst$ aT (ys.map tT) (δ (8+D)) (δ 14)++aT (ys.map tT) (δ 8) (δ (8+D))) rl=δ (.lst ((bK ys (δ (8+D)) (δ 14)++bK ys (δ 8) (δ (8+D))).map tT)):=by rw[jc,er]
  let B6:au (af (af (af H5 s1$ .lst$ aT (ys.map tT) (δ (8+D))$ δ 14) s2$ .lst$ aT (ys.map tT) (δ 8)$ δ (8+D)) rl$ .lst$ aT (ys.map tT) (δ (8+D)) (δ 14)++aT (ys.map tT) (δ 8) (δ (8+D))) p:=((B5.upd_new n').upd_new b3).upd_new c6;generalize af (af (af H5 s1$ .lst$ aT (ys.map tT) (δ (8+D))$ δ 14) s2$ .lst$ aT (ys.map tT) (δ 8)$ δ (8+D)) rl (.lst$ aT (ys.map tT) (δ (8+D)) (δ 14)++aT (ys.map tT) (δ 8) (δ (8+D)))=H6 at s6 r6 B6;let LR:(bK ys (δ (8+D)) (δ 14)++bK ys (δ 8) (δ (8+D))).length<=40:=by rw[Ot];omega
  generalize bK ys (δ (8+D)) (δ 14)++bK ys (δ 8) (δ (8+D))=r0 at r6 LR;let c9:=s6 _ _ h7;let h8:=s6 _ _ b1;let ei:(0:Int)+(i:Int)=(i:Int):=Int.zero_add _;rw[ei];symm;obtain⟨y,b4⟩:∃y,ys[i]?=δ y:=#[_,On (NO:i < ο ys)];let hy:=OX b4;let a4:eV (ys.map tT) (i:Int)=δ (.str y):=jH (by rw[OL,b4];rfl);let rp:rl≠p:=qy B6 r6;erw[#[_,Z,.inl #[Z,_,aL.of h8],_,Z,_,Z,W,_,_,_,Z,Z,aL.of c9,a4,_,Z,_,Z,_,Z,p,m,Z,B6,NO,NO,λd7 H7 d0 d4 B7 e7=>?_]];let k7:aI p H6 H7:=aI.of_eq e7;erw[#[_,Z,rl,_,Z,aL.of$ k7 _ _ rp r6,λs3 c'=>?_]];erw[#[s3,_,Z,.inl #[aL.of jc,λt nt=>#[ci,λr nr=>?_]]]];rw[zJ]at nt nr ⊢;let L8:=AA (ss:=r0) d0;generalize bK r0 θ (δ d7)=ps at*;let s8:aa H7 (af (af (af H7 s3$ .lst$ ps.map tT) t$ .tup$ ps.map tT) r$ .tup [.str y,.ref t]):=((je c').trans$ je nt).trans (je nr);let t8:af (af (af H7 s3$ .lst$ ps.map tT) t$ .tup$ ps.map tT) r (.tup [.str y,.ref t]) t=δ (.tup$ ps.map tT):=aq jc nr;let r8:af (af (af H7 s3$ .lst$ ps.map tT) t$ .tup$ ps.map tT) r (.tup [.str y,.ref t]) r=δ (.tup [.str y,.ref t]):=jc;let B8:au (af (af (af H7 s3$ .lst$ ps.map tT) t$ .tup$ ps.map tT) r$ .tup [.str y,.ref t]) p:=((B7.upd_new c').upd_new nt).upd_new nr;generalize af (af (af H7 s3$ .lst$ ps.map tT) t$ .tup$ ps.map tT) r (.tup [.str y,.ref t])=R at s8 t8 r8 B8;let d6:=s8 _ _ (k7 _ _ h0 h8);let g1:=s8 _ _ (k7 _ _ wp c9);let h4:=h5.len;erw[#[hl,_,_,Z,Z,d6,NO,?_]];let tm:aj R (af R hl$ .lst$ hv++[.ref r]):=λb xs e=>by rw[jh$ jM e d6 BT];rwa[e]
  let g2:=((b2.mono$ aa.tm s6).mono$ k7.tm B6).mono (aa.tm s8);erw[f0 _ _ #[_,_,_,hs++[(y,ps)],_,Z,jc,(g2.mono tm).snoc #[r,t,Z,tm _ _ r8,tm _ _ t8],by rw[Ot,c5];rfl,#[Ju h6.1 #[C.1 y hy,by show ο ps<=6;omega],by rw[OU,h6.2,RV,b4];rfl],by rw[jh wh];rwa[g1],B8.eq$ jh$ O3 h0,?_]];erw[aI.upd_own (λb o n e=>?_) n5];rwa[s8 _ _$ k7 _ _ n$ s6 _ _$ k5 _ _ n$ k4 _ _ n e]
 intro σ H4 l;symm;obtain⟨o6,o7,o8,hs,hv,rfl,a5,h5,c5,⟨h6,d8⟩,a',B4,k4⟩:=l;erw[m5 _ _ ?_];left;erw[ii λE6 m6=>?_];erw[#[_,Z,_,Z,_,Z,p,7,Z,B4,NP,NP,λD H5 f' g0 B5 e5=>?_]];let k5:aI p H4 H5:=aI.of_eq e5;let h7:=k5 _ _ wp a';let b1:=k5 _ _ h0 a5;let b2:=h5.mono (k5.tm B4);erw[#[_,_,Z,Z,_,Z,W,_,Z,aL.of h7,λsm n3=>?_]];erw[m6 _ _ ?_];left;erw[ii λE7 m7=>?_];symm;let⟨z1,z2⟩:=vo (ys:=ys) (k:=14+D) c3 NO NO;let m6:af H5 sm (.lst$ aT (ys.map tT) (δ 8)$ δ (14+D)) sm=δ (.lst ((bK ys (δ 8)$ δ (14+D)).map tT)):=by rw[jc,zJ]
 let k6:aI p H (af H5 sm$ .lst$ aT (ys.map tT) (δ 8)$ δ (14+D)):=(k4.trans k5).upd_new n3;let h8:=aq (o:=.lst (aT (ys.map tT) (δ 8)$ δ (14+D))) b1 n3;let d':=b2.mono (aa.tm$ je (o:=.lst (aT (ys.map tT) (δ 8)$ δ (14+D))) n3);let B6:=B5.upd_new (o:=.lst (aT (ys.map tT) (δ 8)$ δ (14+D))) n3;right;generalize af H5 sm (.lst$ aT (ys.map tT) (δ 8)$ δ (14+D))=H6 at m6 k6 h8 d' B6;generalize bK ys (δ 8) (δ (14+D))=zs at m6 z1 z2;let s':=qy B6 m6;erw[#[oF,λl2 b5=>?_]];erw[#[_,Z,p,4,Z,B6.upd_new b5,NP,NP,λd7 H7 d0 d4 B7 e7=>?_]];let k7:aI p H6 H7:=((aI.refl).upd_new b5).trans (aI.of_eq e7);let l3:=B6.ne b5;let g4:H7 l2=δ (.lst [.int 3,.int 3,.int 3,.int 5]):=by rw[e7 l2 l3];rwa[jc]
 symm;let⟨dp,g5,g6,m',o'⟩:=AE d0 d4;erw[#[l2,_,_,_,Z,Z,aL.of g4,g5,?_]];erw[m7 _ _ ?_];left;erw[ii λE8 m8=>?_];let m7:=k7 _ _ s' m6;let b7:=k7 _ _ h0 h8;let g7:=d'.mono (k7.tm B6);let k9:=k6.trans k7;erw[#[OA _,λdl N=>?_]];erw[m8 _ _ ?_];left;erw[ii λE9 m9=>?_];let d3:=B7.ne N;let n6:H dl=θ:=by
  cases z:H dl with
  |none=>rfl
  |some o=>have:=k9 _ _ d3 z;rw[N]at this;symm;cases this
 let e0:hl≠dl:=λe=>by rw[<- e,b7]at N;cases N
 let s5:sm≠dl:=λe=>by rw[<- e,m7]at N;cases N
 let p1:=h5.len;erw[fQ λJ j=>#[_,Z,hl,Z,#[_,aL.of$ aq b7 N],j _ _ ?_]];refine JS (K:=K) (a:=hl) (xs:=hv) (AK p W hl sm dl T X m dp zs hs hv H)
  #[_,_,_,_,_,_,_,[],[],Z,jc,Z,Z,#[(λc hc=>nomatch hc),Z],aq b7 N,g7.mono$ aa.tm$ je N,aq m7 N,B7.upd_new N,k9.upd_own n6,#[Z,(λi d n h=>nomatch h)]] ?_ ?_ ?_
 .intro i σ R _ l;symm;let⟨o6,o7,o8,o1,o2,o3,o4,ds,dv,rfl,h4,hD,h',x,hh,hd,b8,B8,k8,p0⟩:=l;rwa[aL.of hh]
 .intro D' _ i v σ R hx f0 Gq u l;symm;let⟨o6,o7,o8,o1,o2,o3,o4,ds,dv,rfl,h4,hD,h',x,hh,hd,b8,B8,k8,p0⟩:=l;let p2:i < ο hv:=(ξ.mp hx).1;let⟨c,hc,q0,t0,rfl,w1,w2⟩:=hd.at i v hx;erw[u ?_];let g8:=OX hc;let e4:=h6 c g8;erw[NC λF6 f6=>#[q0,_,Z,aF.of w1,Z,_,_,Z,_,_,Z,Z,f6 _ _ ?_]];show fh (eP _ _) _ D' _ _;sleep 3;erw[ii λF1 f1=>?_];erw[#[_,Z,iT,λM n2=>?_]];erw[f1 _ _ ?_];show fh (eP _ _) _ D' _ _;erw[ii λF2 f2=>?_];erw[#[gR,λb0 n4=>?_]];erw[f2 _ _ ?_];left;show fh (Gu _ _ _) _ D' _ _;erw[ii λF3 f3=>?_];let s9:aa R (af (af R M$ .lst [.int X]) b0$ .tup []):=(je n2).trans (je n4);let s4:eE (af (af R M$ .lst [.int X]) b0$ .tup []) M:=#[X,aq jc n4];let b9:af (af R M$ .lst [.int X]) b0 (.tup []) b0=δ (.tup []):=jc;let B9:au (af (af R M$ .lst [.int X]) b0$ .tup []) p:=(B8.upd_new n2).upd_new n4;let e9:iE (af (af R M$ .lst [.int X]) b0$ .tup []) M=X:=JK (aq jc n4);generalize af (af R M$ .lst [.int X]) b0 (.tup [])=H9 at s9 s4 b9 B9 e9;let e6:H M=θ:=by
   cases z:H M with
   |none=>rfl
   |some o=>have:=k8 _ _ (B8.ne n2) z;rw[n2]at this;symm;cases this
  let i0:dl≠M:=λe=>by rw[<- e,h4]at n2;cases n2
  let G9:oA H9 p sm hl M zs hs:=#[B9,s9 _ _ b8,z1,z2,#[hv,s9 _ _ hh,hd.mono$ aa.tm s9],NO,NO,λc hc=>(h6 c hc).2,s4];erw[fQ λJ j=>#[_,Z,NP,NP,j _ _ ?_]];refine zj (lo:=0) (AL hs zs p W hl sm dl t0 M T X m dp o7 o8 c H9)
   #[_,b0,.nil,[],Z,b9,Z,(by rw[e9];exact#[by show((0:Nat):Int)+_<=_;omega,f4]),pM,B9,s4,aR.refl] ?_ ?_
  .intro D0 _ j σ G hj fin2 Gq u l;symm;let⟨o9,bb,Bb,bs,rfl,b',a0,a1,I,B',U,L⟩:=l;erw[u ?_];let G0:=G9.but2 B' U L;erw[#[_,Z,_,Z,_,Z,_,Z,_,Z,_,Z,p,sm,hl,M,dp,zs,hs,Z,G0,g6,a1.2,λr b p3 H0 tj a3 i1 c0 c1 a2 S k'=>?_]];let tm:=k'.tm B' U;let lb:=a0.len;let p4:=a3.len;symm;let⟨i2,i3⟩:=a1;erw[#[bb,r,_,_,Z,Z,tm _ _ b',tj,NO,λr2 H' e8 s0=>?_]];let i4:au H' p:=by let⟨a,b,h1,h2,h3,h⟩:=a2.ob;exact#[a,b,h1,h2,h3,s0 _ _ h]
   let s7:eE H' M:=by let⟨z,hz⟩:=S;exact#[z,s0 _ _ hz]
   erw[fin2 _ _ #[_,r2,Bb.app b,_,Z,e8,(a3.mono$ aa.tm s0).app ((a0.mono tm).mono$ aa.tm s0),?_,pK I c1,i4,s7,L.trans$ k'.trans$ aR.of_same s0]];rw[j7,kr S s0];exact#[NO,c0]
  .intro σ G l;symm;let⟨o9,bb,Bb,bs,rfl,b',a0,a1,I,B',U,L⟩:=l;erw[f3 _ _ ?_];left;let O:G dl=δ (.lst dv):=L _ _ d3 i0 (s9 _ _ h4);let G0:=G9.but2 B' U L;let t3:aj R G:=λb xs e=>L.tm B9 s4 _ _ (s9 _ _ e);erw[#[_,Z,.inl #[Z,_,aL.of O],_,Z,_,Z,_,Z,gU,λr nr=>?_]];let S:aa G (af G r$ .tup [.str c.1,.ref t0,.ref bb]):=je nr;let i':=hD.len;let e':Bb.size<=40:=by let⟨i2,i3⟩:=a1;omega
   erw[#[dl,_,_,Z,Z,S _ _ O,NO,?_]];let tj:af G r (.tup [.str c.1,.ref t0,.ref bb]) r=δ (.tup [.str c.1,.ref t0,.ref bb]):=jc;let a2:=B'.upd_new (o:=.tup [.str c.1,.ref t0,.ref bb]) nr;generalize af G r (.tup [.str c.1,.ref t0,.ref bb])=H0 at S tj a2;let tm:aj H0 (af H0 dl$ .lst$ dv++[.ref r]):=λb xs e=>by rw[jh$ jM e (S _ _ O) BT];rwa[e]
   let t2:aj G (af H0 dl$ .lst$ dv++[.ref r]):=λb xs e=>tm _ _ (S _ _ e);let t1:aj R (af H0 dl$ .lst$ dv++[.ref r]):=λb xs e=>t2 _ _ (t3 _ _ e);erw[f0 _ _ #[_,_,_,_,_,_,_,ds++[#[c.1,r,t0,bb,Bb]],_,Z,jc,(hD.mono t1).snoc #[bs,Z,tm _ _ tj,t2 _ _ b',a0.mono t2],by rw[Ot,h'];rfl,#[Ju x.1 #[#[#[zs,z2,I.1.1],PR I.2 NO,OK e' NP],I.1.2],by rw[OU,x.2,RV,OL,hc];rfl],?_,hd.mono t1,?_,a2.eq$ jh$ O3 d3,?_,(by rw[RV,OL,hc];exact(p0.mono t1).snoc (d:=#[c.1,r,t0,bb,Bb]) (t1 _ _ w2) (OK e4.2 NP))]]
   .symm;let⟨p5,e1,e2⟩:=G0.h;right;rw[jh e0];rwa[S _ _$ L _ _ G9.hsp.2 G9.hsp.1$ s9 _ _ hh]
   .rw[jh s5];rwa[S _ _ G0.g]
   .erw[aI.upd_own (λb o n e=>?_) n6];rwa[S _ _$ L _ _ n (jk e e6)$ s9 _ _$ k8 _ _ n e]
 .intro σ R l;symm;let⟨o6,o7,o8,o1,o2,o3,o4,ds,dv,rfl,h4,hD,h',x,hh,hd,b8,B8,k8,p0⟩:=l;erw[m9 _ _ ?_];left;erw[#[_,Z,dl,dv,Z,.inl #[aL.of h4,λt nt=>?_]]];let nn:(ds.map Df.f).Nodup:=by
   rw[x.2,d8];erw[List.Nodup.sublist (RB _ _) ?_];let e:∀m,m<=8->ys.take m=(ys.take 8).take m:=λm hm=>by rw[V8,Rz hm]
   rw[e _ NO];rwa[C.2.sublist$ RB _ _]
  rwa[q t ds dv _ jc (hD.mono$ aa.tm$ je nt) NO (hs.map λc=>c.2.length) #[λd hd=>#[(x.1 d hd).1,by let e:=x.2;rw[Rp (by rw[Oq];omega)]at e;rw[e];let z:=(x.1 d hd).2;rw[show(hs.map λc=>(c.1,c.2.length))=(hs.map (·.1)).zip (hs.map λc=>c.2.length) by rw[List.zip_map']]at z;rwa[z]],nn,λy hy=>by rw[x.2,d8]at hy;rwa[C.1 y$ Pw$ Pw hy]] (by let z:=p0.mono (aa.tm$ je (o:=.tup dv) nt);rw[Rp (by rw[Oq];omega)]at z;rwa[z]) (B8.upd_new nt) (k8.upd_new nt)]
def gR:0<=τ:=NP
def iT:1<=τ:=NP
def ci:2<=τ:=NP
def gU:3<=τ:=NP
def oF:4<=τ:=NP
def aj.trans(a:aj H h)(b:aj h d):aj H d:=λc x e=>b c x (a c x e)
def aj.refl:aj H H:=λ_ _ e=>e
def iA(H:Hp)(y:xL ρ)(k:Nat)(a:ζ):Prop:=∃T,bJ H T a/\T.Good y/\T.depth<=k
def iA.mono(h:iA H y k a)(m:aj H b):iA b y k a:=by let⟨T,c,d⟩:=h;rwa[#[T,c.mono m,d]]
def iA.ok(h:iA H y k a)(m:k < 6):∃T,bJ H T a/\dW y T:=by let⟨T,b,c,d⟩:=h;rwa[#[T,b,c,PR d m]]
section
variable {Cf:i7}{H:Hp}{ys:xL ρ}
def GF(h:H a=δ (.tup [.str "num",.int n]))(b:0<=n)(c:n < 1000000000000000000):iA H ys 0 a:=#[.num n,h,#[b,c],OA _]
def yP(h:H a=δ (.tup [.str "var",.str x]))(b:x∈ys):iA H ys 0 a:=#[.var x,h,b,OA _]
def Sg(s:ρ):Prop:=∃i,i < 6/\s=MH i
def DG(h:H a=δ (.tup [.str "op",.str s,.ref b,.ref c]))(d:Sg s)(e:iA H ys j b)(f:iA H ys k c)(q:j < n)(r:k < n):iA H ys n a:=by let⟨i,g,rfl⟩:=d;let⟨B,l,m,t⟩:=e;let⟨C,o,p,u⟩:=f;exact#[.op i B C,#[b,c,h,l,o],#[g,m,p],by show max B.depth C.depth+1<=n;omega]
def zw:Sg "+":=#[0,NP,NM]
def Yh:Sg "-":=#[1,NP,NM]
def Yi:Sg "*":=#[2,NP,NM]
def Ck:Sg "/":=#[3,NP,NM]
def XA:Sg "<":=#[4,NP,NM]
def Lb:Sg "=":=#[5,NP,NM]
def BD(h:0<=d)(a:d < 4):∃s,eV [tT "+",.str "+",.str "*",.str "-"] d=δ (.str s)/\Sg s:=by
 rcases(NO:d=0∨d=1∨d=2∨d=3) with rfl |rfl |rfl |rfl
 .exact#[_,Z,zw]
 .exact#[_,Z,zw]
 .exact#[_,Z,Yi]
 .exact#[_,Z,Yh]
def BC(h:0<=d)(a:d < 3):∃c,eV (Str.cps "<=*").toList d=δ c/\Sg #[(ε [c])]:=by
 rcases(NO:d=0∨d=1∨d=2) with rfl |rfl |rfl
 .exact#[_,Z,XA]
 .exact#[_,Z,Lb]
 .exact#[_,Z,Yi]
def II{P:ζ->Prop}(e:0<=d)(f:d < 2)(h:P a)(c:P b):∃x,eV [xm a,.ref b] d=↑x/\P x:=by
 rcases(NO:d=0∨d=1) with rfl |rfl
 .exact#[_,Z,h]
 .exact#[_,Z,c]
def IJ{P:ζ->Prop}(g:0<=d)(i:d < 3)(h:P a)(e:P b)(f:P c):∃x,eV [xm a,.ref b,.ref c] d=↑x/\P x:=by
 rcases(NO:d=0∨d=1∨d=2) with rfl |rfl |rfl
 .exact#[_,Z,h]
 .exact#[_,Z,e]
 .exact#[_,Z,f]
def IK{P:ζ->Prop}(h:P a)(d:P b)(c:Bool):∃x,eV [xm a,.ref b] (if c then 1 else 0)=↑x/\P x:=by
 cases c
 .exact#[_,Z,h]
 .exact#[_,Z,d]
def du(Cf:i7)(H:Hp)(ys:xL ρ)(d:Nat)(v:V):Prop:=∃s,iV H v s/\(s.Ok ys/\s.Cs Cf)/\s.dep<=d/\s.size<=1+20*d
def iN(Cf:i7)(H:Hp)(ys:xL ρ)(d:Nat)(x:xL V):Prop:=∃b,eI H b x/\(b.Ok ys/\b.Cs Cf)/\b.dep<=d/\b.size<=(1+20*d)*ο x
def du.mono(h:du Cf H ys d v)(m:aj H a):du Cf a ys d v:=by let⟨s,b,c⟩:=h;rwa[#[s,b.mono m,c]]
def iN.mono(h:iN Cf H ys d x)(m:aj H a):iN Cf a ys d x:=by let⟨s,b,c⟩:=h;rwa[#[s,b.mono m,c]]
def du.up(h:du Cf H ys 0 v):du Cf H ys d v:=by let⟨s,a,b,c,e⟩:=h;rwa[#[s,a,b,NO,NO]]
def KJ:iN Cf H ys d []:=#[.nil,Z,#[trivial,trivial],OA _,OA _]
def JL{xs:xL V}(h:iN Cf H ys d xs)(g:iN Cf H ys d z):iN Cf H ys d (xs++z):=by let⟨a,c,A,f,i⟩:=h;let⟨b,e,B,j,k⟩:=g;erw[#[a.app b,e.app c,#[KH A.1 B.1,KG A.2 B.2],by rw[zu];omega,?_]];rw[j7,Ot,Nat.mul_add];omega
def zG(h:du Cf H ys d v):iN Cf H ys d [v]:=by let⟨s,a,b,c,e⟩:=h;exact#[s,a.bd,b,c,by show s.size<=(1+20*d)*1;omega]
def jY(h:du Cf H ys d v)(g:iN Cf H ys d xs):iN Cf H ys d (v::xs):=JL (xs:=[v]) (zG h) g
def XU{l:Lf}(h:H p=δ (.tup v))(a:Aj H l v)(b:l.Ok ys)(c:l.Cs Cf):du Cf H ys 0 (.ref p):=#[.lf p l .nil,.lf p l v h a,#[#[b,trivial],c,trivial],Ou 0,Ou 1]
def Li(h:H p=δ (.tup [.str "read",.str x,.ref t]))(a:x∈ys)(b:iA H ys k t)(c:↥(k < 6)):du Cf H ys 0 (.ref p):=by let⟨T,d,e⟩:=b.ok c;rwa[XU (l:=.rd x t T) h #[Z,d] #[a,e] trivial]
def Lj(h:H p=δ (.tup [.str "set",.str x,.ref t]))(a:x∈ys)(b:iA H ys k t)(c:↥(k < 6)):du Cf H ys 0 (.ref p):=by let⟨T,d,e⟩:=b.ok c;rwa[XU (l:=.st x t T) h #[Z,d] #[a,e] trivial]
def Lg(h:H p=δ (.tup [.str "give",.ref t]))(a:iA H ys k t)(b:↥(k < 6)):du Cf H ys 0 (.ref p):=by let⟨T,c,d⟩:=a.ok b;rwa[XU (l:=.gv t T) h #[Z,c] d trivial]
def Lk(h:H p=δ (.tup [.str "write",.ref t,.ref u]))(a:iA H ys k t)(b:iA H ys j u)(c:↥(k < 6))(d:↥(j < 6)):du Cf H ys 0 (.ref p):=by let⟨T,e,f⟩:=a.ok c;let⟨U,g,i⟩:=b.ok d;rwa[XU (l:=.wr t u T U) h #[Z,e,g] #[f,i] trivial]
def Le{f:ρ}(h:H p=δ (.tup [.str "call",.str x,.str f,.ref q]))(b:x∈ys)(a:(f,2)∈Cf)(d:H q=δ (.tup [.ref t,.ref u]))(e:iA H ys k t)(g:iA H ys j u)(i:↥(k < 6))(m:↥(j < 6)):du Cf H ys 0 (.ref p):=by
 let⟨T,n,o⟩:=e.ok i;let⟨U,r,s⟩:=g.ok m;erw[XU (l:=.cl x f q [(t,T),(u,U)]) h #[Z,d,λc hc=>?_] #[b,(by show 2<=6;decide),λc hc=>?_] a]
 .rcases Ξ.mp hc with rfl |hc
  .rwa[n]
  .rw[χ.mp hc];rwa[r]
 .rcases Ξ.mp hc with rfl |hc
  .rwa[o]
  .rw[χ.mp hc];rwa[s]
def Lh(h:H p=δ (.tup [.str "if",.ref t,.ref q,.ref Q]))(e:iA H ys k t)(f:H q=δ (.tup A))(g:H Q=δ (.tup B))(G:iN Cf H ys 0 A)(i:iN Cf H ys 0 B)(r:ο A+B.length<=20)(j:↥(k < 6)):du Cf H ys 1 (.ref p):=by let⟨T,l,m⟩:=e.ok j;let⟨a,n,c,s,u⟩:=G;let⟨b,o,d,v,x⟩:=i;exact#[.ite p t T a b .nil,.ite p t T a b q Q A B h l f g n o,#[#[m,c.1,d.1,trivial],c.2,d.2,trivial],(by show max (max a.dep b.dep+1) 0<=1;omega),(by show a.size+b.size+0+1<=21;omega)]
def yz(h:H p=δ (.tup [.str "while",.ref t,.ref q]))(c:iA H ys k t)(d:H q=δ (.tup A))(g:iN Cf H ys 0 A)(l:A.length<=20)(e:↥(k < 6)):du Cf H ys 1 (.ref p):=by let⟨T,f,i⟩:=c.ok e;let⟨a,j,b,m,n⟩:=g;exact#[.loop p t T a .nil,.loop p t T a q A h f d j,#[#[i,b.1,trivial],b.2,trivial],(by show max (a.dep+1) 0<=1;omega),(by show a.size+0+1<=21;omega)]
def uP(Cf:i7)(n:Nat)(H:Hp)(r:ζ)(f:ρ):Prop:=∃d:Df,CN H d (.ref r)/\(oG d/\d.b.Cs Cf)/\∃p:xL ρ,H d.pa=δ (.tup$ p.map tT)/\ο p=n/\d.f=f
def uP.mono(h:uP Cf n H r f)(m:aj H a):uP Cf n a r f:=by let⟨d,b,c,p,e,g⟩:=h;rwa[#[d,b.mono m,c,p,m _ _ e,g]]
def HV{f:ρ}{p:xL ρ}(h:H r=δ (.tup [.str f,.ref a,.ref b]))(d:H a=δ (.tup$ p.map tT))(e:ο p=n)(i:H b=δ (.tup x))(g:iN Cf H ys 1 x)(l:ο x<=100)(j:ys.length<=20):uP Cf n H r f:=by let⟨c,k,C,m,o⟩:=g;exact#[#[f,r,a,b,c],#[x,Z,h,i,k],#[#[#[ys,j,C.1],(by show c.dep < 8;omega),(by show c.size<=3000;omega)],C.2],p,d,e,Z]
structure Wd(H0 H:Hp)(p wl:ζ)(ys:xL ρ):Prop where
 B:au H p
 K:aI p H0 H
 w:H wl=δ (.lst$ ys.map tT)
def Wd.np(h:Wd b H p a ys):a≠p:=qy h.B h.w
def Wd.same(h:Wd a H p b ys)(s:aa H c):Wd a c p b ys:=#[h.B.same s,h.K.trans$ aI.of_same s,s _ _ h.w]
def Wd.but(h:Wd b H p c ys)(B:au a p)(k:aI p H a):Wd b a p c ys:=#[B,h.K.trans k,k _ _ h.np h.w]
def Wd.own{xs:xL V}(h:Wd a H p b ys)(n:a l=θ)(L:l≠p)(c:l≠b):Wd a (af H l$ .lst z) p b ys:=#[h.B.eq$ jh$ O3 L,h.K.upd_own n,by rw[jh$ O3 c];rwa[h.w]]
def Xj(h:H l=δ (.lst x)):aj H (af H l$ .lst a):=λb u e=>by rw[jh$ jM e h BT];rwa[e]
end
inductive og(d:xL V)(H:Hp)(Q:VK)(c:XK):Prop
 |mk(p a b:ζ)(e:xL ρ)(k:Nat)(_:d=[.ref p,.ref a,.ref b])(_:au H p)(_:iA H e k a)(_:iA H e k b)(_:∀(r:ζ) (H':Hp),iA H' e (k+1) r->au H' p->aI p H H'->Q (.ref r) H')
inductive dQ(n:Nat)(b:xL V)(H:Hp)(Q:VK)(a:XK):Prop
 |mk(p c:ζ)(f g:ρ)(d:xL ρ)(_:b=[.ref p,.str f,.str g,.ref c])(_:au H p)(_:H c=δ (.lst (d.map tT)))(_:ο d=6)(_:∀(r:ζ) (H':Hp),uP [(g,2)] n H' r f->au H' p->aI p H H'->Q (.ref r) H')
abbrev ME:bU:=bX 69
abbrev o0:bU:=bX 70
abbrev iX:bU:=bX 71
abbrev hZ:bU:=bX 72
abbrev xI:bU:=bX 73
def Mw{A:xL V}(h:ο A=5):∃a b c d e,A=[a,b,c,d,e]:=by
 cases A with
 |nil=>cases h
 |cons a r=>
  cases r with
  |nil=>cases h
  |cons b R=>
   cases R with
   |nil=>cases h
   |cons c f=>
    cases f with
    |nil=>cases h
    |cons d g=>
     cases g with
     |nil=>cases h
     |cons e i=>
      cases i with
      |nil=>exact#[a,b,c,d,e,Z]
      |cons _ _=>cases h
def Nt{n:Nat}:oV (n+1) 0=δ 0:=by unfold oV;rw[OB NP,OB NO];rfl
def Nu{n:Nat}:oV (n+2) 1=δ 1:=by unfold oV;rw[OB NP,OB NO];rfl
def iB:eV (v::u::y) 1=δ u:=jH (j:=1) Z
structure Fw(p:ζ)(H H':Hp):Prop where
 t:aj H H'
 b:aI p H H'
def Fw.refl:Fw p H H:=#[aj.refl,aI.refl]
def Fw.trans(a:Fw p H h)(b:Fw p h c):Fw p H c:=#[a.t.trans b.t,a.b.trans b.b]
def Fw.new{p:ζ}{H:Hp}{o:HO}(n:H r=θ):Fw p H (af H r o):=#[aa.tm$ je n,aI.of_same$ je n]
def Fw.same(s:aa H h):Fw p H h:=#[aa.tm s,aI.of_same s]
def Fw.but(B:au H p)(c:aI p H h):Fw p H h:=#[c.tm B,c]
def pF(P:Hp->V->Prop):Prop:=∀H h v,aj H h->P H v->P h v
def Ev(a:Hp)(p W:ζ)(y:xL ρ)(b:Hp)(c:_L.St)(t:TE)(P:Hp->V->Prop):Prop:=∀(H:Hp) (Q:VK),Fw p b H->Wd a H p W y->(∀v h,P h v->Wd a h p W y->Fw p H h->Q v h)->t c H Q
def PT(y:xL ρ)(k:Nat)(H:Hp)(v:V):Prop:=∃a,v= .ref a/\iA H y k a
def PB(C:i7)(y:xL ρ)(d n:Nat)(H:Hp)(v:V):Prop:=∃a x,v= .ref a/\H a=δ (.tup x)/\iN C H y d x/\ο x<=n
def PN(y:xL ρ)(_:Hp)(v:V):Prop:=∃x,v= .str x/\x∈y
def PG(_:Hp)(v:V):Prop:=∃s,v= .str s/\Sg s
def PP(n:Nat)(H:Hp)(v:V):Prop:=∃(a:ζ) (x:xL ρ),v= .ref a/\H a=δ (.tup$ x.map tT)/\ο x=n
def Ak(y:ρ)(_:Hp)(v:V):Prop:=v= .str y
def PD(C:i7)(n:Nat)(f:ρ)(H:Hp)(v:V):Prop:=∃a,v= .ref a/\uP C n H a f
section
variable {Cf:i7}{ys:xL ρ}{H0 Hb:Hp}{p wl:ζ}{σ:_L.St}
def aB:pF (PT ys k):=λ_ _ _ m #[a,e,h]=>#[a,e,h.mono m]
def eW:pF (PB Cf ys d n):=λ_ _ _ m #[a,x,e,h,H,b]=>#[a,x,e,m _ _ h,H.mono m,b]
def fg:pF λH v=>du Cf H ys d v:=λ_ _ _ m h=>h.mono m
def mx:pF (PD Cf n f):=λ_ _ _ m #[a,e,h]=>#[a,e,h.mono m]
def Ev.up{P R:Hp->V->Prop}(h:#[] t P)(k:∀H v,P H v->R H v):#[] t R:=λH Q m W q=>h H Q m W λv a x=>q v a (k _ _ x)
def jP{P:Hp->V->Prop}(e:σ[i]?=δ (δ v))(M:pF P)(h:P Hb v):#[] (bj i) P:=λH Q m W q=>#[v,e,q v H (M _ _ _ m.t h) W .refl]
def qu(h:Sg s):#[] (tC$ .str s) PG:=λH Q m W q=>q _ H #[s,Z,h] W .refl
def kQ{K:β}(e:σ[j]?=δ (↑wl))(a:0<=i)(b:i < (ys.length:Int)):#[] (fc (lV K) (bj j)$ tC$ .int i) (PN ys):=λH Q m W q=>by let⟨y,c,h⟩:=KF (ys:=ys) a b;exact#[_,e,wl,_,_,_,Z,Z,aL.of W.w,h,q _ H #[y,Z,c] W .refl]
def kJ{Q:VK}{P:Hp->V->Prop}(W:Wd H0 H p wl ys)(q:∀v h,P h v->Wd H0 h p wl ys->Fw p H h->Q v h)(n:H r=θ)(x:aj H (af H r o)->af H r o r=δ o->P (af H r o) (.ref r)):Q (.ref r) (af H r o):=
 q _ _ (x (aa.tm$ je n) jc) (W.same$ je n) (.new n)
abbrev Ae(n:Int):TE:=fb bo [] E0 (ap (bj 0)$ ap (tC$ .int n) aY)
def PK(n:Int)(_:Hp)(v:V):Prop:=∃d:Int,v= .int d/\0<=d/\d < n
def za(e:σ[0]?=δ (↑p))(h:1<=n)(c:n<=1000):#[] (Ae n) (PK n):=λH Q m W q=>
 #[_,e,p,n,Z,W.B,NO,NO,λd f D a b E=>q _ _ #[d,Z,D,a] (W.but b$ aI.of_eq E) (.but W.B$ aI.of_eq E)]
def kK(h:#[] t (PK n))(g:n<=1000000000000000000):#[] (cQ$ ap (tC$ .str "num")$ ap t aY) (PT ys 0):=λH Q m W q=>
 h H _ m W λv i #[d,e,D,j] a b=>#[ci,λr N=>kJ (P:=PT ys 0) a (λV c x f k=>q V c x f (b.trans k)) N λ_ z=>#[r,Z,GF (by rw[z,e]) D NO]]
def Xh(h:0<=n)(a:n < m):#[] (tC$ .int n) (PK m):=λH Q _ W q=>q _ H #[n,Z,h,a] W .refl
def Xk(h:#[] t (PK n))(c:0<=m):#[] (fc (Ad λi j=>vr (i+j)) (tC$ .int m) t) (PK$ m+n):=λH Q M W q=>
 h H _ M W λv a #[d,e,D,f] b k=>#[m,d,Z,e,q _ a #[m+d,Z,NO,NO] b k]
def Kv(h:#[] t (PN ys)):#[] (cQ$ ap (tC$ .str "var")$ ap t aY) (PT ys 0):=λH Q m W q=>
 h H _ m W λv i #[d,e,a] b c=>#[ci,λr n=>kJ (P:=PT ys 0) b (λV f x g k=>q V f x g (c.trans k)) n λ_ z=>#[r,Z,yP (by rw[z,e]) a]]
def qp{n:Nat}(h:#[] T PG)(f:#[] g (PT ys j))(i:#[] l (PT ys k))(o:j < n)(u:k < n):#[] (cQ$ ap (tC$ .str "op")$ ap T$ ap g$ ap l aY) (PT ys n):=λH Q m W q=>
 h H _ m W λM v #[s,E,X] y c=>f v _ (m.trans c) y λO A #[a,B,C] D d=>i A _ ((m.trans c).trans d) D λR S #[b,F,G] I e=>#[oF,λr N=>kJ (P:=PT ys n) I (λV J x L k=>q V J x L (((c.trans d).trans e).trans k)) N λt z=>
  #[r,Z,DG (by rw[z,E,B,F]) X ((C.mono e.t).mono t) (G.mono t) o u]]
def Ic(e:σ[0]?=δ (↑p)):#[] (fc BJ (tC$ .str "<=*")$ Ae 3) PG:=λH Q m W q=>
 za e NP NP H _ m W λv h #[d,E,D,a] b k=>by let⟨g,i,x⟩:=BC D a;exact#["<=*",d,g,Z,E,NM,i,q _ h #[_,Z,x] b k]
def ZG{K:β}(e:σ[0]?=δ (↑p))(r:#[] T (PT ys k))(s:#[] u (PT ys k)):#[] (fc (lV K) (on$ ap T$ ap u aY)$ Ae 2) (PT ys k):=λH Q m W q=>
 r H _ m W λV y #[a,E,X] z c=>s y _ (m.trans c) z λA C #[b,D,F] h f=>#[ci,λl n=>za e NP NP _ _ (((m.trans c).trans f).trans$ .new n) (h.same$ je n) λv G #[d,I,J,L] M j=>by
  let⟨g,i,x⟩:=II (P:=iA C ys k) J L (X.mono f.t) F;rw[<- E,<- D]at i;let t:=(Fw.new (p:=p) (o:=HO.lst [V,A]) n).trans j;exact#[l,_,d,_,Z,I,aL.of$ j.b _ _ (h.B.ne n) jc,i,q _ G #[g,Z,x.mono t.t] M ((c.trans f).trans t)]]
def C2{K:β}(e:σ[0]?=δ (↑p))(u:#[] T (PT ys k))(y:#[] z (PT ys k))(A:#[] C (PT ys k)):#[] (fc (lV K) (on$ ap T$ ap z$ ap C aY)$ Ae 3) (PT ys k):=λH Q m W q=>
 u H _ m W λV D #[a,E,X] F f=>y D _ (m.trans f) F λG I #[b,J,L] M h=>A I _ ((m.trans f).trans h) M λN O #[c,R,S] r j=>#[gU,λl n=>za e NP NP _ _ ((((m.trans f).trans h).trans j).trans$ .new n) (r.same$ je n) λv U #[d,Y,d0,d1] W4 s=>by
  let⟨g,i,x⟩:=IJ (P:=iA O ys k) d0 d1 (X.mono (h.trans j).t) (L.mono j.t) S;rw[<- E,<- J,<- R]at i;let t:=(Fw.new (p:=p) (o:=HO.lst [V,G,N]) n).trans s;exact#[l,_,d,_,Z,Y,aL.of$ s.b _ _ (r.B.ne n) jc,i,q _ U #[g,Z,x.mono t.t] W4 (((f.trans h).trans j).trans t)]]
def Ia{K:β}(e:σ[0]?=δ (↑p))(r:1<=n)(s:n<=1000)(u:#[] T (PT ys k))(y:#[] z (PT ys k)):#[] (fc (lV K) (on$ ap T$ ap z aY)$ LU (λX H Q=>(∃i,X=[vr i]/\Q (vr i) H)∨∃k,X=[V.bl k]/\Q (vr (if k=μ then 1 else 0)) H)$ ap (fc IN (Ae n)$ tC$ .int 0) aY) (PT ys k):=λH Q m W q=>
 u H _ m W λA C #[a,E,D] F c=>y C _ (m.trans c) F λG I #[b,J,L] h f=>#[ci,λl N=>za e r s _ _ (((m.trans c).trans f).trans$ .new N) (h.same$ je N) λv M #[d,O,S,U] R j=>by
  subst O;erw[#[Z,.inr #[_,Z,?_]]];let⟨g,i,x⟩:=IK (P:=iA I ys k) (D.mono f.t) L _;rw[<- E,<- J]at i;let t:=(Fw.new (p:=p) (o:=HO.lst [A,G]) N).trans j;exact#[l,_,_,_,Z,Z,aL.of$ j.b _ _ (h.B.ne N) jc,i,q _ M #[g,Z,x.mono t.t] R ((c.trans f).trans t)]]
def Kw(e:σ[0]?=δ (↑p))(h:#[] T (PT ys k))(g:#[] i (PT ys k)):#[] (fb og [] E0$ ap (bj 0)$ ap T$ ap i aY) (PT ys$ k+1):=λH Q m W q=>
 #[_,e,h H _ m W λv j #[a,E,x] l d=>g j _ (m.trans d) l λV y #[b,n,X] c f=>#[p,a,b,ys,k,by rw[E,n];rfl,c.B,x.mono f.t,X,λr o s u C=>q _ o #[r,Z,s] (c.but u C) ((d.trans f).trans$ .but c.B C)]]
def AG{w:ρ}{T a:TE}{A B R:Hp->V->Prop}(M:pF A)(d:pF B)(e:#[] T A)(f:#[] a B)(h:∀H r u v,H r=δ (.tup [.str w,u,v])->A H u->B H v->R H (.ref r)):#[] (cQ$ ap (tC$ .str w)$ ap T$ ap a aY) R:=λH Q m W q=>
 e H _ m W λC g X i b=>f g _ (m.trans b) i λD E j l c=>#[gU,λr n=>kJ (P:=R) l (λo s x y k=>q o s x y ((b.trans c).trans k)) n λt z=>h _ _ _ _ z (M _ _ _ t$ M _ _ _ c.t X) (d _ _ _ t j)]
def Mq{w:ρ}{T:TE}{A R:Hp->V->Prop}(M:pF A)(a:#[] T A)(h:∀H r u,H r=δ (.tup [.str w,u])->A H u->R H (.ref r)):#[] (cQ$ ap (tC$ .str w)$ ap T aY) R:=λH Q m W q=>
 a H _ m W λf g X b c=>#[ci,λr n=>kJ (P:=R) b (λv d x e k=>q v d x e (c.trans k)) n λt z=>h _ _ _ z (M _ _ _ t X)]
def HX{w:ρ}{T d e:TE}{A B C R:Hp->V->Prop}(M:pF A)(f:pF B)(g:pF C)(i:#[] T A)(j:#[] d B)(l:#[] e C)(h:∀H r u v x,H r=δ (.tup [.str w,u,v,x])->A H u->B H v->C H x->R H (.ref r)):#[] (cQ$ ap (tC$ .str w)$ ap T$ ap d$ ap e aY) R:=λH Q m W q=>
 i H _ m W λL n X o a=>j n _ (m.trans a) o λO s y D b=>l s _ ((m.trans a).trans b) D λS U E F c=>#[oF,λr N=>kJ (P:=R) F (λG I x J k=>q G I x J (((a.trans b).trans c).trans k)) N λt z=>h _ _ _ _ _ z (M _ _ _ t$ M _ _ _ (b.trans c).t X) (f _ _ _ t$ f _ _ _ c.t y) (g _ _ _ t E)]
def Ew:pF (PN ys):=λ_ _ _ _ h=>h
def Kx{t T:TE}{k:Nat}(h:#[] t (PN ys))(b:#[] T (PT ys k))(c:k < 6):#[] (cQ$ ap (tC$ .str "read")$ ap t$ ap T aY) (λH v=>du Cf H ys 0 v):=AG Ew aB h b λH r u v z #[x,e,d] #[a,E,f]=>Li (by rw[z,e,E]) d f c
def JX{t T:TE}{k:Nat}(h:#[] t (PN ys))(b:#[] T (PT ys k))(c:k < 6):#[] (cQ$ ap (tC$ .str "set")$ ap t$ ap T aY) (λH v=>du Cf H ys 0 v):=AG Ew aB h b λH r u v z #[x,e,d] #[a,E,f]=>Lj (by rw[z,e,E]) d f c
def Ky{t T:TE}{j k:Nat}(h:#[] t (PT ys j))(b:#[] T (PT ys k))(c:j < 6)(d:k < 6):#[] (cQ$ ap (tC$ .str "write")$ ap t$ ap T aY) (λH v=>du Cf H ys 0 v):=AG aB aB h b λH r u v z #[x,e,f] #[a,E,g]=>Lk (by rw[z,e,E]) f g c d
def XV{t:TE}{k:Nat}(h:#[] t (PT ys k))(b:k < 6):#[] (cQ$ ap (tC$ .str "give")$ ap t aY) (λH v=>du Cf H ys 0 v):=Mq aB h λH r v z #[a,e,c]=>Lg (by rw[z,e]) c b
def vK{n o T c:TE}{j k:Nat}(C:#[] n (PN ys)){f:ρ}(D:#[] o (Ak f))(d:(f,2)∈Cf)(F:#[] T (PT ys j))(G:#[] c (PT ys k))(I:j < 6)(J:k < 6):#[] (cQ$ ap (tC$ .str "call")$ ap n$ ap o$ ap (cQ$ ap T$ ap c aY) aY) (λH v=>du Cf H ys 0 v):=by
 let' R:Hp->V->Prop:=λH v=>∃q a b,v= .ref q/\H q=δ (.tup [.ref a,.ref b])/\iA H ys j a/\iA H ys k b
 let M:pF R:=λ_ _ _ m #[q,a,b,e,g,L,i]=>#[q,a,b,e,m _ _ g,L.mono m,i.mono m];let N:#[] (cQ$ ap T$ ap c aY) R:=λH Q m W q=>
  F H _ m W λv2 O #[a,E,X] S s=>G O _ (m.trans s) S λv3 H3 #[b,l,U] Y A=>#[ci,λr nr=>kJ (P:=R) Y (λv' H' x W' k=>q v' H' x W' ((s.trans A).trans k)) nr λt z=>#[r,a,b,Z,by rw[z,E,l],(X.mono A.t).mono t,U.mono t]]
 rwa[HX Ew (B:=Ak f) (λ_ _ _ _ h=>h) M C D N λH r u v x z #[y,e1,g] (E:v= .str f) #[q,a,b,l,i,h4,h5]=>Le (f:=f) (by rw[z,e1,E,l]) g d i h4 h5 I J]
def C1{t T b:TE}{k n m:Nat}(h:#[] t (PT ys k))(c:#[] T (PB Cf ys 0 n))(d:#[] b (PB Cf ys 0 m))(e:k < 6)(s:n+m<=20):#[] (cQ$ ap (tC$ .str "if")$ ap t$ ap T$ ap b aY) (λH v=>du Cf H ys 1 v):=
 HX aB eW eW h c d λH r u v x z #[a,E,f] #[Q,X,g,i,j,y] #[A,B,l,o,q,C]=>Lh (by rw[z,E,g,l]) f i o j q NO e
def C6{t T:TE}{k n:Nat}(h:#[] t (PT ys k))(b:#[] T (PB Cf ys 0 n))(c:k < 6)(i:n<=20):#[] (cQ$ ap (tC$ .str "while")$ ap t$ ap T aY) (λH v=>du Cf H ys 1 v):=
 AG aB eW h b λH r u v z #[a,e,d] #[q,x,E,f,g,j]=>yz (by rw[z,e,E]) d f g NO c
def C0{d:Nat}:#[] (cQ aY) (PB Cf ys d 0):=λH Q m W q=>#[gR,λr n=>kJ (P:=PB Cf ys d 0) W q n λt z=>#[r,[],Z,z,KJ,Ou 0]]
def Kz(h:#[] T (λH v=>du Cf H ys d v)):#[] (cQ$ ap T aY) (PB Cf ys d 1):=λH Q m W q=>
 h H _ m W λf g X a b=>#[iT,λr n=>kJ (P:=PB Cf ys d 1) a (λV c x e k=>q V c x e (b.trans k)) n λt z=>#[r,_,Z,z,zG$ X.mono t,Ou 1]]
def ZH(h:#[] T (λH v=>du Cf H ys d v))(c:#[] e (λH v=>du Cf H ys d v)):#[] (cQ$ ap T$ ap e aY) (PB Cf ys d 2):=λH Q m W q=>
 h H _ m W λs f X g a=>c f _ (m.trans a) g λu y i j b=>#[ci,λr n=>kJ (P:=PB Cf ys d 2) j (λV l x o k=>q V l x o ((a.trans b).trans k)) n λt z=>#[r,_,Z,z,jY ((X.mono b.t).mono t)$ zG$ i.mono t,Ou 2]]
def HY(h:#[] T (λH v=>du Cf H ys d v))(e:#[] f (λH v=>du Cf H ys d v))(g:#[] i (λH v=>du Cf H ys d v)):#[] (cQ$ ap T$ ap f$ ap i aY) (PB Cf ys d 3):=λH Q m W q=>
 h H _ m W λC j X l a=>e j _ (m.trans a) l λD n o s b=>g n _ ((m.trans a).trans b) s λE F u y c=>#[gU,λr N=>kJ (P:=PB Cf ys d 3) y (λV A x B k=>q V A x B (((a.trans b).trans c).trans k)) N λt z=>#[r,_,Z,z,jY ((X.mono (b.trans c).t).mono t)$ jY ((o.mono c.t).mono t)$ zG$ u.mono t,Ou 3]]
def qY(h:#[] T (PB Cf ys d n))(e:#[] f (PB Cf ys d m))(B:n+m<=100):#[] (fc xA T f) (PB Cf ys d$ n+m):=λH Q M W q=>
 h H _ M W λV g #[a,x,E,i,X,L] j c=>e g _ (M.trans c) j λC D #[b,z,l,o,u,F] v k=>#[a,b,x,z,E,l,k.t _ _ i,o,OK (show ο x+ο z<=100 by omega) NP,λr y A s=>q _ y #[r,_,Z,A,JL ((X.mono k.t).mono$ aa.tm s)$ u.mono$ aa.tm s,by rw[Ot];omega] (v.same s) ((c.trans k).trans$ .same s)]
def QQ(e:σ[i]?=δ (δ$ .str x)):#[] (bj i) (Ak x):=jP e (λ_ _ _ _ h=>h) Z
def ZI(h:#[] T (Ak f))(g:#[] i (PP m))(j:#[] l (PB Cf ys 1 n))(O:n<=100)(o:ys.length<=20):#[] (cQ$ ap T$ ap i$ ap l aY) (PD Cf m f):=λH Q M W q=>
 h H _ M W λv s (E:v= .str f) u c=>g s _ (M.trans c) u λR y #[a,S,A,B,L] C d=>j y _ ((M.trans c).trans d) C λU Y #[b,xs,D,F,X,l4] G e=>#[gU,λr N=>kJ (P:=PD Cf m f) G (λV I x J k=>q V I x J (((c.trans d).trans e).trans k)) N λt z=>
  #[r,Z,HV (f:=f) (by rw[z,E,A,D]) (t _ _$ e.t _ _ B) L (t _ _ F) (X.mono t) NO o]]
def C3(h:#[] T (PN ys)):#[] (cQ$ ap T aY) (PP 1):=λH Q m W q=>
 h H _ m W λV f #[X,e,_] a b=>#[iT,λr n=>kJ (P:=PP 1) a (λv c x d k=>q v c x d (b.trans k)) n λt z=>#[r,[X],Z,by rw[z,e];rfl,Z]]
def C4(h:#[] T (PN ys))(b:#[] c (PN ys)):#[] (cQ$ ap T$ ap c aY) (PP 2):=λH Q m W q=>
 h H _ m W λV d #[X,e,_] f a=>b d _ (m.trans a) f λs u #[g,E,_] i j=>#[ci,λr n=>kJ (P:=PP 2) i (λv l x o k=>q v l x o ((a.trans j).trans k)) n λt z=>#[r,[X,g],Z,by rw[z,e,E];rfl,Z]]
def du.lift(h:du Cf H ys 0 v):du Cf H ys 1 v:=h.up
def PB.lift(h:PB Cf ys 0 n H v):PB Cf ys 1 n H v:=let #[a,x,e,c,#[b,B,d,g,i],f]:=h;#[a,x,e,c,#[b,B,d,NO,NO],f]
def PB.more(h:PB Cf ys d n H v)(k:n<=m):PB Cf ys d m H v:=by let⟨a,x,e,b,c,f⟩:=h;rwa[#[a,x,e,b,c,OK f k]]
def Jc{a b:TS}(W:Wd H0 H p wl ys)(e:σ[0]?=δ (↑p))(g:1<=n)(i:n<=1000)(j:∀h,Wd H0 h p wl ys->Fw p H h->a D σ h)(l:∀h,Wd H0 h p wl ys->Fw p H h->b D σ h):lQ (ms$ fc IN (Ae n)$ tC$ .int 0) a b D σ H:=
 za (Hb:=H) e g i H _ .refl W λv c #[d,E,m,o] f k=>by subst E;exact#[Z,_,Z,cw (λ_=>j c f k) (λ_=>l c f k)]
def jW{D:bp}{P:Hp->V->Prop}(W:Wd H0 H p wl ys)(h:Ev H0 p wl ys H σ t P)(q:∀v a,P a v->Wd H0 a p wl ys->Fw p H a->D.nx (σ.set i$ δ v) a):eP t (bH i) D σ H:=h H _ .refl W q
def Xl{D:bp}{P:Hp->V->Prop}(W:Wd H0 H p wl ys)(h:Ev H0 p wl ys H σ t P)(q:∀v a,P a v->Wd H0 a p wl ys->D.rt v a):iy t D σ H:=h H _ .refl W λv a x b _=>q v a x b
def Ci{K:β}{D:bp}(W:Wd H0 H p wl ys)(d:Ev H0 p wl ys H σ T (PT ys 0))(e:Ev H0 p wl ys H σ f (PT ys 0))(g:Ev H0 p wl ys H σ l (PT ys 0))
  (q:∀u v w h,PT ys 0 h u->PT ys 0 h v->PT ys 0 h w->Wd H0 h p wl ys->Fw p H h->D.nx (((σ.set k$ δ w).set j$ δ v).set i$ δ u) h):DA K (cQ$ ap T$ ap f$ ap l aY) i j k D σ H:=
 d H _ .refl W λV m x o a=>e m _ a o λs y X z b=>g y _ (a.trans b) z λA E B C c=>#[gU,λr n=>#[r,_,_,_,Z,aF.of jc,q V s A _ (aB _ _ _ (aa.tm$ je n)$ aB _ _ _ (b.trans c).t x) (aB _ _ _ (aa.tm$ je n)$ aB _ _ _ c.t X) (aB _ _ _ (aa.tm$ je n) B) (C.same$ je n) (((a.trans b).trans c).trans$ .new n)]]
structure Ow(H0 H:Hp)(p wl l:ζ)(xs:xL V):Prop where
 hl:H l=δ (.lst xs)
 np:l≠p
 lw:l≠wl
 l0:H0 l=θ
def Ow.fw(o:Ow H0 H p wl l x)(k:Fw p H h):Ow H0 h p wl l x:=#[k.b _ _ o.np o.hl,o.np,o.lw,o.l0]
def Ow.new(W:Wd H0 H p wl ys)(n:H l=θ):Ow H0 (af H l$ .lst x) p wl l x:=#[jc,W.B.ne n,(λe=>by let z:=W.w;rw[<- e,n]at z;cases z),W.K.none W.B n]
def IF{D:bp}(W:Wd H0 H p wl ys)(b:Ev H0 p wl ys H σ t (λH v=>du Cf H ys 0 v))(q:∀l v h,Ow H0 h p wl l [v]->du Cf h ys 0 v->Wd H0 h p wl ys->Fw p H h->D.nx (σ.set i$ ↑l) h):eP (on$ ap t aY) (bH i) D σ H:=
 b H _ .refl W λV c x a k=>#[iT,λl n=>q l V _ (.new a n) (x.mono$ aa.tm$ je n) (a.same$ je n) (k.trans$ .new n)]
def IG{D:bp}(W:Wd H0 H p wl ys)(c:Ev H0 p wl ys H σ T (λH v=>du Cf H ys 0 v))(d:Ev H0 p wl ys H σ e (λH v=>du Cf H ys 0 v))(q:∀l u v h,Ow H0 h p wl l [u,v]->du Cf h ys 0 u->du Cf h ys 0 v->Wd H0 h p wl ys->Fw p H h->D.nx (σ.set i$ ↑l) h):eP (on$ ap T$ ap e aY) (bH i) D σ H:=
 c H _ .refl W λV f x g k=>d f _ k g λj m X a b=>#[ci,λl n=>q l V j _ (.new a n) ((x.mono b.t).mono$ aa.tm$ je n) (X.mono$ aa.tm$ je n) (a.same$ je n) ((k.trans b).trans$ .new n)]
def JM{K:β}{D:bp}(W:Wd H0 H p wl ys)(a:σ[i]?=δ (↑l))(o:Ow H0 H p wl l xs)(b:ο xs<=100)(c:Ev H0 p wl ys H σ T (λH v=>du Cf H ys 0 v))
  (q:∀v h,du Cf h ys 0 v->Ow H0 h p wl l (xs++[v])->Wd H0 h p wl ys->aj H h->D.nx σ h):sh (MM K "list" mz (bj i)$ ap T aY) D σ H:=
 #[_,a,.inl #[Z,_,aL.of o.hl],c H _ .refl W λv e x d k=>#[l,xs,v,Z,Z,(o.fw k).hl,PR b NP,q v _ (x.mono$ Xj (o.fw k).hl) #[jc,o.np,o.lw,o.l0] (d.own (xs:=xs) o.l0 o.np o.lw) (k.t.trans$ Xj (o.fw k).hl)]]
def Cw{K:β}{D:bp}(W:Wd H0 H p wl ys)(h:σ[i]?=δ (↑l))(o:Ow H0 H p wl l (u::v::z))
  (q:∀a,Ow H0 a p wl l (v::u::z)->Wd H0 a p wl ys->aj H a->D.nx σ a):eP (cQ$ ap (fc (lV K) (bj i)$ tC$ .int 1)$ ap (fc (lV K) (bj i)$ tC$ .int 0) aY) (sX K 2$ dZ (Ee (bj i) (tC$ .int 0) rC)$ dZ (Ee (bj i) (tC$ .int 1) rC) vV) D σ H:=
 #[_,h,l,_,_,_,Z,Z,aL.of o.hl,iB,_,h,l,_,_,_,Z,Z,aL.of o.hl,eJ,ci,λt N=>#[t,_,Z,aF.of jc,Z,_,_,Z,_,h,l,_,0,0,Z,Z,aq o.hl N,Nt (n:=ο z+1),_,_,Z,_,h,l,_,1,1,Z,Z,jc,Nu (n:=z.length),Z,
  q _ #[jc,o.np,o.lw,o.l0] (((W.same$ je N).own (xs:=u::v::z) o.l0 o.np o.lw).own (xs:=u::v::z) o.l0 o.np o.lw) (((aa.tm$ je N).trans$ Xj$ aq o.hl N).trans$ Xj jc)]]
def C5{K:β}{n:Nat}(e:σ[i]?=δ (↑l))(o:Ow H0 Hb p wl l x)(h:iN Cf Hb ys 0 x)(a:ο x<=n):#[] (LU (kP K)$ ap (bj i) aY) (PB Cf ys 0 n):=λH Q m W q=>
 #[_,e,l,x,Z,.inl #[aL.of (o.fw m).hl,λr N=>kJ (P:=PB Cf ys 0 n) W q N λt z=>#[r,x,Z,z,(h.mono m.t).mono t,a]]]
def DV{D:bp}(W:Wd H0 H p wl ys)(u:σ[i]?=δ (↑l))(y:σ[j]?=δ (↑m))(o:Ow H0 H p wl l x)(O:Ow H0 H p wl m z)(C:ο x+ο z<=100)(E:iN Cf H ys 0 x)(F:iN Cf H ys 0 z)
  (G:Ev H0 p wl ys H σ T (λH v=>du Cf H ys 0 v)) (I:Ev H0 p wl ys H σ J (λH v=>du Cf H ys 0 v)) (q:∀r U h,Ow H0 h p wl r U->iN Cf h ys 0 U->ο U<=ο x+ο z+2->Wd H0 h p wl ys->Fw p H h->D.nx (σ.set i$ ↑r) h):
  eP (fc BG (fc BG (bj i)$ bj j)$ on$ ap T$ ap J aY) (bH i) D σ H:=
 #[_,u,_,y,l,m,_,_,Z,Z,o.hl,O.hl,OK C NP,λc n=>G _ _ (.new n) (W.same$ je n) λV L X M k=>I L _ ((Fw.new n).trans k) M λe R Q A s=>#[ci,λd N=>#[c,d,_,_,Z,Z,aq ((k.trans s).b _ _ (W.B.ne n) jc) N,jc,by
  let:=aN;show(x++z).length+2<=τ;rw[Ot];omega,λr a=>q r _ _ (.new (A.same$ je N) a) (by
   let f:=(((Fw.new n).trans k).trans s).trans ((Fw.new (p:=p) (o:=HO.lst [V,e]) N).trans$ Fw.new (o:=HO.lst ((x++z)++[V,e])) a);let g:=(Fw.new (p:=p) (o:=HO.lst [V,e]) N).trans (Fw.new (o:=HO.lst ((x++z)++[V,e])) a);rwa[JL (JL (E.mono f.t)$ F.mono f.t)$ jY ((X.mono s.t).mono g.t)$ zG$ Q.mono g.t]) (by rw[Ot,Ot];rwa[Ou _]) ((A.same$ je N).same$ je a) ((((Fw.new n).trans k).trans s).trans ((Fw.new N).trans$ Fw.new a))]]]
def pN{K:β}{D:bp}(W:Wd H0 H p wl ys)(k:σ[3]?=δ (↑wl))(l:ο ys=6)
  (q:∀a b c d e g,PT ys 0 g a->PT ys 0 g b->PT ys 0 g c->PT ys 0 g d->PT ys 0 g e->Wd H0 g p wl ys->D.nx (((((σ.set 4$ δ a).set 5$ δ b).set 6$ δ c).set 7$ δ d).set 8$ δ e) g):
  eP (yC (Dc K$ LV (BK K) (bj 3) ny$ oq$ tC$ vr 5) 1 [] (bH 0) nq$ cQ$ ap (tC$ tT "var")$ ap (bj 0) aY) (Mr K 5$ dZ (bH 4)$ dZ (bH 5)$ dZ (bH 6)$ dZ (bH 7)$ dZ (bH 8) vV) D σ H:=by
 let B:=aN;erw[#[_,k,_,Z,wl,_,Z,aL.of W.w,λs n=>?_]];let E:aT (ys.map tT) θ (δ 5)=(ys.take 5).map tT:=by rw[show(5:Int)=((5:Nat):Int) from Z,HL (by rw[Oq];omega),Sz]
 let t:af H s (.lst$ aT (ys.map tT) θ$ δ 5) s=δ (.lst ((ys.take 5).map tT)):=by rw[E];rwa[jc]
 let S:=je (o:=HO.lst (aT (ys.map tT) θ$ δ 5)) n;generalize af H s (.lst$ aT (ys.map tT) θ$ δ 5)=A at t S;erw[#[s,Z,#[_,aL.of t],?_]];erw[Xa (K:=K) (a:=s) (xs:=(ys.take 5).map tT) (by rw[Oq,OZ];omega) (λi j g=>ο j=i/\(∀v∈j,PT ys 0 g v)/\aa A g) #[Z,(λ_ h=>absurd h O5),aa.refl _] (λi j g h=>#[aL.of$ h.2.2 _ _ t,Tz h.1]) (λi x j g C h=>?_) (λj F h L N=>?_)]
 .let⟨y,l,rfl⟩:=dg.mp (OX C);exact#[_,Z,ci,λr u=>#[by rw[Ot,h.1];rfl,Ju (λa z=>aB _ _ _ (aa.tm$ je u) (h.2.1 a z)) #[r,Z,yP jc$ Pw l],h.2.2.trans$ je u]]
 .let e:=h.1;rw[Oq,OZ]at e;let⟨a,b,c,d,f,rfl⟩:=Mw (show ο j=5 by omega);let m:=aa.tm (je (o:=HO.lst [a,b,c,d,f]) N);exact#[L,_,Z,aL.of jc,Z,_,_,Z,_,_,Z,_,_,Z,_,_,Z,_,_,Z,Z,q a b c d f _ (aB _ _ _ m$ h.2.1 a NN) (aB _ _ _ m$ h.2.1 b NN) (aB _ _ _ m$ h.2.1 c NN) (aB _ _ _ m$ h.2.1 d NN) (aB _ _ _ m$ h.2.1 f NN) (((W.same S).same h.2.2).same$ je N)]
end
def MF:am z19z z19z (ae ME):=bV
def IB(F:xD K "_law_op" ME f t)(C:‹1› T u z1z bo "_law_take"):⇑2 f t z19z og:=by
 erw[F.ok MF λv A O s H V Q E x h=>?_]
 let⟨p,a,b,y,k,rfl,B,z,D,q⟩:=h;erw[#[_,(jg$ jo$ ji$ ja jm$ ja (jq ju (jF$ ja jm$ ja jm$ ja jm$ ja jm jb) (C.e x.m$ ja (pv 0)$ ja jf jb) ∅)$ ja (pv 1)$ ja (pv 2) jb),?_]];erw[#[oF,λl n=>#[_,Z,p,4,Z,B.upd_new n,NP,NP,λd G I J L j=>?_]]];let⟨s,c,M⟩:=BD I J;let g:aI p H G:=((aI.refl).upd_new n).trans (aI.of_eq j);erw[#[l,_,_,_,Z,Z,aL.of (by rw[j l$ B.ne n];rwa[jc]),c,_,Z,_,Z,oF,λr N=>?_]];let S:=je (o:=HO.tup [.str "op",.str s,.ref a,.ref b]) N;rwa[q r _ (DG jc M ((z.mono$ g.tm B).mono$ aa.tm S) ((D.mono$ g.tm B).mono$ aa.tm S) (P8 _)$ P8 _) (L.upd_new N)$ g.trans$ aI.of_same S]
def cy:am ["_law_box_here","_law_f","_law_g","_law_w","_law_x","_law_i","_law_y","_law_spot_here","_law_body_here","_law_deeper","_law_test","_law_early","_law_last"] z39z (ae o0):=bV
def wQ(F:xD K "_law_inner" o0 f fd)(I:‹1› fT b' z1z bo "_law_take")(cO:‹2› fO c0 z19z og "_law_op"):⇑3 f fd z39z (dQ 2):=by
 erw[F.ok cy λc1 A o1 s H vs Q E l h=>?_]
 let⟨p,T,f0,g,Y,rfl,B,hw,h2,q⟩:=h;erw[#[_,(jd (@BE _ _ _ _ _ _ _ _ (4) (5) (6) Z cy.nd Z Z Z (ω Z) (ω Z) (ω Z) (ji$ ja (ji$ ja jm$ ja (jq ju (pv 3) jf ∅) jb)$ ja (ji$ ja jm$ ja (jq ju (pv 3) jf ∅) jb)$ ja (ji$ ja jm$ ja (jq ju (pv 3) jf ∅) jb) jb) Ch Ch Ch NK NK)$ jd (jA 7 cy.nd$ ji$ ja jm$ ja jm$ ja (jq ju (jF$ ja (pv 4)$ ja (pv 5) jb) (I.e l.m$ ja (pv 0)$ ja jf jb) ∅)$ ja (ji$ ja jm$ ja (I.e l.m$ ja (pv 0)$ ja jf jb) jb) jb)$ jd (jA 8 cy.nd$ ji$ ja (ji$ ja jm$ ja (jq ju (pv 3) jf ∅)$ ja (pv 7) jb) jb)$ jd (j6$ jy (zo$ I.e l.m$ ja (pv 0)$ ja jf jb) (jd (jA 7 cy.nd$ ji$ ja jm$ ja jm$ ja (pv 5)$ ja (ji$ ja jm$ ja (jw jX jf$ I.e l.m$ ja (pv 0)$ ja jf jb) jb) jb)$ jg$ jA 8 cy.nd$ jw jU (pv 8)$ ji$ ja (ji$ ja jm$ ja (pv 7)$ ja (cO.e l.m$ ja (pv 0)$ ja (pv 4)$ ja (pv 6) jb) jb) jb) jp)$ jd (j6$ jy (zo$ I.e l.m$ ja (pv 0)$ ja jf jb) (jd (jA 9 cy.nd$ ji$ ja jm$ ja (jq ju (pv 3) jf ∅)$ ja (pv 2)$ ja (ji$ ja (ji$ ja jm$ ja jm$ ja (pv 5)$ ja (ji$ ja jm$ ja jf jb) jb)$ ja (pv 6) jb) jb)$ jg$ jA 8 cy.nd$ jw jU (pv 8)$ ji$ ja (ji$ ja jm$ ja (pv 5)$ ja (ji$ ja (pv 9) jb)$ ja (ji jb) jb) jb) jp)$ jd (jA 10 cy.nd$ ji$ ja jm$ ja (jq KC jm (I.e l.m$ ja (pv 0)$ ja jf jb) ∅)$ ja (pv 6)$ ja (ji$ ja jm$ ja (I.e l.m$ ja (pv 0)$ ja jf jb) jb) jb)$ jd (jA 11 cy.nd$ ji$ ja jm$ ja (cO.e l.m$ ja (pv 0)$ ja (pv 4)$ ja (pv 6) jb) jb)$ jd (jA 12 cy.nd$ ji$ ja jm$ ja (cO.e l.m$ ja (pv 0)$ ja (pv 6)$ ja (pv 5) jb) jb)$ jd (jA 8 cy.nd$ jw jU (pv 8)$ ji$ ja (ji$ ja jm$ ja (pv 10)$ ja (ji$ ja (pv 11) jb)$ ja (ji jb) jb)$ ja (pv 12) jb)$ jg$ jo$ ji$ ja (pv 1)$ ja (ji$ ja (jq ju (pv 3) jf ∅)$ ja (jq ju (pv 3) jf ∅) jb)$ ja (pv 8) jb),?_]];let W0:Wd H H p T Y:=#[B,aI.refl,hw];erw[ah λF1 f1=>Ci W0 (Kv$ kQ Z NP NO) (Kv$ kQ Z NP NO) (Kv$ kQ Z NP NO) λvx vi vy J xx X U W1 k1=>f1 _ _ ?_];erw[ah λF2 f2=>jW W1 (qp (n:=1) (qu zw) (ZG Z (jP Z aB xx)$ jP Z aB X) (kK (za Z NP NP) NP) NP NP) λv2 H2 x2 W2 k2=>f2 _ _ ?_];erw[ah λF3 f3=>jW W2 (Kz$ Kx (Cf:=[(g,2)]) (kQ Z NP NO) (jP Z aB x2) NP) λv3 H3 x3 W3 k3=>f3 _ _ ?_];erw[ah λF4 f4=>dX (λL u=>∃(o:ym V) (b:V),L=[δ$ xm p,δ$ tT f0,δ$ tT g,δ$ xm T,δ$ vx,δ$ vi,δ$ vy,o,δ b,θ,θ,θ,θ]/\PB [(g,2)] Y 1 2 u b/\Wd H u p T Y/\aj H3 u) (λE4 _ f5=>Jc W3 Z NP NP (λH6 W6 k6=>?_) (λH6 W6 k6=>?_)) λσ0 H5 h0=>?_]
 .let C:aj J H6:=((k2.t.trans k3.t).trans k6.t);erw[ah λF7 f7=>jW W6 (qp (n:=1) (qu zw) (jP Z aB$ aB _ _ _ C X) (kK (Xk (za Z NP NP) NP) NP) NP NP) λv7 H7 x7 W7 k7=>f7 _ _ ?_];let D:aj H3 H7:=(k6.t.trans k7.t);let G:aj J H7:=(C.trans k7.t);erw[jW W7 (qY (jP Z eW$ eW _ _ _ D x3) (Kz$ Ky (Cf:=[(g,2)]) (jP Z aB x7) (Kw Z (jP Z aB$ aB _ _ _ G xx)$ jP Z aB$ aB _ _ _ G U) NP NP) NP) λv8 H8 x8 W8 k8=>f5 _ _ ?_];let m0:aj H3 H8:=(D.trans k8.t);exact#[_,_,Z,(PB.lift x8),W8,m0]
 .rwa[f5 _ _ #[_,_,Z,(PB.more (PB.lift$ eW _ _ _ k6.t x3) NP),W6,k6.t]]
 let⟨o5,b5,rfl,x5,W5,k5⟩:=h0;erw[f4 _ _ ?_];erw[ah λF9 f9=>dX (λL u=>∃(o:ym V) (b:V),L=[δ$ xm p,δ$ tT f0,δ$ tT g,δ$ xm T,δ$ vx,δ$ vi,δ$ vy,o5,δ b,o,θ,θ,θ]/\PB [(g,2)] Y 1 3 u b/\Wd H u p T Y/\aj H5 u) (λE9 _ f6=>Jc W5 Z NP NP (λH0 W k=>?_) (λH0 W k=>?_)) λσ1 H4 h1=>?_]
 .let M:aj J H0:=(((k2.t.trans k3.t).trans k5).trans k.t);erw[ah λF0 f'=>jW W (vK (Cf:=[(g,2)]) (kQ Z NP NO) (QQ Z) ON (qp (n:=1) (qu Yh) (jP Z aB$ aB _ _ _ M X) (kK (Xh NP (NP:(1:Int) < 2)) NP) NP NP) (jP Z aB$ aB _ _ _ M U) NP NP) λv0 H9 x0 W4 k0=>f' _ _ ?_];let c:aj H5 H9:=(k.t.trans k0.t);let N:aj J H9:=(M.trans k0.t);erw[jW W4 (qY (jP Z eW$ eW _ _ _ c x5) (Kz$ C1 (jP Z aB$ aB _ _ _ N X) (Kz$ jP Z fg x0) (C0 (Cf:=[(g,2)]) (d:=0)) NP NP) NP) λv1 a2 x1 W9 k9=>f6 _ _ ?_];let O:aj H5 a2:=(c.trans k9.t);exact#[_,_,Z,x1,W9,O]
 .rwa[f6 _ _ #[_,_,Z,(PB.more (eW _ _ _ k.t x5) NP),W,k.t]]
 let⟨o2,c2,rfl,x4,a3,k'⟩:=h1;erw[f9 _ _ ?_];let i:aj J H4:=(((k2.t.trans k3.t).trans k5).trans k');erw[ah λF5 a4=>jW a3 (qp (n:=1) (Ic Z) (jP Z aB$ aB _ _ _ i U) (kK (za Z NP NP) NP) NP NP) λv4 a0 x9 a5 k4=>a4 _ _ ?_];let a:aj J a0:=(i.trans k4.t);erw[ah λF6 a'=>jW a5 (XV (Cf:=[(g,2)]) (Kw Z (jP Z aB$ aB _ _ _ a xx)$ jP Z aB$ aB _ _ _ a U) NP) λv5 b0 x' b1 R=>a' _ _ ?_];let j:aj J b0:=(a.trans R.t);erw[ah λc3 b2=>jW b1 (XV (Cf:=[(g,2)]) (Kw Z (jP Z aB$ aB _ _ _ j U)$ jP Z aB$ aB _ _ _ j X) NP) λv9 a1 b3 b4 S=>b2 _ _ ?_];let y:aj H4 a1:=((k4.t.trans R.t).trans S.t);let z:aj a0 a1:=(R.t.trans S.t);erw[ah λc4 b7=>jW b4 (qY (jP Z eW$ eW _ _ _ y x4) (ZH (C1 (jP Z aB$ aB _ _ _ z x9) (Kz$ jP Z fg$ fg _ _ _ S.t x') (C0 (Cf:=[(g,2)]) (d:=0)) NP NP)$ Ev.up (jP Z fg b3) λ_ _=>du.lift) NP) λv' c5 b8 b9 c6=>b7 _ _ ?_];erw[Xl b9 (ZI (QQ Z) (C4 (kQ Z NP NO)$ kQ Z NP NO) (jP Z eW b8) NP NO) λv u x W'=>?_];let⟨r,rfl,x⟩:=x;rwa[q r u x W'.B W'.K]
def bN:am z43z z23z (ae iX):=bV
def QK:ic:=#[.function,[(".0",.local),("_law_one",.local)],ν,ν,[]]
def Zz:(["_law_one"]:xL ρ).Nodup:=NM
def ZA:bn z43z (ae iX) QK ["_law_one"] 1 []:=oQ
def tX(F:xD K "_law_looped" iX f fd)(C:‹1› fT d5 z1z bo "_law_take")(cO:‹2› fO d6 z19z og "_law_op")(mi:mg "int"=θ)(m6:mg "tuple"=θ):⇑3 f fd z23z (dQ 1):=by
 erw[F.ok bN λd7 A b1 s H vs Q E l h=>?_]
 symm;let⟨p,W,f0,g,Y,rfl,B,hw,h2,q⟩:=h;erw[#[_,(jd (kS (@zk _ _ _ _ _ _ _ (["_law_one"]) (1) ([]) _ _ _ _ Z (zr$ jJ kj (pv 3) jT$ jG jf) ZA (λ_ _ _ _ _=>(jx (i:=0) Zz Z$ ω Z)) (λ_ _ _ _ _=>(@zF _)) (λ_ _ _ _ _=>(ji$ ja jm$ ja (pv 0) jb)) Cv)$ @ZY _ _ _ _ (5) _ Z (jC (jx (i:=4) bN.nd Z$ ω Z)$ jC (jx (i:=5) bN.nd Z$ ω Z)$ jC (jx (i:=6) bN.nd Z$ ω Z)$ jC (jx (i:=7) bN.nd Z$ ω Z)$ jC (jx (i:=8) bN.nd Z$ ω Z) kB) NK NK)$ jd (jA 9 bN.nd$ jF$ ja (ji$ ja jm$ ja (jq ju (pv 3) jf ∅)$ ja (ji$ ja jm$ ja jm$ ja (pv 5)$ ja (ji$ ja jm$ ja (C.e l.m$ ja (pv 0)$ ja jf jb) jb) jb) jb) jb)$ jd (jN$ j9 OF OR OQ jQ (pv 9)$ ja (ji$ ja jm$ ja (jq ju (pv 3) jf ∅)$ ja (pv 2)$ ja (ji$ ja (pv 7)$ ja (jq ju (jF$ ja (pv 5)$ ja (pv 6) jb) (jI qM Z mi VX$ ja (qf qr (C.e l.m$ ja (pv 0)$ ja jf jb) jf$ aD _) jb) ∅) jb) jb) jb)$ jd (j6$ jy (zo$ C.e l.m$ ja (pv 0)$ ja jf jb) (jd (jA 10 bN.nd$ ji$ ja jm$ ja jm$ ja (pv 5)$ ja (ji$ ja jm$ ja (jw jX jf$ C.e l.m$ ja (pv 0)$ ja jf jb) jb) jb)$ jg$ jN$ j9 OF OR OQ jQ (pv 9)$ ja (ji$ ja jm$ ja (pv 10)$ ja (jq ju (jF$ ja (pv 6)$ ja (pv 8)$ ja (pv 7) jb) (C.e l.m$ ja (pv 0)$ ja jf jb) ∅) jb) jb) jp)$ jd (jN$ j9 OF OR OQ jQ (pv 9)$ ja (ji$ ja jm$ ja (jq ju (pv 3) jf ∅)$ ja (cO.e l.m$ ja (pv 0)$ ja (jq ju (jF$ ja (pv 6)$ ja (pv 6)$ ja (pv 7) jb) (C.e l.m$ ja (pv 0)$ ja jf jb) ∅)$ ja (pv 8) jb) jb) jb)$ jd (j6$ jy (zo$ C.e l.m$ ja (pv 0)$ ja jf jb) (jg$ kS (ji$ ja (jq ju (pv 9) jf ∅)$ ja (jq ju (pv 9) jf ∅) jb)$ zR (n:=2) Z$ jC (zS (pv 9) jf kM)$ jC (zS (pv 9) jf kM) kB) jp)$ jd (jN$ j9 OF OR OQ jQ (pv 9)$ ja (ji$ ja jm$ ja (jq ju (pv 3) jf ∅)$ ja (ji$ ja jm$ ja jm$ ja (pv 5)$ ja (ji$ ja jm$ ja jf jb) jb) jb) jb)$ jd (jA 11 bN.nd$ ji$ ja (ji$ ja jm$ ja (jq ju (pv 3) jf ∅)$ ja (ji$ ja jm$ ja (C.e l.m$ ja (pv 0)$ ja jf jb) jb) jb)$ ja (ji$ ja jm$ ja (jq ju (pv 3) jf ∅)$ ja (ji$ ja jm$ ja (C.e l.m$ ja (pv 0)$ ja jf jb) jb) jb) jb)$ jd (j6$ jy (zo$ C.e l.m$ ja (pv 0)$ ja jf jb) (jd (jA 11 bN.nd$ jw jU (pv 11)$ ji$ ja (ji$ ja jm$ ja (jq ju (pv 3) jf ∅)$ ja (ji$ ja jm$ ja (jw jX jf$ C.e l.m$ ja (pv 0)$ ja jf jb) jb) jb) jb)$ jg$ jA 11 bN.nd$ jw jU (pv 11)$ ji$ ja (ji$ ja jm$ ja (jq ju (pv 3) jf ∅)$ ja (ji$ ja jm$ ja jm$ ja (pv 4)$ ja (ji$ ja jm$ ja jf jb) jb) jb) jb) jp)$ jd (jA 12 bN.nd$ ji$ ja jm$ ja (ji$ ja jm$ ja jm$ ja (pv 5)$ ja (pv 4) jb)$ ja (jI jK Z m6 P'$ ja (pv 9) jb) jb)$ jg$ jo$ ji$ ja (pv 1)$ ja (ji$ ja (jq ju (pv 3) jf ∅) jb)$ ja (jw jU (pv 11)$ ji$ ja (pv 12)$ ja (ji$ ja jm$ ja (ji$ ja jm$ ja jf jb)$ ja (pv 6) jb)$ ja (ji$ ja jm$ ja (pv 6) jb) jb) jb),?_]];let W0:Wd H H p W Y:=#[B,aI.refl,hw];sleep 10;erw[ah λF1 f1=>pN W0 Z h2 λvn vi vs vx vy U xn xi xs xx xy W1=>f1 _ _ ?_];erw[ah λF2 f2=>IF W1 (Kx (Cf:=[(g,2)]) (kQ Z NP NO) (qp (n:=1) (qu zw) (jP Z aB xi) (kK (za Z NP NP) NP) NP NP) NP) λlb u2 H2 o2 x2 W2 k2=>f2 _ _ ?_];erw[ah λF3 f3=>JM W2 Z o2 (show 1<=100 by decide) (vK (Cf:=[(g,2)]) (kQ Z NP NO) (QQ Z) ON (jP Z aB$ aB _ _ _ k2.t xx) (Ia Z NP NP (jP Z aB$ aB _ _ _ k2.t xi)$ jP Z aB$ aB _ _ _ k2.t xs) NP NP) λu3 H3 x3 o3 W3 k3=>f3 _ _ ?_];erw[ah λF4 f4=>dX (λu c=>∃(o:ym V) (G:xL V),u=[δ$ xm p,δ$ tT f0,δ$ tT g,δ$ xm W,δ$ vn,δ$ vi,δ$ vs,δ$ vx,δ$ vy,δ$ xm lb,o,θ,θ]/\Ow H c p W lb (u2::u3::G)/\iN [(g,2)] c Y 0 G/\G.length<=1/\Wd H c p W Y/\aj H3 c) (λE4 _ f5=>Jc W3 Z NP NP (λH6 W6 k6=>?_) (λH6 W6 k6=>?_)) λσ2 H5 h3=>?_]
 .left;let o6:=o3.fw k6;let R:aj U H6:=((k2.t.trans k3).trans k6.t);erw[ah λF7 f7=>jW W6 (qp (n:=1) (qu zw) (jP Z aB$ aB _ _ _ R xi) (kK (Xk (za Z NP NP) NP) NP) NP NP) λv7 H7 x7 W7 k7=>f7 _ _ ?_];let o7:=o6.fw k7;let y:aj U H7:=(R.trans k7.t);erw[JM W7 Z o7 (show 2<=100 by decide) (Ky (Cf:=[(g,2)]) (jP Z aB x7) (C2 Z (jP Z aB$ aB _ _ _ y xs) (jP Z aB$ aB _ _ _ y xy)$ jP Z aB$ aB _ _ _ y xx) NP NP) λu8 H8 x8 o8 W8 k8=>f5 _ _ ?_];let m5:aj H3 H8:=((k6.t.trans k7.t).trans k8);exact#[_,[u8],Z,o8,zG x8,Ou 1,W8,m5]
 .left;let o6:=o3.fw k6;rwa[f5 _ _ #[_,[],Z,o6,KJ,NP,W6,k6.t]]
 symm;let⟨w5,G,rfl,o5,zx,zl,W5,k5⟩:=h3;erw[f4 _ _ ?_];left;let M:aj U H5:=((k2.t.trans k3).trans k5);erw[ah λF9 f9=>JM W5 Z o5 (show ο G+1+1<=100 by omega) (JX (Cf:=[(g,2)]) (kQ Z NP NO) (Kw Z (C2 Z (jP Z aB$ aB _ _ _ M xs) (jP Z aB$ aB _ _ _ M xs)$ jP Z aB$ aB _ _ _ M xx)$ jP Z aB$ aB _ _ _ M xy) NP) λu9 H9 x9 o9 W9 k9=>f9 _ _ ?_];let zy:iN [(g,2)] H9 Y 0 (G++[u9]):=JL (zx.mono k9) (zG x9);let zm:(G++[u9]).length<=2:=by rw[Ot];rwa[Rj zl]
 erw[ah λF0 I=>dX (λu c=>∃(X:xL V),u=[δ$ xm p,δ$ tT f0,δ$ tT g,δ$ xm W,δ$ vn,δ$ vi,δ$ vs,δ$ vx,δ$ vy,δ$ xm lb,w5,θ,θ]/\Ow H c p W lb X/\iN [(g,2)] c Y 0 X/\ο X<=4/\Wd H c p W Y/\aj H9 c) (λE1 _ S=>Jc W9 Z NP NP (λH0 W4 k=>?_) (λH0 W4 k=>?_)) λσ0 b2 h0=>?_]
 .left;let o1:=o9.fw k;erw[Cw W4 Z o1 λH4 b3 b4 k0=>S _ _ ?_];let m0:aj H3 H4:=(((k5.trans k9).trans k.t).trans k0);let m1:aj H2 H4:=((((k3.trans k5).trans k9).trans k.t).trans k0);let z:aj H9 H4:=(k.t.trans k0);exact#[_,Z,b3,jY ((fg _ _ _ m0 x3))$ jY ((fg _ _ _ m1 x2))$ zy.mono z,(show(G++[u9]).length+1+1<=4 by omega),b4,z]
 .left;let o1:=o9.fw k;let m2:aj H2 H0:=(((k3.trans k5).trans k9).trans k.t);let m3:aj H3 H0:=((k5.trans k9).trans k.t);rwa[S _ _ #[_,Z,o1,jY ((fg _ _ _ m2 x2))$ jY ((fg _ _ _ m3 x3))$ zy.mono k.t,(show(G++[u9]).length+1+1<=4 by omega),W4,k.t]]
 symm;let⟨X,rfl,b5,ux,ul,b7,b8⟩:=h0;erw[I _ _ ?_];left;let d:aj U b2:=((M.trans k9).trans b8);erw[ah λF5 f6=>JM b7 Z b5 NO (JX (Cf:=[(g,2)]) (kQ Z NP NO) (qp (n:=1) (qu zw) (jP Z aB$ aB _ _ _ d xi) (kK (Xh NP (NP:(1:Int) < 2)) NP) NP NP) NP) λu0 a1 x1 b9 b' k1=>f6 _ _ ?_];let b0:iN [(g,2)] a1 Y 0 (X++[u0]):=JL (ux.mono k1) (zG x1);let bl:(X++[u0]).length<=5:=by rw[Ot];rwa[Rj ul]
 erw[ah λF6 f'=>jW b' (ZH (JX (Cf:=[(g,2)]) (kQ Z NP NO) (kK (za Z NP NP) NP) NP)$ JX (Cf:=[(g,2)]) (kQ Z NP NO) (kK (za Z NP NP) NP) NP) λv0 a2 x0 c0 J=>f' _ _ ?_];let o':=b9.fw J;erw[ah λd8 L=>dX (λu c=>∃(b:V),u=[δ$ xm p,δ$ tT f0,δ$ tT g,δ$ xm W,δ$ vn,δ$ vi,δ$ vs,δ$ vx,δ$ vy,δ$ xm lb,w5,δ b,θ]/\Ow H c p W lb (X++[u0])/\PB [(g,2)] Y 0 4 c b/\Wd H c p W Y/\aj a2 c) (λE2 _ T=>Jc c0 Z NP NP (λc1 a0 a=>?_) (λc1 a0 a=>?_)) λσ1 a3 h1=>?_]
 .left;let o4:=o'.fw a;erw[ah λd' c2=>jW a0 (qY (jP Z eW$ eW _ _ _ a.t x0) (Kz$ Kx (Cf:=[(g,2)]) (kQ Z NP NO) (kK (Xk (za Z NP NP) NP) NP) NP) NP) λv1 c3 x4 c4 k4=>c2 _ _ ?_];let c5:=o4.fw k4;let m4:aj U c3:=((((d.trans k1).trans J.t).trans a.t).trans k4.t);erw[jW c4 (qY (jP Z eW x4) (Kz$ JX (Cf:=[(g,2)]) (kQ Z NP NO) (qp (n:=1) (qu Ck) (jP Z aB$ aB _ _ _ m4 xn) (kK (Xh NP (NP:(2:Int) < 3)) NP) NP NP) NP) NP) λv2 c6 x5 c9 a4=>T _ _ ?_];let c':=c5.fw a4;let N:aj a2 c6:=((a.t.trans k4.t).trans a4.t);exact#[_,Z,c',x5,c9,N]
 .left;let o4:=o'.fw a;rwa[T _ _ #[_,Z,o4,(PB.more (eW _ _ _ a.t x0) NP),a0,a.t]]
 symm;let⟨e0,rfl,a5,x',d0,a'⟩:=h1;erw[L _ _ ?_];left;let j:aj U a3:=(((d.trans k1).trans J.t).trans a');let O:aj a1 a3:=(J.t.trans a');erw[ah λe1 d1=>jW d0 (C6 (qp (n:=1) (qu XA) (jP Z aB$ aB _ _ _ j xi) (jP Z aB$ aB _ _ _ j xn) NP NP) (C5 (n:=5) Z a5 (b0.mono O) bl) NP NP) λv3 d2 d3 d4 k'=>d1 _ _ ?_];let e2:=a5.fw k';let D:aj U d2:=(j.trans k'.t);erw[Xl d4 (ZI (QQ Z) (C3$ kQ Z NP NO) (qY (Ev.up (jP Z eW$ eW _ _ _ k'.t x') λ_ _=>PB.lift) (HY (jP Z fg d3) (Ev.up (Ky (Cf:=[(g,2)]) (kK (Xh NP (NP:(30:Int) < 31)) NP) (jP Z aB$ aB _ _ _ D xs) NP NP) λ_ _=>du.lift)$ Ev.up (XV (Cf:=[(g,2)]) (jP Z aB$ aB _ _ _ D xs) NP) λ_ _=>du.lift) NP) NP NO) λv c x W'=>?_];symm;let⟨r,rfl,x⟩:=x;rwa[q r c x W'.B W'.K]
def Ml(b:0<=d)(c:d < 2)(h:du C H y 0 u)(a:du C H y 0 v):iN C H y 0 (aT [u,v] θ$ δ (1+d))/\(aT [u,v] θ$ δ (1+d)).length<=2:=by
 rcases(NO:d=0∨d=1) with rfl |rfl
 .exact#[zG h,by show 1<=2;decide]
 .exact#[jY h$ zG a,by show 2<=2;decide]
def P2(C:i7)(y:xL ρ)(H:Hp)(w:V):Prop:=∃a u v,w= .ref a/\H a=δ (.tup [u,v])/\du C H y 0 u/\du C H y 0 v
def Dk:pF (P2 C y):=λ_ _ _ m #[a,u,v,e,h,H,b]=>#[a,u,v,e,m _ _ h,H.mono m,b.mono m]
section
variable {Cf:i7}{ys:xL ρ}{H0 Hb:Hp}{p wl:ζ}{σ:_L.St}
def Ea(h:#[] T (λH v=>du Cf H ys 0 v))(c:#[] d (λH v=>du Cf H ys 0 v)):#[] (cQ$ ap T$ ap d aY) (P2 Cf ys):=λH Q m W q=>
 h H _ m W λo e X f a=>c e _ (m.trans a) f λs u g i b=>#[ci,λr n=>kJ (P:=P2 Cf ys) i (λV j x l k=>q V j x l ((a.trans b).trans k)) n λt z=>#[r,_,_,Z,z,(X.mono b.t).mono t,g.mono t]]
def D9(e:σ[i]?=δ (δ v))(E:σ[0]?=δ (↑p))(h:P2 Cf ys Hb v):#[] (LV FJ (bj i) ny$ oq$ fc (Ad λi j=>vr (i+j)) (tC$ .int 1)$ Ae 2) (PB Cf ys 0 2):=λH Q m W q=>
 #[v,e,za E NP NP H _ m W λw y #[d,b,D,c] f k=>#[1,d,Z,b,_,Z,by
  let⟨a,u,A,rfl,g,l,n⟩:=Dk _ _ _ (m.trans k).t h;let z:=Ml D c l n;exact#[a,_,Z,g,λr o x s=>q _ o #[r,_,Z,x,z.1.mono$ aa.tm s,z.2] (f.same s) (k.trans$ .same s)]]]
end
def a7:am z44z z23z (ae hZ):=bV
def Qw:ic:=#[.function,[(".0",.local),("_law_one",.local)],ν,ν,[]]
def YN:(["_law_one"]:xL ρ).Nodup:=NM
def YO:bn z44z (ae hZ) Qw ["_law_one"] 1 []:=oQ
def ZB(F:xD K "_law_ticking" hZ f fd)(C:‹1› fT b5 z1z bo "_law_take")(cO:‹2› fO b7 z19z og "_law_op")(mi:mg "int"=θ)(m1:mg "tuple"=θ):⇑3 f fd z23z (dQ 1):=by
 erw[F.ok a7 λc0 A o5 s H vs Q E c h=>?_]
 let⟨p,W,f0,g,ys,rfl,B,hw,h1,q⟩:=h;erw[#[_,(jd (kS (@zk _ _ _ _ _ _ _ (["_law_one"]) (1) ([]) _ _ _ _ Z (zr$ jJ kj (pv 3) jT$ jG jf) YO (λ_ _ _ _ _=>(jx (i:=0) YN Z$ ω Z)) (λ_ _ _ _ _=>(@zF _)) (λ_ _ _ _ _=>(ji$ ja jm$ ja (pv 0) jb)) Cv)$ @ZY _ _ _ _ (5) _ Z (jC (jx (i:=4) a7.nd Z$ ω Z)$ jC (jx (i:=5) a7.nd Z$ ω Z)$ jC (jx (i:=6) a7.nd Z$ ω Z)$ jC (jx (i:=7) a7.nd Z$ ω Z)$ jC (jx (i:=8) a7.nd Z$ ω Z) kB) NK NK)$ jd (jA 9 a7.nd$ ji$ ja jm$ ja (jw jX jf$ C.e c.m$ ja (pv 0)$ ja jf jb) jb)$ jd (jA 10 a7.nd$ jF$ ja (ji$ ja jm$ ja (jq ju (pv 3) jf ∅)$ ja (pv 9) jb)$ ja (ji$ ja jm$ ja (jq ju (pv 3) jf ∅)$ ja (jq ju (jF$ ja (pv 5)$ ja (ji$ ja jm$ ja (C.e c.m$ ja (pv 0)$ ja jf jb) jb) jb) (C.e c.m$ ja (pv 0)$ ja jf jb) ∅) jb) jb)$ jd (jN$ j9 OF OR OQ jQ (pv 10)$ ja (ji$ ja jm$ ja (jq ju (pv 3) jf ∅)$ ja (pv 2)$ ja (ji$ ja (jq ju (jF$ ja (pv 7)$ ja (ji$ ja jm$ ja jf jb) jb) (C.e c.m$ ja (pv 0)$ ja jf jb) ∅)$ ja (jq ju (jF$ ja (pv 5)$ ja (ji$ ja jm$ ja jf jb) jb) (C.e c.m$ ja (pv 0)$ ja jf jb) ∅) jb) jb) jb)$ jd (j6$ jy (zo$ C.e c.m$ ja (pv 0)$ ja jf jb) (jg$ jN$ j9 OF OR OQ jQ (pv 10)$ ja (ji$ ja jm$ ja (ji$ ja jm$ ja jm$ ja (pv 5)$ ja (ji$ ja jm$ ja (C.e c.m$ ja (pv 0)$ ja jf jb) jb) jb)$ ja (pv 8) jb) jb) jp)$ jd (jA 11 a7.nd$ ji$ ja jm$ ja jf jb)$ jd (jA 12 a7.nd$ jF$ ja (ji$ ja jm$ ja (jq ju (pv 3) jf ∅)$ ja (pv 11) jb)$ ja (ji$ ja jm$ ja (pv 11)$ ja (cO.e c.m$ ja (pv 0)$ ja (pv 6)$ ja (pv 8) jb) jb) jb)$ jd (j6$ jy (zo$ C.e c.m$ ja (pv 0)$ ja jf jb) (jg$ jA 12 a7.nd$ jF$ ja (ji$ ja jm$ ja (jq ju (pv 3) jf ∅)$ ja (cO.e c.m$ ja (pv 0)$ ja (pv 6)$ ja (pv 8) jb) jb) jb) jp)$ jd (jA 10 a7.nd$ jw zT (jw zT (pv 10)$ pv 12)$ jF$ ja (ji$ ja jm$ ja (pv 9)$ ja (ji$ ja jm$ ja jm$ ja (pv 5)$ ja (ji$ ja jm$ ja jf jb) jb) jb)$ ja (ji$ ja jm$ ja (jq ju (pv 3) jf ∅)$ ja (ji$ ja jm$ ja jm$ ja (pv 5)$ ja (pv 4) jb) jb) jb)$ jd (jA 13 a7.nd$ ji$ ja (ji$ ja jm$ ja (jq ju (pv 3) jf ∅)$ ja (ji$ ja jm$ ja jf jb) jb)$ ja (ji$ ja jm$ ja (pv 9)$ ja (ji$ ja jm$ ja (C.e c.m$ ja (pv 0)$ ja jf jb) jb) jb) jb)$ jd (jA 14 a7.nd$ ji$ ja jm$ ja (ji$ ja jm$ ja (jq ju (pv 3) jf ∅) jb)$ ja (jI jK Z m1 P'$ ja (pv 10) jb) jb)$ jg$ jo$ ji$ ja (pv 1)$ ja (ji$ ja (jq ju (pv 3) jf ∅) jb)$ ja (jw jU (jJ kc (pv 13) jT$ jG$ jw jX jf$ C.e c.m$ ja (pv 0)$ ja jf jb)$ ji$ ja (pv 14)$ ja (ji$ ja jm$ ja (pv 6) jb) jb) jb),?_]];let W0:Wd H H p W ys:=#[B,aI.refl,hw];erw[ah λF1 f1=>pN W0 Z h1 λvn vi vs vx vy H1 xn xi xs xx xy W1=>f1 _ _ ?_];erw[ah λF2 f2=>jW W1 (kK (Xk (za Z NP NP) NP) NP) λv2 H2 x2 W2 k2=>f2 _ _ ?_];erw[ah λF3 f3=>IG W2 (Kx (Cf:=[(g,2)]) (kQ Z NP NO) (jP Z aB x2) NP) (Kx (Cf:=[(g,2)]) (kQ Z NP NO) (ZG Z (jP Z aB$ aB _ _ _ k2.t xi)$ kK (za Z NP NP) NP) NP) λlb u3 w3 H3 o3 x3 y3 W3 k3=>f3 _ _ ?_];let a:aj H1 H3:=(k2.t.trans k3.t);erw[ah λF4 f4=>JM W3 Z o3 (show 2<=100 by decide) (vK (Cf:=[(g,2)]) (kQ Z NP NO) (QQ Z) ON (ZG Z (jP Z aB$ aB _ _ _ a xx)$ kK (Xh NP (NP:(3:Int) < 4)) NP) (ZG Z (jP Z aB$ aB _ _ _ a xi)$ kK (Xh NP (NP:(2:Int) < 3)) NP) NP NP) λu4 H4 x4 o4 W4 k4=>f4 _ _ ?_];erw[ah λF5 f5=>dX (λN d=>∃(us:xL V),N=[δ$ xm p,δ$ tT f0,δ$ tT g,δ$ xm W,δ$ vn,δ$ vi,δ$ vs,δ$ vx,δ$ vy,δ$ v2,δ$ xm lb,θ,θ,θ,θ]/\Ow H d p W lb us/\iN [(g,2)] d ys 0 us/\ο us<=4/\Wd H d p W ys/\aj H4 d) (λE5 _ f6=>Jc W4 Z NP NP (λH7 W7 u=>?_) (λH7 W7 u=>?_)) λσ1 H6 h2=>?_]
 .let o7:=o4.fw u;let D:aj H1 H7:=((a.trans k4).trans u.t);erw[JM W7 Z o7 (show 3<=100 by decide) (Ky (Cf:=[(g,2)]) (qp (n:=1) (qu zw) (jP Z aB$ aB _ _ _ D xi) (kK (za Z NP NP) NP) NP NP) (jP Z aB$ aB _ _ _ D xy) NP NP) λu8 H8 x8 o8 W8 k8=>f6 _ _ ?_];let G:aj H4 H8:=(u.t.trans k8);let I:aj H3 H8:=((k4.trans u.t).trans k8);exact#[_,Z,o8,(jY ((fg _ _ _ I x3))$ jY ((fg _ _ _ I y3))$ jY ((fg _ _ _ G x4))$ jY (x8) KJ),(show 4<=4 by decide),W8,G]
 .let o7:=o4.fw u;let J:aj H3 H7:=(k4.trans u.t);rwa[f6 _ _ #[_,Z,o7,(jY ((fg _ _ _ J x3))$ jY ((fg _ _ _ J y3))$ jY ((fg _ _ _ u.t x4)) KJ),(show 3<=4 by decide),W7,u.t]]
 let⟨us,rfl,o6,ux,ul,W6,k6⟩:=h2;erw[f5 _ _ ?_];erw[ah λF9 f9=>jW W6 (kK (Xh NP (NP:(30:Int) < 31)) NP) λv9 H9 x9 W9 k9=>f9 _ _ ?_];let o9:=o6.fw k9;let b:aj H1 H9:=(((a.trans k4).trans k6).trans k9.t);erw[ah λF0 f7=>IG W9 (Kx (Cf:=[(g,2)]) (kQ Z NP NO) (jP Z aB x9) NP) (Ky (Cf:=[(g,2)]) (jP Z aB x9) (Kw Z (jP Z aB$ aB _ _ _ b xs)$ jP Z aB$ aB _ _ _ b xy) NP NP) λlm u0 w0 H0 z0 x0 y0 W5 j=>f7 _ _ ?_];let o1:=o9.fw j;erw[ah λF6 y=>dX (λN d=>∃(m:ζ) (zs:xL V),N=[δ$ xm p,δ$ tT f0,δ$ tT g,δ$ xm W,δ$ vn,δ$ vi,δ$ vs,δ$ vx,δ$ vy,δ$ v2,δ$ xm lb,δ$ v9,↑m,θ,θ]/\Ow H d p W lb us/\Ow H d p W m zs/\iN [(g,2)] d ys 0 zs/\ο zs<=2/\Wd H d p W ys/\aj H0 d) (λE1 _ L=>Jc W5 Z NP NP (λH5 O k=>?_) (λH5 O k=>?_)) λσ0 R h0=>?_]
 .let S:=o1.fw k;let z1:=z0.fw k;let l:aj H1 H5:=((b.trans j.t).trans k.t);erw[IF O (JX (Cf:=[(g,2)]) (kQ Z NP NO) (Kw Z (jP Z aB$ aB _ _ _ l xs)$ jP Z aB$ aB _ _ _ l xy) NP) λlq u1 a0 z2 x1 a1 k1=>L _ _ ?_];let o':=S.fw k1;let z:aj H0 a0:=(k.t.trans k1.t);exact#[_,_,Z,o',z2,zG x1,(show 1<=2 by decide),a1,z]
 .let S:=o1.fw k;let z1:=z0.fw k;rwa[L _ _ #[_,_,Z,S,z1,(jY ((fg _ _ _ k.t x0))$ jY ((fg _ _ _ k.t y0)) KJ),(show 2<=2 by decide),O,k.t]]
 let⟨lm,zs,rfl,a2,z3,zx,zl,a3,T⟩:=h0;erw[y _ _ ?_];let o:aj H2 R:=(((((k3.t.trans k4).trans k6).trans k9.t).trans j.t).trans T);let M:aj H1 R:=((b.trans j.t).trans T);let U:aj H6 R:=((k9.t.trans j.t).trans T);erw[ah λF7 f'=>DV a3 Z Z a2 z3 NO (ux.mono U) zx (Ky (Cf:=[(g,2)]) (jP Z aB$ aB _ _ _ o x2) (qp (n:=1) (qu zw) (jP Z aB$ aB _ _ _ M xi) (kK (Xh NP (NP:(1:Int) < 2)) NP) NP NP) NP NP) (JX (Cf:=[(g,2)]) (kQ Z NP NO) (qp (n:=1) (qu XA) (jP Z aB$ aB _ _ _ M xi) (jP Z aB$ aB _ _ _ M xn) NP NP) NP) λlc cs a4 a5 cx cl a' k5=>f' _ _ ?_];let cm:ο cs<=8:=NO
 let X:aj H2 a4:=(o.trans k5.t);erw[ah λb8 b0=>jW a' (Ea (JX (Cf:=[(g,2)]) (kQ Z NP NO) (kK (Xh NP (NP:(1:Int) < 2)) NP) NP)$ Ky (Cf:=[(g,2)]) (jP Z aB$ aB _ _ _ X x2) (kK (za Z NP NP) NP) NP NP) λv0 b9 x5 b1 Y=>b0 _ _ ?_];let o2:=a5.fw Y;erw[ah λb' b2=>jW b1 (C6 (Kv$ kQ Z NP NO) (C5 (n:=8) Z o2 (cx.mono Y.t) cm) NP NP) λv1 b3 x7 b4 k0=>b2 _ _ ?_];let c1:=o2.fw k0;let m0:aj H1 b3:=(((M.trans k5.t).trans Y.t).trans k0.t);erw[Xl b4 (ZI (QQ Z) (C3$ kQ Z NP NO) (qY (Ev.up (D9 Z Z$ Dk _ _ _ k0.t x5) λ_ _=>PB.lift) (ZH (jP Z fg x7)$ Ev.up (XV (Cf:=[(g,2)]) (jP Z aB$ aB _ _ _ m0 xs) NP) λ_ _=>du.lift) NP) NP NO) λv d x W'=>?_];let⟨r,rfl,x⟩:=x;rwa[q r d x W'.B W'.K]
def Mm{y:xL ρ}{lo:Nat}(h:ο y=14)(H:lo<=8):(bK y (δ (lo:Int))$ δ ((lo+6:Nat):Int)).length=6:=by unfold bK;rw[HT.sIx_nat,HT.sIx_nat,OZ,Ri,h,Rz$ OK H NP,Rz$ Nat.add_le_add_right H 6,Nat.add_sub_cancel_left];rwa[Rz$ Nat.le_sub_of_add_le$ OK (Vs H 6) NP]
def Nv{k:Nat}(h:k < n):oV n (k:Int)=δ k:=by unfold oV;rw[OB NO,OB NO,Ph]
def uP.more(h:uP C n H r f)(k:∀y∈C,y∈D):uP D n H r f:=by let⟨d,b,a,c⟩:=h;rwa[#[d,b,#[a.1,kG k a.2],c]]
def Mo(r:uP [(l,N),(m,j),(o,k)] N H a l)(s:uP [(l,N),(m,j),(o,k)] j H b m)(t:uP [(l,N),(m,j),(o,k)] k H c o)(p:N<=100/\j<=100/\k<=100):∃D,dq H D [.ref a,.ref b,.ref c]/\ο D=3/\((∀d∈D,oG d/\d.b.Cs [(l,N),(m,j),(o,k)])/\D.map Df.f=[l,m,o])/\nH H D [N,j,k]:=by
 let⟨d,u,v,O,y,z,E⟩:=r;let⟨e,A,B,Q,C,F,G⟩:=s;let⟨f,I,J,R,g3,L,M⟩:=t;erw[#[[d,e,f],#[_,_,Z,u,_,_,Z,A,_,_,Z,I,Z],Z,#[λx q=>?_,by rw[<- E,<- G,<- M];rfl],Z,λi x n h g=>?_]]
 .simp only[RF,O5,TH]at q;rcases q with rfl |rfl |rfl
  .rwa[v]
  .rwa[B]
  .rwa[J]
 .match i,h,g with
  |0,h,g=>cases h;cases g;exact#[_,y,z,p.1]
  |1,h,g=>cases h;cases g;exact#[_,C,F,p.2.1]
  |2,h,g=>cases h;cases g;exact#[_,g3,L,p.2.2]
inductive mY(b:xL V)(H:Hp)(Q:VK)(a:XK):Prop
 |mk(p:ζ)(_:b=[.ref p])(_:au H p)(_:∀(r:ζ) (ds:xL Df) (xs:xL V) (H':Hp),H' r=δ (.tup xs)->dq H' ds xs->ο ds=3->∀ns,uR ds ns->nH H' ds ns->(∃r,ns=1::r)->au H' p->aI p H H'->Q (.ref r) H')
def Hl(L:xL ρ)(_:Hp)(v:V):Prop:=∃x,v= .str x/\x∈L
section
variable {ys:xL ρ}{H0 Hb:Hp}{p wl:ζ}{σ:_L.St}
def Ib{K:β}(e:σ[0]?=δ (↑p))(r:#[] t (Ak a))(s:#[] T (Ak b))(u:#[] x (Ak c)):#[] (fc (lV K) (on$ ap t$ ap T$ ap x aY)$ Ae 3) (Hl [a,b,c]):=λH Q m W q=>
 r H _ m W λy z (E:y= .str a) A k=>s z _ (m.trans k) A λC D (F:C= .str b) G f=>u D _ ((m.trans k).trans f) G λI R (J:I= .str c) h j=>#[gU,λl n=>za e NP NP _ _ ((((m.trans k).trans f).trans j).trans$ .new n) (h.same$ je n) λv L #[d,M,S,U] N o=>by
  obtain⟨g,i,O⟩:∃g,eV [tT a,.str b,.str c] d=δ (.str g)/\g∈[a,b,c]:=by
   rcases(NO:d=0∨d=1∨d=2) with rfl |rfl |rfl
   .exact#[a,Z,NN]
   .exact#[b,Z,NN]
   .exact#[c,Z,NN]
  rw[<- E,<- F,<- J]at i;exact#[l,_,d,_,Z,M,aL.of$ o.b _ _ (h.B.ne n) jc,i,q _ L #[g,Z,O] N (((k.trans f).trans j).trans ((Fw.new n).trans o))]]
def vM{K:β}{lo:Nat}(e:σ[0]?=δ (↑p))(E:σ[1]?=δ (↑wl))(d:#[] t (Ak f))(l:#[] T (Hl L))(h:ο ys=14)(o:lo<=8)(s:i=(lo:Int))(u:j=((lo+6:Nat):Int)):
  #[] (fb (dQ n) [] E0$ ap (bj 0)$ ap t$ ap T$ ap (LV (BK K) (bj 1) (oq$ tC$ .int i)$ oq$ tC$ .int j) aY) (PD (L.map λy=>(y,2)) n f):=λH Q m W q=>
 #[_,e,d H _ m W λv x (z:v= .str f) A k=>l x _ (m.trans k) A λV M #[g,D,c] b F=>#[_,E,_,Z,_,Z,wl,_,Z,aL.of b.w,λr N=>#[p,r,f,g,bK ys (δ i)$ δ j,by rw[z,D];rfl,b.B.upd_new N,by rw[jc,zJ],by rw[s,u];exact Mm h o,λa G X I C=>
  q _ G #[a,Z,X.more λy J=>by rw[χ.mp J];rwa[dg.mpr #[g,c,Z]]] ((b.same$ je N).but I C) ((k.trans F).trans ((Fw.new N).trans$ .but (b.B.upd_new N) C))]]]
def Jd{K:β}{k:Nat}(e:σ[j]?=δ (↑wl))(a:i=(k:Int))(h:ys[k]?=δ y):#[] (fc (lV K) (bj j)$ tC$ .int i) (Ak y):=λH Q m W q=>
 #[_,e,wl,_,_,_,Z,Z,aL.of W.w,(by rw[a];rwa[jH (by rw[OL,h];rfl)]),q _ H Z W .refl]
def HZ{n1 n2 n3:Nat}(s:n1<=100/\n2<=100/\n3<=100)(u:#[] T (PD [(e,n1),(h,n2),(i,n3)] n1 e))(y:#[] z (PD [(e,n1),(h,n2),(i,n3)] n2 h))(A:#[] B (PD [(e,n1),(h,n2),(i,n3)] n3 i)):#[] (cQ$ ap T$ ap z$ ap B aY) (λH v=>∃r D x,v= .ref r/\H r=δ (.tup x)/\dq H D x/\ο D=3/\((∀d∈D,oG d/\d.b.Cs [(e,n1),(h,n2),(i,n3)])/\D.map Df.f=[e,h,i])/\nH H D [n1,n2,n3]):=λH Q m W q=>
 u H _ m W λV C X E k=>y C _ (m.trans k) E λF G I J j=>A G _ ((m.trans k).trans j) J λL H4 M N l=>#[gU,λr n=>q _ _ (by
  let t:=aa.tm (je (o:=HO.tup [V,F,L]) n);let⟨a,O,R⟩:=mx _ _ _ t (mx _ _ _ (j.trans l).t X);let⟨b,S,U⟩:=mx _ _ _ t (mx _ _ _ l.t I);let⟨c,Y,h3⟩:=mx _ _ _ t M;let⟨D,g⟩:=Mo R U h3 s;exact#[r,D,_,Z,by rw[jc,O,S,Y],g]) (N.same$ je n) (((k.trans j).trans l).trans$ .new n)]
end
def gM:am ["_law_box_here","_law_w","_law_body_here","_law_deeper","_law_further","_law_first"] z2z (ae xI):=bV
def Bg(F:xD K "_law_busy" xI f fd)(T:‹1› fT f0 z1z bo "_law_take")(cO:‹2› fO f1 z19z og "_law_op")(cA:‹2› fA f7 z28z ij "_law_names")(cL:‹3› fL f9 z23z (dQ 1) "_law_looped")(cK:‹3› fK f' z23z (dQ 1) "_law_ticking")(cI:‹3› fI a0 z39z (dQ 2) "_law_inner"):⇑4 f fd z2z mY:=by
 erw[F.ok gM λc0 A U s H vs Q E i h=>?_]
 let⟨p,rfl,B,q⟩:=h;erw[#[_,(jd (jA 1 gM.nd$ cA.e i.m$ ja (pv 0)$ ja jf jb)$ jd (j6$ jy (zo$ T.e i.m$ ja (pv 0)$ ja jf jb) (jg$ kS (jq ju (pv 1) jf ∅)$ zS (pv 1) jf kM) jp)$ jd (jA 2 gM.nd$ ji$ ja (ji$ ja jm$ ja (jq ju (pv 1) jf ∅)$ ja (ji$ ja jm$ ja (jq ju (pv 1) jf ∅) jb) jb)$ ja (ji$ ja jm$ ja (cO.e i.m$ ja (pv 0)$ ja (ji$ ja jm$ ja (jq ju (pv 1) jf ∅) jb)$ ja (ji$ ja jm$ ja (jq ju (pv 1) jf ∅) jb) jb) jb) jb)$ jd (jA 3 gM.nd$ ji$ ja (jq ju (pv 1) jf ∅)$ ja (ji$ ja (jq ju (pv 1) jf ∅)$ ja (jq ju (pv 1) jf ∅) jb)$ ja (pv 2) jb)$ jd (jA 4 gM.nd$ jq ju (jF$ ja (jq ju (pv 1) jf ∅)$ ja (jq ju (pv 1) jf ∅)$ ja (jq ju (pv 1) jf ∅) jb) (T.e i.m$ ja (pv 0)$ ja jf jb) ∅)$ jd (jA 5 gM.nd$ cL.e i.m$ ja (pv 0)$ ja (jq ju (pv 1) jf ∅)$ ja (jq ju (pv 1) jf ∅)$ ja (jJ kj (pv 1) (jG jf)$ jG jf) jb)$ jd (j6$ jy (zo$ T.e i.m$ ja (pv 0)$ ja jf jb) (jg$ jA 5 gM.nd$ cK.e i.m$ ja (pv 0)$ ja (jq ju (pv 1) jf ∅)$ ja (jq ju (pv 1) jf ∅)$ ja (jJ kj (pv 1) (jG jf)$ jG jf) jb) jp)$ jg$ jo$ ji$ ja (pv 5)$ ja (cI.e i.m$ ja (pv 0)$ ja (jq ju (pv 1) jf ∅)$ ja (pv 4)$ ja (jJ kj (pv 1) (jG jf)$ jG jf) jb)$ ja (pv 3) jb),?_]];erw[ah λFa o=>#[_,Z,p,14,Z,B,NP,NP,λj ys Ha X u c d Ba ka=>o _ _ ?_]];let wp:j≠p:=qy Ba u;erw[ah λFa o=>dX (λn g=>∃Y:xL ρ,n=[δ$ xm p,δ$ xm j,θ,θ,θ,θ]/\g j=δ (.lst$ Y.map tT)/\(ο Y=14/\(Y.take 3).Nodup/\∀y∈Y.take 3,y.length<=20)/\au g p/\aI p H g) (λE0 _ fm=>Jc (W:=#[Ba,ka,u]) Z NP NP (λHb l kb=>?_) (λHb l kb=>fm _ _ #[_,Z,l.w,#[NO,d.2.sublist$ RB _ _,λy hy=>d.1 y (Pw hy)],l.B,l.K])) λσ1 H0 h3=>?_]
 .let⟨v1,h6,z⟩:=KF (ys:=ys) (k:=1) NP NO;erw[#[_,Z,j,_,_,_,Z,Z,aL.of l.w,z,_,Z,j,_,8,8,Z,Z,l.w,Nv (k:=8) (by rw[Oq];omega),fm _ _ #[ys.set 8 v1,Z,?_,#[by rw[TC];omega,by rw[List.take_set_of_le NP];exact#[d.2.sublist$ RB _ _,λy hy=>d.1 y (Pw hy)]],l.B.eq$ jh$ O3 wp,l.K.upd_own X]]];rw[jc,Wr]
 obtain⟨ys,rfl,h4,⟨c,C,D⟩,B1,k1⟩:=h3;obtain⟨y0,h0⟩:∃y,ys[0]?=δ y:=#[_,On (NO:0 < ο ys)];obtain⟨G,I⟩:∃y,ys[1]?=δ y:=#[_,On (NO:1 < ο ys)];obtain⟨y2,N⟩:∃y,ys[2]?=δ y:=#[_,On (NO:2 < ο ys)];let e3:ys.take 3=[y0,G,y2]:=by rw[RV,RV,RV,h0,I,N];rfl
 rw[e3]at C D;erw[o _ _ ?_];let W1:Wd H H0 p j ys:=#[B1,k1,h4];generalize H0=H1 at W1;erw[ah λF2 f2=>jW W1 (ZH (Kx (Cf:=[]) (kQ Z NP NO) (Kv$ kQ Z NP NO) NP)$ XV (Cf:=[]) (Kw Z (Kv$ kQ Z NP NO)$ Kv$ kQ Z NP NO) NP) λv2 H2 x2 W2 k2=>f2 _ _ ?_];erw[ah λF3 f3=>jW W2 (ZI (Cf:=[]) (Jd (k:=2) Z Z N) (C4 (kQ Z NP NO)$ kQ Z NP NO) (Ev.up (jP Z eW x2) λ_ _=>PB.lift) NP NO) λv3 H3 x3 W3 k3=>f3 _ _ ?_];erw[ah λF4 f4=>jW W3 (Ib Z (Jd (k:=1) Z Z I) (Jd (k:=2) Z Z N)$ Jd (k:=2) Z Z N) λv4 H4 x4 W4 k4=>f4 _ _ ?_];erw[ah λF5 f5=>jW W4 (vM (lo:=6) Z Z (Jd (k:=0) Z Z h0) (Ev.up (R:=Hl [G]) (Jd (k:=1) Z Z I) λ_ _ e=>#[_,e,ON]) c NP Z Z) λv5 H5 x5 W5 k5=>f5 _ _ ?_];erw[ah λF6 O=>dX (λn g=>∃(b:V),n=[δ$ xm p,δ$ xm j,δ$ v2,δ$ v3,δ$ v4,δ b]/\PD [(G,2)] 1 y0 g b/\Wd H g p j ys/\aj H5 g) (λE6 _ J=>Jc W5 Z NP NP (λH8 W8 S=>?_) (λH8 W8 S=>?_)) λσ2 H7 h5=>?_]
 .erw[jW W8 (vM (lo:=6) Z Z (Jd (k:=0) Z Z h0) (Ev.up (R:=Hl [G]) (Jd (k:=1) Z Z I) λ_ _ e=>#[_,e,ON]) c NP Z Z) λv9 H9 x9 W9 k9=>J _ _ ?_];let M:aj H5 H9:=(S.t.trans k9.t);exact#[_,Z,x9,W9,M]
 .rwa[J _ _ #[_,Z,(mx _ _ _ S.t x5),W8,S.t]]
 let⟨b7,rfl,x7,W7,k7⟩:=h5;erw[O _ _ ?_];let L:aj H3 H7:=((k4.t.trans k5.t).trans k7);erw[Xl W7 (HZ (n1:=1) (n2:=2) (n3:=2) #[NP,NP,NP] (Ev.up (jP Z mx x7) (λ_ _ #[a,e,h]=>#[a,e,h.more NN])) (Ev.up (vM (lo:=7) Z Z (Jd (k:=1) Z Z I) (jP (P:=Hl [G,y2,y2]) Z (λ_ _ _ _ h=>h) x4) c NP Z Z) (λ_ _ #[a,e,h]=>#[a,e,h.more NN])) (Ev.up (jP Z mx$ mx _ _ _ L x3) (λ_ _ #[a,e,h]=>#[a,e,h.more NN]))) λv g x W'=>?_];let⟨r,ds,xs,rfl,g0,g1,g2,g3,g4⟩:=x;rwa[q r ds xs g g0 g1 g2 [1,2,2] #[by rw[g3.2];rwa[g3.1],by rw[g3.2];exact#[C,D]] g4 #[_,Z] W'.B W'.K]
abbrev rF:bU:=bX 74
def Gw(h:0<=d)(H:d < 4):∃m:Int,eV [vr 3,.int 3,.int 3,.int 8] d=δ (.int m)/\3<=m/\m<=8:=by
 rcases(NO:d=0∨d=1∨d=2∨d=3) with rfl |rfl |rfl |rfl
 .exact#[3,Z,NP,NP]
 .exact#[3,Z,NP,NP]
 .exact#[3,Z,NP,NP]
 .exact#[8,Z,NP,NP]
def D8(h:dq H D v)(f:0<=k)(g:k < (v.length:Int)):∃d,eV v k=δ (.ref d.p)/\d∈D/\CN H d (.ref d.p):=by
 let a:k.toNat < ο v:=NO
 let E:k=((k.toNat:Nat):Int):=NO
 let⟨d,c,b⟩:=h.at k.toNat _ (On a);let e:v[k.toNat]= .ref d.p:=b.elim λ_ z=>z.1;erw[#[d,?_,OX c,by rw[<- e];rwa[b]]];rw[E];rwa[jH (by rw[<- e];rwa[On a])]
def Hc(H:Hp)(D:xL Df)(v a:V):Prop:=∃(d:Df) (p:xL ρ) (t:ζ) (I:xL Int),d∈D/\v= .str d.f/\H d.pa=δ (.tup$ p.map tT)/\a= .ref t/\H t=δ (.tup$ I.map vr)/\ο I=ο p/\ο I<=100/\∀i∈I,0<=i/\i < 1000000000000000000
inductive mZ(b:xL V)(H:Hp)(Q:VK)(a:XK):Prop
 |mk(p:ζ)(_:b=[.ref p])(_:au H p)(_:∀(t r:ζ) (v2 v3:V) (ds:xL Df) (xs:xL V) (H':Hp),H' t=δ (.tup [.ref r,v2,v3])->H' r=δ (.tup xs)->dq H' ds xs->1<=ο ds->ο ds<=8->∀ns,uR ds ns->nH H' ds ns->Hc H' ds v2 v3->au H' p->aI p H H'->Q (.ref t) H')
def gN:am z45z z2z (ae rF):=bV
def YQ:ic:=#[.function,[(".0",.local),("_law_one",.local),("_law_number",.globalImplicit),("_law_box_here",.free)],ν,ν,[]]
def wD:(["_law_one","_law_box_here"]:xL ρ).Nodup:=NM
def vj:bn z45z (ae rF) YQ ["_law_one","_law_box_here"] 1 [0]:=oQ
def Bh(F:xD K "_law_case" rF f fd)(M:‹1› fT f0 z1z bo "_law_take")(cN:‹2› fN f3 z2z ik "_law_number")(cY:‹4› fY f4 z2z mY "_law_busy")(cZ:‹22› fZ f5 z38z rR "_law_any")(ml:mg "len"=θ)(m0:mg "tuple"=θ):⇑23 f fd z2z mZ:=by
 erw[F.ok gN λc0 A o1 s H vs Q E y h=>?_]
 let⟨p,rfl,B,q⟩:=h;erw[#[_,(jd (jy (jz qt (M.e y.m$ ja (pv 0)$ ja jf jb) jf$ aD _) (jd (jA 1 gN.nd$ cY.e y.m$ ja (pv 0) jb)$ jg$ jo$ ji$ ja (pv 1)$ ja (jv$ jq jE (pv 1) jf ∅)$ ja (ji$ ja (M.e y.m$ ja (pv 0)$ ja jf jb) jb) jb) jp)$ jd (jA 2 gN.nd$ jq ju (jF$ ja jf$ ja jf$ ja jf$ ja jf jb) (M.e y.m$ ja (pv 0)$ ja jf jb) ∅)$ jd (jA 1 gN.nd$ cZ.e y.m$ ja (pv 0)$ ja (jw jX jf$ M.e y.m$ ja (pv 0)$ ja (pv 2) jb)$ ja jf jb)$ jd (kS (jq jE (pv 1) (M.e y.m$ ja (pv 0)$ ja (jO jL Z ml Pm$ ja (pv 1) jb) jb) ∅)$ zR (n:=3) Z$ jC (jx (i:=3) gN.nd Z$ ω Z)$ jC (jx (i:=4) gN.nd Z$ ω Z)$ jC (jx (i:=5) gN.nd Z$ ω Z) kB)$ jg$ jo$ ji$ ja (pv 1)$ ja (pv 3)$ ja (jI jK Z m0 P'$ ja (@zk _ _ _ _ _ _ _ (["_law_one","_law_box_here"]) (1) ([0]) _ _ _ _ Z (qw$ pv 4) vj (λ_ _ _ _ _=>(jx (i:=0) wD Z$ ω Z)) (λ_ _ _ _ _=>(@zF _)) (λ_ _ _ _ _=>(cN.e y.m$ ja (pv 1) jb)) Cv) jb) jb),?_]];let b0:=aN;erw[ah λF1 a=>pU λG1 g1=>#[_,Z,p,3,Z,B,NP,NP,λd1 H1 a0 a1 B1 e1=>#[_,_,Z,Z,_,Z,g1 _ _ ?_]]];let k1:aI p H H1:=aI.of_eq e1;erw[cw (λc=>?_) (λc=>a _ _ ?_)]
 .erw[ah λF2 f2=>#[_,Z,p,Z,B1,λr ds xs H2 N C hl ns D b O B2 k2=>f2 _ _ ?_]];let ln:=C.len;let⟨nr,rfl⟩:=O;cases ds with
  |nil=>cases hl
  |cons d r0=>
  let⟨p0,R,S,_⟩:=b.2 0 d 1 Z Z;let h0:=C;obtain⟨u0,rr,rfl,⟨bs,rfl,hp,_⟩,_⟩:=h0;let g:eV (xm d.p::rr) 0=δ (.ref d.p):=eJ;erw[#[_,Z,jr N g #[d.p,_,_,_,Z,Z,aF.of hp,eJ,_,Z,p,6,Z,B2,NP,NP,λd3 H3 d0 d4 B3 e3=>?_]]];let c3:aI p H2 H3:=aI.of_eq e3;erw[#[iT,λu nu=>#[gU,λt U=>?_]]];let s4:aa H3 (af (af H3 u$ .tup [.int d3]) t$ .tup [.ref r,.str d.f,.ref u]):=(je nu).trans (je U);let T:=(c3.tm B2).trans (aa.tm s4);rwa[q t r _ _ _ _ _ jc (T _ _ N) (C.mono T) NO NO _ D (b.mono T) #[d,p0,u,[d3],ON,Z,T _ _ R,Z,aq jc U,by rw[S];rfl,(by show 1<=100;decide),λi hi=>by rw[χ.mp hi];omega] (B3.same s4) ((k1.trans k2).trans$ c3.trans$ aI.of_same s4)]
 erw[ah λF1 a=>#[oF,λl W=>#[_,Z,p,4,Z,B1.upd_new W,NP,NP,λd2 H2 d6 d7 B2 e2=>?_]]];let k2:aI p H1 H2:=((aI.refl).upd_new W).trans (aI.of_eq e2);let⟨m,g,m3,m8⟩:=Gw d6 d7;erw[#[l,_,_,_,Z,Z,aL.of (by rw[e2 l$ B1.ne W];rwa[jc]),g,a _ _ ?_]];erw[ah λF1 a=>#[_,Z,_,Z,_,Z,p,m,Z,B2,NO,NO,λd3 H3 d0 d4 B3 e3=>#[_,_,Z,Z,p,1+d3,12,Z,B3,NO,NO,NP,NP,λr ds xs H4 G C hl ns D b B4 k4=>a _ _ ?_]]];let ln:=C.len;let K4:aI p H H4:=(k1.trans k2).trans ((aI.of_eq e3).trans k4);erw[ah λF1 a=>#[_,Z,_,Z,_,Z,r,_,Z,.inr$ aF.of G,p,_,Z,B4,NO,NO,λd5 H5 d8 d' B5 e5=>?_]];let c5:aI p H4 H5:=aI.of_eq e5;let o:=c5.tm B4;let⟨d,g,hd,bs,e,hp,_⟩:=D8 (C.mono o) d8 d';erw[#[r,_,_,_,Z,Z,aF.of$ o _ _ G,g,d.p,_,Z,aF.of hp,Z,_,_,Z,_,_,Z,_,_,Z,Z,a _ _ ?_]];let⟨pv,X,h4⟩:=b.v d hd;let z:=o _ _ X;erw[#[_,Z,_,Z,_,Z,d.pa,Z,#[_,aF.of z],?_]];erw[qN (K:=K) (xs:=pv.map tT) (by rw[Oq];omega) (λi L J=>(∃I:xL Int,L=I.map vr/\ο I=i/\∀j∈I,0<=j/\j < 1000000000000000000)/\au J p/\aI p H5 J) #[#[[],Z,Z,(λ_ h=>nomatch h)],B5,aI.refl] (λi L J k=>?_) (λi x L J hx k=>?_) (λL J k l W=>?_)]
 .exact#[aF.of$ k.2.2.tm B5 _ _ z,let #[I,e,l,_]:=k.1;by rw[e,Oq,l];rwa[Ou _]]
 .exact#[_,Z,p,Z,k.2.1,λe H7 e0 e1 B7 e7=>#[let #[I,h1,l,h2]:=k.1;#[I++[e],by rw[h1,OU];rfl,by rw[Ot,l];rfl,Ju h2 #[e0,e1]],B7,k.2.2.trans$ aI.of_eq e7]]
 .erw[#[l,_,Z,.inl #[aL.of jc,λl2 n0=>#[gU,λt U=>?_]]]];let s7:aa J (af (af (af J l$ .lst L) l2$ .tup L) t$ .tup [.ref r,.str d.f,.ref l2]):=((je W).trans$ je n0).trans (je U);let T:=o.trans ((k.2.2.tm B5).trans$ aa.tm s7);let⟨I,hz,Y,h3⟩:=k.1;rw[Oq]at Y;rwa[q t r _ _ ds xs _ jc (T _ _ G) (C.mono T) NO NO ns D (b.mono T) #[d,pv,l2,I,hd,Z,T _ _ X,Z,by rw[<- hz];rwa[aq jc U],Y,NO,h3] (k.2.1.same s7) (K4.trans$ c5.trans$ k.2.2.trans$ aI.of_same s7)]
abbrev mK:bU:=bX 12
abbrev mV:bU:=bX 13
abbrev ba:=xL (cf×V)
def gB(x:Int):Prop:=0<=x/\x < 1000000000000000000
def GT(k:ba):Prop:=∀p∈k,∃i,p.2= .int i/\gB i
def GT.nil:GT []:=λ_ h=>absurd h O5
def GT.put(h:GT a)(k:cf)(H:gB i):GT (cn a k$ .int i):=by
 intro p hp;unfold cn at hp;split at hp
 .let⟨q,b,rfl⟩:=dg.mp hp;by_cases e:q.1=k
  .rw[OB e];exact#[i,Z,H]
  .rw[OD e];rwa[h q b]
 .rcases bm.mp hp with hp |hp
  .rwa[h p hp]
  .rw[χ.mp hp];exact#[i,Z,H]
def GT.val(h:GT a)(e:eQ a k=δ v):∃i,v= .int i/\gB i:=by unfold eQ at e;let⟨p,H,rfl⟩:=cv.mp e;rwa[h p$ List.mem_of_find?_eq_some H]
def look(a:ba)(k:cf)(z:Int):Int:=match eQ a k with
 |some (.int i)=>i
 |_=>z
def KU(h:GT a)(k:cf)(z:Int):(eQ a k).getD (.int z)= .int (look a k z):=by
 unfold look;cases e:eQ a k with
 |none=>rfl
 |some v=>let⟨i,rfl,_⟩:=h.val e;rfl
def tK(h:GT a)(e:eQ a k=δ v)(z:Int):v= .int (look a k z):=by unfold look;let⟨i,rfl,_⟩:=h.val e;rw[e]
def tJ(e:eQ a k=θ)(z:Int):look a k z=z:=by unfold look;rw[e]
def Kl(h:GT a)(H:gB z):gB (look a k z):=by
 unfold look;cases e:eQ a k with
 |none=>rwa[H]
 |some v=>let⟨i,rfl,b⟩:=h.val e;rwa[b]
def Ji:gB 0:=#[NP,NP]
def jn(i:Nat)(x y:Int):Int:=match i with
 |0=>(x+y) % 1000000000000000000
 |1=>(x - y) % 1000000000000000000
 |2=>x*y % 1000000000000000000
 |3=>if y=0 then 0 else x / y
 |4=>if x < y then 1 else 0
 |_=>if x=y then 1 else 0
def Tm.ev(k:ba):Tm->Int
 | .num n=>n
 | .var x=>look k (.inr x) 0
 | .op i a b=>jn i (a.ev k) (b.ev k)
def Ij(H:gB x)(c:gB y):gB (jn i x y):=by
 let a:(1000000000000000000:Int)≠0:=NP
 let b:(0:Int) < 1000000000000000000:=NP
 match i with
 |0 |1 |2=>exact#[Pz _ a,Pj _ b]
 |3=>
  show gB (if y=0 then 0 else x / y);by_cases h:y=0
  .rw[OB h];exact#[NP,NP]
  .rw[OD h];let e:=c.1;let d:0 < y:=by omega
   erw[#[V' H.1 N09,Int.lt_of_le_of_lt ?_ H.2]];rwa[Int.ediv_le_self _ H.1]
 |4=>show gB (if x < y then 1 else 0);split<;>exact#[NP,NP]
 |n+5=>show gB (if x=y then 1 else 0);split<;>exact#[NP,NP]
theorem qO(g:GT k):∀{t:Tm},t.Good y->gB (t.ev k)
 | .num _,h=>h
 | .var x,_=>Kl g Ji
 | .op _ _ _,h=>Ij (qO g h.2.1) (qO g h.2.2)
inductive lH(b:xL V)(H:Hp)(Q:VK)(a:XK):Prop
 |mk(i:Nat)(x y:Int)(_:b=[.str (MH i),.int x,.int y])(_:i < 6)(_:gB x)(_:gB y)(_:Q (.int (jn i x y)) H)
def M8(K:β)(H:Hp)(T:Tm)(a:ζ):Prop:=bJ H T a∨(T= .num 0/\aF K H a [.str "num",.int 0])
inductive dm(K:β)(n:Nat)(e:xL V)(H:Hp)(Q:VK)(b:XK):Prop
 |mk(a d:ζ)(T:Tm)(f:xL ρ)(c:ba)(_:e=[.ref a,.ref d])(_:M8 K H T a)(_:T.depth < n)(_:T.Good f)(_:H d=δ (.dK c))(_:GT c)(_:Q (.int (T.ev c)) H)
def yc:am z25z z25z (ae mK):=bV
def tW(F:xD K "joined" mK f b)(m:mg "TOP"=δ (.int 1000000000000000000 t)):⇑1 f b z25z lH:=by
 erw[F.ok yc (λe A o s H d Q E r h=>?_)]
 let⟨i,x,y,rfl,u,g,j,q⟩:=h;erw[#[_,(jd (jy (jZ$ pv 0) (jg$ jo$ jw zg (jw jX (pv 1)$ pv 2)$ Je (v:=.int 1000000000000000000) Z m #[_,Z]) jp)$ jd (jy (jZ$ pv 0) (jg$ jo$ jw zg (jw zb (pv 1)$ pv 2)$ Je (v:=.int 1000000000000000000) Z m #[_,Z]) jp)$ jd (jy (jZ$ pv 0) (jg$ jo$ jw zg (jw zE (pv 1)$ pv 2)$ Je (v:=.int 1000000000000000000) Z m #[_,Z]) jp)$ jd (jy (jZ$ pv 0) (jg$ jo$ kL (zo$ pv 2) jf$ jw KN (pv 1)$ pv 2) jp)$ jd (jy (jZ$ pv 0) (jg$ jo$ kL (jz QN (pv 1) (pv 2)$ aD _) jf jf) jp)$ jg$ jo$ kL (jz qr (pv 1) (pv 2)$ aD _) jf jf),?_]];let⟨k,l⟩:=g;let⟨n,p⟩:=j;rcases(NO:i=0∨i=1∨i=2∨i=3∨i=4∨i=5) with rfl |rfl |rfl |rfl |rfl |rfl
 .erw[#[_,Z,Z,_,Z,cq NM ?_]];exact#[_,Z,_,Z,_,_,Z,Z,_,_,Z,Z,(by show(0:Int) < 1000000000000000000;decide),q]
 .erw[#[_,Z,Z,_,Z,aV NM ?_]];erw[#[_,Z,Z,_,Z,cq NM ?_]];exact#[_,Z,_,Z,_,_,Z,Z,_,_,Z,Z,(by show(0:Int) < 1000000000000000000;decide),q]
 .erw[#[_,Z,Z,_,Z,aV NM ?_]];erw[#[_,Z,Z,_,Z,aV NM ?_]];erw[#[_,Z,Z,_,Z,cq NM ?_]];exact#[_,Z,_,Z,_,_,Z,Z,.inl #[NO,NO],_,_,Z,Z,(by show(0:Int) < 1000000000000000000;decide),q]
 .erw[#[_,Z,Z,_,Z,aV NM ?_]];erw[#[_,Z,Z,_,Z,aV NM ?_]];erw[#[_,Z,Z,_,Z,aV NM ?_]];erw[#[_,Z,Z,_,Z,cq NM ?_]];let a:Q (.int (if y=0 then 0 else x / y)) H:=q;erw[#[_,Z,Z,_,Z,?_]];refine cw (λc=>?_) (λc=>?_)
  .let C:vr y=vr 0:=Pe c;injection C with C;rw[OB C]at a;rwa[a]
  .let C:y≠0:=λz=>c (by rw[z];rfl);rw[OD C]at a;exact#[_,Z,_,Z,_,_,Z,Z,#[NO,NO],a]
 .erw[#[_,Z,Z,_,Z,aV NM ?_]];erw[#[_,Z,Z,_,Z,aV NM ?_]];erw[#[_,Z,Z,_,Z,aV NM ?_]];erw[#[_,Z,Z,_,Z,aV NM ?_]];erw[#[_,Z,Z,_,Z,cq NM ?_]];let a:Q (.int (if x < y then 1 else 0)) H:=q;erw[#[_,Z,_,Z,_,_,Z,Z,_,Z,?_]];refine cw (λc=>?_) (λc=>?_)
  .rw[OB$ Pe c]at a;rwa[a]
  .rw[OD$ SG$ mS.mpr c]at a;rwa[a]
 .erw[#[_,Z,Z,_,Z,aV NM ?_]];erw[#[_,Z,Z,_,Z,aV NM ?_]];erw[#[_,Z,Z,_,Z,aV NM ?_]];erw[#[_,Z,Z,_,Z,aV NM ?_]];erw[#[_,Z,Z,_,Z,aV NM ?_]];let a:Q (.int (if x=y then 1 else 0)) H:=q;erw[#[_,Z,_,Z,Z,_,Z,?_]];refine cw (λc=>?_) (λc=>?_)
  .let C:vr x=vr y:=Pe c;injection C with C;rw[OB C]at a;rwa[a]
  .let C:x≠y:=λz=>c (by rw[z];rwa[OE Z]);rw[OD C]at a;rwa[a]
def Ce:am z10z z10z (ae mV):=bV
def wX(F:xD K "worth" mV f p)(C:‹n+1› f p z10z (dm K n) "worth")(v:‹1› R B z25z lH "joined"):⇑(n+2) f p z10z (dm K$ n+1):=by
 erw[F.ok Ce (λD A o s H V Q E j h=>?_)]
 let⟨a,d,T,y,c,rfl,t,I,g,l,G,q⟩:=h;erw[#[_,(jd (jy (jZ$ jv$ pv 0) (jg$ jo$ jv$ pv 0) jp)$ jd (jy (jZ$ jv$ pv 0) (jg$ jo$ @KQ _ _ _ _ _ _ _ _ _ (zX j) (pv 1) (jv$ pv 0) jf #[NK,NK,NK,NK]) jp)$ jg$ jo$ v.e j.m$ ja (jv$ pv 0)$ ja (C.e j$ ja (jv$ pv 0)$ ja (pv 1) jb)$ ja (C.e j$ ja (jv$ pv 0)$ ja (pv 1) jb) jb),?_]];cases T with
 |num m=>
  let b:aF K H a [.str "num",.int m]:=t.elim (λh=>aF.of h) λz=>by cases z.1;rwa[z.2]
  erw[#[_,Z,a,_,_,_,Z,Z,b,Z,Z,_,Z,cq NM ?_]];exact#[_,Z,a,_,_,_,Z,Z,b,Z,q]
 |var x=>
  let b:H a=δ (.tup [.str "var",.str x]):=t.resolve_right λz=>by cases z.1
  erw[(jr b Z #[Z,_,Z,aV NM ?_])];erw[(jr b Z #[Z,_,Z,cq NM ?_])];erw[#[_,Z,d,Z,.inl #[c,.inl l],jr b Z #[_,gX.k (k:=Sum.inr x) l,?_]]];rw[KU G];rwa[q]
 |op i r u=>
  let⟨J,L,b,M,N⟩:=t.resolve_right λz=>by cases z.1
  let O:max r.depth u.depth+1 < n+1:=I;erw[(jr b Z #[Z,_,Z,aV NM ?_])];erw[(jr b Z #[Z,_,Z,aV NM ?_])];erw[(jr b Z ?_)];erw[(jr b Z #[_,Z,J,d,r,y,c,Z,.inl M,NO,g.2.1,l,G,?_])];erw[(jr b Z #[_,Z,L,d,u,y,c,Z,.inl N,NO,g.2.2,l,G,?_])];exact#[i,_,_,Z,g.1,qO G g.2.1,qO G g.2.2,q]
def wJ:⇑1 f e z10z (dm K 0):=by
 let n:∀v H Q E,¬dm K 0 v H Q E:=λv H Q E h=>by let⟨a,d,T,y,k,_,_,c,_⟩:=h;rwa[absurd c$ SJ _]
 exact#[λv H Q E h=>absurd h (n v H Q E),λA o s H b u v Q E _ _ _ _ h=>absurd h (n v H Q E)]
theorem yV(F:xD K "worth" mV f a)(b:aE K a z10z [])(m:mg "worth"=↑f)(c:‹1› e d z25z lH "joined"):
  ∀n:Nat,⇑(n+1) f a z10z (dm K n)
 |0=>wJ
 |n+1=>wX F #[(yV F b m c n),b,F.kp,m] c
def TV(H:Hp)(y:xL ρ)(t:ζ)(T:Tm):Prop:=bJ H T t/\dW y T
def TV.mono(k:aj H a)(h:TV H y t T):TV a y t T:=#[h.1.mono k,h.2]
inductive Gl where
 |give (t:ζ) (T:Tm) |nought |go (n:Nat)
structure WD where
 sets:xL (ρ×ζ×Tm)
 goal:Gl
def Gl.gol(N:ζ):Gl->LA
 | .give t _=>.give t
 | .nought=>.give N
 | .go n=>.go (n:Int)
def WD.wy(n:ζ)(w:WD):Wy:=#[w.sets.map λs=>(s.1,s.2.1),w.goal.gol n]
def Hf(H:Hp)(y:xL ρ)(m:Nat):Gl->Prop
 | .give t T=>TV H y t T
 | .nought=>True
 | .go n=>n < m
structure Aa(H:Hp)(ys:xL ρ)(m N:Nat)(w:WD):Prop where
 sets:∀s∈w.sets,TV H ys s.2.1 s.2.2
 len:ο w.sets<=N
 goal:Hf H ys m w.goal
def nK(H:Hp)(y:xL ρ)(n:ζ)(m N:Nat)(w:Wy):Prop:=∃d:WD,d.wy n=w/\Aa H y m N d
def MY(F:i7)(H:Hp)(y:xL ρ):Dd->Prop
 | .st p=>∃(l:Lf) (v:xL V),H p=δ (.tup v)/\Aj H l v/\l.Ok y/\l.isCut=μ/\l.Cs F
 | .ask t=>∃T,TV H y t T
def Dd.ways:Dd->Nat
 | .st _=>1
 | .ask _=>2
structure Ag(F:i7)(H:Hp)(ys:xL ρ)(nA:ζ)(m N:Nat)(c:Ct):Prop where
 mem:∀x,c.M x->x∈ys
 deed:MY F H ys c.d
 ways:∀w∈c.ws,nK H ys nA m N w
 len:ο c.ws=c.d.ways
structure y9(H:Hp)(ys:xL ρ)(nA:ζ)(m N:Nat)(pc:Pc):Prop where
 mem:∀x,pc.M x->x∈ys
 way:nK H ys nA m N pc.w
section
variable {F:i7}{H H':Hp}{ys:xL ρ}{nA:ζ}{m N N':Nat}
def Hf.mono(k:aj H H')(h:Hf H ys m g):Hf H' ys m g:=by
 cases g with
 |give t T=>rwa[TV.mono k h]
 |nought=>trivial
 |go n=>rwa[h]
def Aa.mono(k:aj H H'){w:WD}(h:Aa H ys m N w):Aa H' ys m N w:=#[λs a=>(h.sets s a).mono k,h.len,h.goal.mono k]
def nK.up(a:N<=N'){w:Wy}(h:nK H ys nA m N w):nK H ys nA m N' w:=by let⟨d,e,v⟩:=h;rwa[#[d,e,v.sets,OK v.len a,v.goal]]
def Ag.up(a:N<=N')(h:Ag F H ys nA m N c):Ag F H ys nA m N' c:=#[h.mem,h.deed,λw b=>(h.ways w b).up a,h.len]
def y9.up(a:N<=N')(h:y9 H ys nA m N p):y9 H ys nA m N' p:=#[h.mem,h.way.up a]
def YW{n:Nat}(a:k=(n:Int))(b:n < m):nK H ys nA m N #[[],.go k]:=#[#[[],.go n],by rw[a];rfl,(λ_ h=>absurd h O5),OA _,b]
theorem KA:∀(b:Bd) {X:xL V} {g:Pc} {fs:xL Ct} {N:Nat},eI H b X->b.Ok ys->b.Cs F->y9 H ys nA m N g->(∀c∈fs,Ag F H ys nA m N c)->ο fs+b.cuts<=m->
  y9 H ys nA m (N+b.size) (pB (m:Int) b g fs).1/\∀c∈(pB (m:Int) b g fs).2,Ag F H ys nA m (N+b.size) c
 | .nil,_,_,_,_,_,_,_,o,y,_=>#[o,y]
 | .lf p l r,X,g,fs,N,C,i,k,o,y,D=>by
  let⟨vs,zs,_,h1,I,h3⟩:=C;let E:ο fs+(l.cut+r.cuts)<=m:=D;let⟨R,A⟩:=KA r h3 i.2 k.2 o y NO;let hl:=kn (m:Int) r g fs;let S:N+r.size<=N+(r.size+1):=NO
  let j:=Lf.use_in i.1 R.mem;let J:l.isCut=μ->l.cut=1->y9 H ys nA m (N+(r.size+1)) #[l.use (pB (m:Int) r g fs).1.M,#[[],.go ((m:Int) - ((pB (m:Int) r g fs).2.length:Int) - 1)]]/\∀c∈(pB (m:Int) r g fs).2++[#[l.use (pB (m:Int) r g fs).1.M,.st p,[(pB (m:Int) r g fs).1.w]]],Ag F H ys nA m (N+(r.size+1)) c:=λG h0=>
   #[#[j,YW (n:=m - (ο fs+r.cuts) - 1) (by rw[hl];rwa[N09]) N09],λc L=>by
    rcases bm.mp L with z |z
    .exact(A c z).up S
    .rw[χ.mp z];exact#[j,#[l,vs,h1,I,i.1,G,k.1],λw hw=>by rw[χ.mp hw];rwa[R.way.up S],Z]]
  show y9 H ys nA m (N+(r.size+1)) (pL (m:Int) p l$ pB (m:Int) r g fs).1/\∀c∈(pL (m:Int) p l$ pB (m:Int) r g fs).2,Ag F H ys nA m (N+(r.size+1)) c;cases l with
  |gv t T=>exact#[#[j,#[#[[],.give t T],Z,(λ_ h=>absurd h O5),OA _,I.2,i.1]],λc G=>(A c G).up S]
  |st x t T=>
   erw[#[#[j,?_],λc G=>(A c G).up S]];show nK H ys nA m _ (lB x t (pB (m:Int) r g fs).1);unfold lB;split
   .let⟨d,e,v⟩:=R.way;erw[#[#[(x,t,T)::d.sets,d.goal],by rw[<- e];rfl,λs hs=>?_,Rj v.len,v.goal]];rcases Ξ.mp hs with rfl |hs
    .exact#[I.2,i.1.2]
    .rwa[v.sets s hs]
   .rwa[R.way.up S]
  |rd x t T |wr t u T U |cl x f q ts=>rwa[J Z Z]
 | .ite p t T a c r,X,g,fs,N,C,i,k,o,y,D=>by
  let⟨qa,qb,as,bs,zs,_,g1,O,g2,g3,Q,g5,W⟩:=C;let E:ο fs+(1+a.cuts+c.cuts+r.cuts)<=m:=D;let⟨R,A⟩:=KA r W i.2.2.2 k.2.2 o y NO;let B:=kn (m:Int) r g fs;let⟨c1,c2⟩:=KA c g5 i.2.2.1 k.2.1 R A NO;let h4:=kn (m:Int) c (pB (m:Int) r g fs).1 (pB (m:Int) r g fs).2;let⟨Y,a2⟩:=KA a Q i.2.1 k.1 (R.up$ RY _ _) c2 NO;let S:N+r.size+c.size+a.size<=N+(a.size+c.size+r.size+1):=NO
  let j:∀x,(Bd.ite p t T a c .nil).use (pB (m:Int) r g fs).1.M x->x∈ys:=Bd.use_in #[i.1,i.2.1,i.2.2.1,trivial] R.mem;let hk:(m:Int) - ((pB (m:Int) r g fs).2.length:Int) - ((Bd.ite p t T a c .nil).cuts:Int)=((m - (ο fs+r.cuts) - (1+a.cuts+c.cuts):Nat):Int):=by show(m:Int) - _ - ((1+a.cuts+c.cuts+0:Nat):Int)=_;rw[B];rwa[N09]
  unfold pB;dsimp only;erw[#[#[j,YW hk N09],λe he=>?_]];rcases bm.mp he with z |z
  .exact(a2 e z).up S
  .rw[χ.mp z];erw[#[j,#[T,O,i.1],λw hw=>?_,Z]];rcases Ξ.mp hw with rfl |hw
   .rwa[Y.way.up S]
   .rw[χ.mp hw];rwa[c1.way.up (by show _<=N+(a.size+c.size+r.size+1);omega)]
 | .loop p t T a r,X,g,fs,N,C,i,k,o,y,D=>by
  let⟨qa,as,zs,_,g1,O,g2,Q,W⟩:=C;let E:ο fs+(1+a.cuts+r.cuts)<=m:=D;let⟨R,A⟩:=KA r W i.2.2 k.2 o y NO;let B:=kn (m:Int) r g fs;let j:∀x,(Bd.loop p t T a .nil).use (pB (m:Int) r g fs).1.M x->x∈ys:=Bd.use_in #[i.1,i.2.1,trivial] R.mem;let hk:(m:Int) - ((pB (m:Int) r g fs).2.length:Int) - ((Bd.loop p t T a .nil).cuts:Int)=((m - (ο fs+r.cuts) - (1+a.cuts):Nat):Int):=by show(m:Int) - _ - ((1+a.cuts+0:Nat):Int)=_;rw[B];rwa[N09]
  let pl:y9 H ys nA m (N+r.size) #[(Bd.loop p t T a .nil).use (pB (m:Int) r g fs).1.M,#[[],.go ((m:Int) - ((pB (m:Int) r g fs).2.length:Int) - ((Bd.loop p t T a .nil).cuts:Int))]]:=#[j,YW hk N09];let⟨Y,a2⟩:=KA a Q i.2.1 k.1 pl A NO;let S:N+r.size+a.size<=N+(a.size+r.size+1):=NO
  unfold pB;dsimp only;erw[#[pl.up (by show _<=N+(a.size+r.size+1);omega),λe he=>?_]];rcases bm.mp he with z |z
  .exact(a2 e z).up S
  .rw[χ.mp z];erw[#[j,#[T,O,i.1],λw hw=>?_,Z]];rcases Ξ.mp hw with rfl |hw
   .rwa[Y.way.up S]
   .rw[χ.mp hw];rwa[R.way.up (by show _<=N+(a.size+r.size+1);omega)]
end
def cg(n:ζ)(d:Df):xL Ct:=(iP n d).2.reverse
def pH(n:ζ)(d:Df):(cg n d).length=d.b.cuts:=by unfold cg;rw[Vp];exact(kn _ _ _ _).trans (Ss _)
def Dq{nA:ζ}{d:Df}(f:eI H d.b B)(g:d.b.Ok y):y9 H y nA d.b.cuts d.b.size (iP nA d).1/\∀c∈cg nA d,Ag d.b.calls H y nA d.b.cuts d.b.size c:=by let p:y9 H y nA d.b.cuts 0 (My nA):=#[λx i=>absurd i O5,#[[],.nought],Z,(λ_ h=>absurd h O5),Ou _,trivial];let⟨a,e⟩:=KA (m:=d.b.cuts) d.b f g (zK d.b) p (fs:=[]) (λ_ h=>absurd h O5) (by show 0+_<=_;omega);rw[Ss]at a e;exact#[a,λc j=>e c (List.mem_reverse.mp j)]
def Xf{M:ρ->Prop}{y:xL ρ}(h:∀x,M x->x∈y):(canon M).length<=ο y:=by
 by_cases e:∃s,Nm s M
 .let⟨s,H⟩:=e;rw[<- H.canon];rwa[H.len h]
 .unfold canon;rw[dif_neg e];rwa[OA _]
def b6:xL (ρ×ζ×Tm)->ba->ba
 | [],k=>k
 |s::r,k=>b6 r (cn k (.inr s.1) (.int (s.2.2.ev k)))
def eM(N:ζ)(d:Df)(n:Nat):xL ρ:=match (cg N d)[n]? with
 |some c=>canon c.M
 |none=>[]
def oW(N:Nat->xL ρ)(k:ba):Gl->Tr
 | .give _ T=>ay [aM "give",ar (T.ev k)]
 | .nought=>ay [aM "give",ar 0]
 | .go n=>ay [aM "go",ar (n:Int),ay ((N n).map λx=>ar (look k (.inr x) 0))]
theorem zz{H:Hp}{ys:xL ρ}:∀{ss:xL (ρ×ζ×Tm)} {k:ba},(∀s∈ss,TV H ys s.2.1 s.2.2)->GT k->GT (b6 ss k)
 | [],_,_,g=>g
 |s::r,k,h,g=>zz (H:=H) (ys:=ys) (ss:=r) (λS a=>h S (OY _ a)) (g.put _ (qO g (h s ON).2.1))
def ur{S:xL (ρ×ζ×Tm)}:∀{i:Nat} {s:ρ×ζ×Tm} {k:ba},S[i]?=δ s->b6 (S.take$ i+1) k=cn (b6 (S.take i) k) (.inr s.1) (.int$ s.2.2.ev$ b6 (S.take i) k):=by
 induction S with
 |nil=>intro i s k h;simp at h
 |cons a r I=>
  intro i s k h;cases i with
  |zero=>cases h;rfl
  |succ i=>rwa[I (h:)]
def qD{kvs:ba}{k:cf}{v:V}:(cn kvs k v).length<=ο kvs+1:=by
 unfold cn;split
 .rw[Oq];rwa[PY _]
 .rw[Ot];rwa[Ou _]
theorem Yj:∀{ss:xL (ρ×ζ×Tm)} {k:ba},(b6 ss k).length<=ο k+ο ss
 | [],_=>Ou _
 |s::r,k=>by let h:=Yj (ss:=r) (k:=cn k (.inr s.1) (.int$ s.2.2.ev k));let H:=qD (kvs:=k) (k:=.inr s.1) (v:=.int (s.2.2.ev k));show(b6 r _).length<=ο k+(ο r+1);omega
def aJ(n:xL ρ)(i:xL Int):ba:=dN [] ((n.map Sum.inr).zip$ i.map vr)
theorem Yk:∀{m:ba} {k:ba},GT k->GT m->GT (dN k m)
 | [],_,g,_=>g
 |p::r,k,g,h=>by
  let⟨i,e,H⟩:=h p ON;let E:cn k p.1 p.2=cn k p.1 (.int i):=by rw[e]
  show GT (dN (cn k p.1 p.2) r);rw[E];rwa[Yk (g.put _ H) λq a=>h q (OY _ a)]
def qc(h:∀i∈I,gB i):GT (aJ n I):=by erw[Yk GT.nil λp H=>?_];let⟨i,a,e⟩:=dg.mp (TB H).2;exact#[i,e.symm,h i a]
def sj{ns:xL ρ}{is:xL Int}:(aJ ns is).length<=ο ns:=by let h:=qS ((ns.map Sum.inr).zip$ is.map vr) [];rw[Ur,Oq]at h;show(dN [] _).length<=_;let H:(dN [] ((ns.map Sum.inr).zip$ is.map vr)).length<=0+min ns.length (is.map vr).length:=h;omega
abbrev oZ:bU:=bX 23
abbrev mJ:bU:=bX 24
abbrev hX:bU:=bX 28
abbrev mH:bU:=bX 29
abbrev lh:bU:=bX 30
abbrev mO:bU:=bX 31
structure nJ(H:Hp)(nA:ζ)(d:Df)(ys:xL ρ)(v:V):Prop where
 tr:aS H (gG nA d) v []
 bd:∃bs,eI H d.b bs
 ok:d.b.Ok ys
 y20:ys.length<=20
 sz:d.b.size<=3000
structure He(H:Hp)(nA:ζ)(d:Df)(ys:xL ρ)(c:Ct)(ka na wa:ζ)(dv:V)(wvs:xL V):Prop where
 at':H ka=δ (.tup [.ref na,dv,.ref wa])
 nms:H na=δ (.tup ((canon c.M).map tT))
 deed:aS H (LN c.d) dv []
 wat:H wa=δ (.tup wvs)
 ways:aS H (aC$ c.ws.map iU) .non wvs
 v:Ag d.b.calls H ys nA d.b.cuts d.b.size c
theorem se:∀{S:xL ρ} {v:xL V},aS H (aC$ S.map aM) .non v->v=S.map tT
 | [],v,h=>h
 |s::S,v,h=>by obtain⟨_,_,y,Y,rfl,⟨rfl,_⟩,a⟩:=h;rw[se a];rfl
section
variable {H H':Hp}{nA:ζ}{d:Df}{ys:xL ρ}{v:V}
def nJ.mono(k:aj H H')(h:nJ H nA d ys v):nJ H' nA d ys v:=#[h.tr.mono k,let #[b,a]:=h.bd;#[b,a.mono k],h.ok,h.y20,h.sz]
inductive nJp(H:Hp)(nA:ζ)(d:Df)(v:V):Prop|mk(a c W C:_)(_:v= .ref a)(_:H a=δ (.tup [.str d.f,.ref d.pa,W,.ref c]))(_:aS H (iU (iP nA d).1.w) W [])(_:H c=δ (.tup C))(_:aS H (aC ((cg nA d).map HK)) .non C)
def nJ.parts(h:nJ H nA d ys v):nJp H nA d v:=by obtain⟨_,a,x,rfl,i,_,_,n,Y,rfl,⟨rfl,_⟩,_,_,o,j,rfl,⟨rfl,_⟩,_,_,W,k,rfl,l,_,_,p,y,rfl,m,e⟩:=h.tr;let e:y=[]:=e;subst e;let⟨_,c,C,rfl,b,g⟩:=m;exact#[a,c,W,C,Z,i,l,b,g]
def nJ.cut{C:xL V}(h:nJ H nA d ys v)(a:aS H (aC ((cg nA d).map HK)) .non C){n:Nat}{c:Ct}(g:(cg nA d)[n]?=δ c):∃k N i D W,C[n]?=↑k/\He H nA d ys c k N i D W:=by
 let L:=zn a;rw[Oq]at L;let u:n < ο C:=by rw[L];exact(ξ.mp g).1
 let j:C[n]?=δ C[n]:=On u;let⟨T,b,t⟩:=qX a n _ j;rw[OL,g]at b;cases b;let⟨B,y⟩:=h.bd;let z:=(Dq (nA:=nA) y h.ok).2 c (OX g);generalize C[n]=x at j t;let⟨_,k,E,rfl,l,_,_,F,G,rfl,m,_,_,D,I,rfl,o,_,_,J,A,rfl,p,e⟩:=t;let e:A=[]:=e;subst e;let⟨_,N,M,rfl,f,q⟩:=m;let⟨_,i,W,rfl,r,s⟩:=p;rw[se q]at f;exact#[k,N,i,D,W,j,l,f,o,r,s,z]
def nJ.way(h:nJ H nA d ys v):nK H ys nA d.b.cuts d.b.size (iP nA d).1.w:=by let⟨B,a⟩:=h.bd;rwa[(Dq (nA:=nA) a h.ok).1.way]
def wH(h:(cg nA d)[n]?=δ c):eM nA d n=canon c.M:=by unfold eM;rw[h]
end
structure Mi(H:Hp)(nA:ζ)(w:WD)(wa sa ga:ζ)(ss:xL V)(wd:ρ)(u:V):Prop where
 at':H wa=δ (.tup [.ref sa,.ref ga])
 sat:H sa=δ (.tup ss)
 sets:∀(i:Nat) (x:V),ss[i]?=δ x->∃(s:ρ×ζ×Tm) (p:ζ),w.sets[i]?=δ s/\x= .ref p/\H p=δ (.tup [.str s.1,.ref s.2.1])
 len:ο ss=ο w.sets
 gat:H ga=δ (.tup [.str wd,u])
 goal:match w.goal with
  | .give t _=>wd="give"/\u= .ref t
  | .nought=>wd="give"/\u= .ref nA
  | .go n=>wd="go"/\u= .int (n:Int)
def CD{w:WD}(h:aS H (iU$ w.wy N) v []):∃(l S G:ζ) (A:xL V) (W:ρ) (u:V),v= .ref l/\Mi H N w l S G A W u:=by
 obtain⟨_,r,X,rfl,C,_,_,y0,D,rfl,⟨_,s,c,rfl,E,m⟩,_,_,Y,y,rfl,b,e⟩:=h;let e:y=[]:=e;subst e;let L:=zn m;let st:∀(i:Nat) (x:V),c[i]?=δ x->∃(s:ρ×ζ×Tm) (p:ζ),w.sets[i]?=δ s/\x= .ref p/\H p=δ (.tup [.str s.1,.ref s.2.1]):=λi x F=>by let⟨tr,o,I⟩:=qX m i x F;rw[OL]at o;let⟨q,J,rfl⟩:=cv.mp o;let a:(w.sets.map λs=>(s.1,s.2.1))[i]?=δ q:=J;rw[OL]at a;let⟨z,M,rfl⟩:=cv.mp a;obtain⟨_,p,X,rfl,O,_,_,Q,R,rfl,⟨rfl,_⟩,_,_,U,B,rfl,⟨rfl,_⟩,e⟩:=I;let e:B=[]:=e;subst e;exact#[z,p,M,Z,O]
 let ln:ο c=ο w.sets:=by rw[L,Oq];rwa[Oq ..]
 let f:∀g:Gl,w.goal=g->aS H (AR$ g.gol N) Y []->∃(G:ζ) (W:ρ) (u:V),Y= .ref G/\H G=δ (.tup [.str W,u])/\match g with
  | .give t _=>W="give"/\u= .ref t
  | .nought=>W="give"/\u= .ref N
  | .go n=>W="go"/\u= .int (n:Int):=λg _ b=>by
  cases g with
  |give t T |nought |go n=>obtain⟨_,gl,X,rfl,d,_,_,Q,R,rfl,⟨rfl,_⟩,_,_,U,B,rfl,⟨rfl,_⟩,e⟩:=b;let e:B=[]:=e;subst e;exact#[gl,_,_,Z,d,Z,Z]
 let⟨G,W,u,rfl,j,k⟩:=f w.goal Z b;exact#[r,s,G,c,W,u,Z,C,E,st,ln,j,k]
inductive lD(b:ζ)(e:xL V)(H:Hp)(Q:VK)(a:XK):Prop
 |mk(v:V)(n:Nat)(d:Df)(f:xL ρ)(c:Ct)(_:e=[v,.int (n:Int)])(_:nJ H b d f v)(_:(cg b d)[n]?=δ c)(_:∀(ka na wa:ζ) (dv:V) (wvs:xL V),He H b d f c ka na wa dv wvs->Q (.ref ka) H)
inductive lG(f:ζ)(g:xL V)(H:Hp)(Q:VK)(a:XK):Prop
 |mk(v:V)(n:Nat)(b:ζ)(d:Df)(h:xL ρ)(c:Ct)(e:xL Int)(_:g=[v,.int (n:Int),.ref b])(_:nJ H f d h v)(_:(cg f d)[n]?=δ c)(_:H b=δ (.tup (e.map vr)))(_:ο e=(canon c.M).length)(_:∀dd:ζ,H dd=θ->Q (.ref dd) (af H dd (.dK (aJ (canon c.M) e))))
def pW:∀(s:xL ρ),(s.map (Sum.inr:ρ->cf)).map kV=s.map tT:=λs=>by rw[Rk];rfl
def Cc:am ["part","n"] ["part","n"] (ae oZ):=bV
def wN{f:ζ}{g:cc}{N:ζ}(F:xD K "cut_at" oZ f g):⇑1 f g ["part","n"] (lD N):=by
 erw[F.ok Cc λl A o s H V Q E B h=>?_]
 let⟨v,n,d,y,c,rfl,i,m,q⟩:=h;erw[#[_,(jg$ jo$ jq jE (jv$ pv 0) (pv 1) ∅),?_]];let⟨a,p,I,J,rfl,r,L,b,e⟩:=i.parts;let⟨t,u,x,D,W,z,C⟩:=i.cut e m;exact#[_,Z,a,_,_,_,Z,Z,aF.of r,jH (j:=3) Z,_,Z,p,_,_,_,Z,Z,aF.of b,jH z,q t u x D W C]
def yb:am z5z z5z (ae mJ):=bV
def tV(F:xD K "held_at" mJ f g)(i:‹1› J j ["part","n"] (lD N) "cut_at")(m:mg "dict"=θ)(a:mg "zip"=θ):⇑2 f g z5z (lG N):=by
 erw[F.ok yb λp A o s H V Q E r h=>?_]
 let⟨v,n,b,d,y,c,I,rfl,t,u,x,z,q⟩:=h;erw[#[_,(jg$ jo$ @Z1 _ _ _ _ _ _ _ _ Z m Z a Z (ja (jq jE (i.e r$ ja (pv 0)$ ja (pv 1) jb) jf ∅)$ ja (pv 2) jb) NK NK NK NK),?_]];erw[#[_,Z,_,Z,v,n,d,y,c,Z,t,u,λB D O R W C=>#[B,_,_,_,Z,Z,aF.of C.at',eJ,_,Z,D,b,(canon c.M).map Sum.inr,_,Z,by rw[pW];rwa[aF.of C.nms],aF.of x,by rw[Oq,Oq,z],λl G=>q l G]]]
inductive Wh where
 |rd (a i:Int) |wr (a b:Int) |ask (b:Int) |cl (f:ρ) (is:xL Int) (i:Int)
def DO(H:Hp)(u:V):Wh->Prop
 | .rd a i=>∃p,u= .ref p/\H p=δ (.tup [.str "read",.int a,.int i])
 | .wr a b=>∃p,u= .ref p/\H p=δ (.tup [.str "write",.int a,.int b])
 | .ask b=>∃p,u= .ref p/\H p=δ (.tup [.str "ask",.int b])
 | .cl f I i=>∃p c g e,u= .ref p/\H p=δ (.tup [.str "call",.ref c])/\H c=δ (.tup [.str f,.ref g,e,.int i])/\H g=δ (.tup (I.map vr))
def DO.mono{H d:Hp}(k:aj H d){u:V}{w:Wh}(h:DO H u w):DO d u w:=by
 cases w with
 |rd a i |wr a b |ask b=>let⟨p,e,h⟩:=h;exact#[p,e,k _ _ h]
 |cl f I i=>let⟨p,c,g,e,E,j,l,m⟩:=h;exact#[p,c,g,e,E,k _ _ j,k _ _ l,k _ _ m]
inductive DD where
 |st (p:ζ) (l:Lf) |ask (t:ζ) (T:Tm)
def DD.dd:DD->Dd
 | .st p _=>.st p
 | .ask t _=>.ask t
def uO(H:Hp)(y:xL ρ):DD->Prop
 | .st p l=>∃v,H p=δ (.tup v)/\Aj H l v/\l.Ok y/\l.isCut=μ
 | .ask t T=>TV H y t T
def uO.mono(k:aj H a)(h:uO H y d):uO a y d:=by
 cases d with
 |st p l=>let⟨v,b,c,e⟩:=h;exact#[v,k _ _ b,c.mono k,e]
 |ask t T=>rwa[TV.mono k h]
def DD.Cs(F:i7):DD->Prop
 | .st _ l=>l.Cs F
 | .ask _ _=>True
def HP{F:i7}(h:MY F H y d):∃e:DD,e.dd=d/\uO H y e/\e.Cs F:=by
 cases d with
 |st p=>let⟨l,v,a,b,c,f,g⟩:=h;exact#[.st p l,Z,#[v,a,b,c,f],g]
 |ask t=>let⟨T,h⟩:=h;exact#[.ask t T,Z,h,trivial]
def DH:DD->Wh->Prop
 | .st _ (.rd _ _ _),.rd _ i=>gB i
 | .st _ (.wr _ _ _ _),.wr _ _=>True
 | .st _ (.cl _ _ _ _),.cl _ _ i=>gB i
 | .ask _ _,.ask b=>b=0∨b=1
 |_,_=>False
def oC(d:DD)(w:Wh)(k:ba):ba:=match d,w with
 | .st _ (.rd x _ _),.rd _ i | .st _ (.cl x _ _ _),.cl _ _ i=>cn k (.inr x) (.int i)
 |_,_=>k
def Wh.side:Wh->Nat
 | .ask b=>if b=0 then 1 else 0
 |_=>0
def vQ(Q:VK)(H:Hp):Wh->Prop
 | .rd _ i | .cl _ _ i=>Q (.int i) H
 |_=>False
inductive gu(b:xL V)(H:Hp)(Q:VK)(a:XK):Prop
 |mk(u:V)(w:Wh)(_:b=[u])(_:DO H u w)(_:vQ Q H w)
inductive nZ(c:ζ)(e:xL V)(H:Hp)(Q:VK)(a:XK):Prop
 |mk(v f:V)(b:ζ)(d:Df)(g:xL ρ)(w:WD)(k:ba)(_:e=[v,f,.ref b])(_:nJ H c d g v)(_:aS H (iU (w.wy c)) f [])(_:Aa H g d.b.cuts d.b.size w)(_:H b=δ (.dK k))(_:GT k)(_:ο k<=200)(_:∀(u:V) (H':Hp),aS H' (oW (eM c d) (b6 w.sets k) w.goal) u []->aI b H H'->Q u H')
inductive EI(c:ζ)(a:_L.St)(j:xL (ρ×ζ×Tm))(k:ba)(H:Hp)(i:Nat)(l:_L.St)(b:Hp):Prop
 |mk(g h:ym V)(d:l=a++[g,h,θ,θ])(e:b c=δ (.dK (b6 (j.take i) k)))(f:aI c H b)
theorem Km{H:Hp}:∀{is:xL Int},aS H (aC$ is.map ar) .non (is.map vr)
 | []=>rfl
 |i::is=>jl Z jV (Km (is:=is))
def mf:am ["what"] ["what"] (ae hX):=bV
def wP(F:xD K "found_in" hX f n):⇑1 f n ["what"] gu:=by
 erw[F.ok mf λC A o s H v Q E t h=>?_]
 let⟨u,W,rfl,d,q⟩:=h;erw[#[_,(jg$ jo$ kL (jZ$ jv$ pv 0) (jv$ jq jE (pv 0) jf ∅)$ jq jE (pv 0) (xk YS jf) ∅),?_]];cases W with
 |rd a i=>let⟨p,rfl,l⟩:=d;exact(jr l eJ #[Z,_,Z,aV NM #[_,Z,_,Z,p,_,_,_,Z,Z,aF.of l,Z,q]])
 |cl f I i=>let⟨p,c,g,e,rfl,m,r,_⟩:=d;exact(jr m eJ #[Z,_,Z,cq NM$ jr m iB #[c,_,_,_,Z,Z,aF.of r,jH (j:=3) Z,q]])
 |wr a b |ask b=>rwa[q.elim]
def ig:am ["part","way","numbers","name","term","goal","held"] ["part","way","numbers"] (ae mH):=bV
def ZC:ic:=#[.function,[(".0",.local),("name",.local),("numbers",.free)],ν,ν,[]]
def AZ:(["name","numbers"]:xL ρ).Nodup:=NM
def Ay:bn ["part","way","numbers","name","term","goal","held"] (ae mH) ZC ["name","numbers"] 1 [2]:=oQ
def wO(F:xD K "end_of" mH f fd)(cC:‹1› fC f2 ["part","n"] (lD U) "cut_at")(cW:‹7› fW f3 z10z (dm K 6) "worth")(m0:mg "tuple"=θ)(no:oJ K U):⇑8 f fd ["part","way","numbers"] (nZ U):=by
 erw[F.ok ig λc0 A o1 s H vs Q E Y h=>?_]
 let⟨v,w1,D,d,ys,O,k,rfl,hp,hw,wv,hd,gk,hk,q⟩:=h;erw[#[_,(jd (km O8 Z (qw$ jv$ pv 1) (zR (n:=2) Z$ jC (jx (i:=3) ig.nd Z$ ω Z)$ jC (jx (i:=4) ig.nd Z$ ω Z) kB)$ jg$ Ke (zX Y) (pv 2) (pv 3) (cW.e Y.m$ ja (pv 4)$ ja (pv 2) jb) Z)$ jd (jA 5 ig.nd$ jv$ pv 1)$ jd (jy (jZ$ jv$ pv 5) (jg$ jo$ ji$ ja jm$ ja (cW.e Y.m$ ja (jv$ pv 5)$ ja (pv 2) jb) jb) jp)$ jd (@qK _ _ _ _ _ _ _ _ _ _ (6) (["name","numbers"]) (1) ([2]) _ _ _ _ ig.nd Z (ω Z) Z (qw$ jq jE (cC.e Y.m$ ja (pv 0)$ ja (jv$ pv 5) jb) jf ∅) Ay (λ_ _ _ _ _=>(jx (i:=0) AZ Z$ ω Z)) (λ_ _ _ _ _=>(@zF _)) (λ_ _ _ _ _=>(@KQ _ _ _ _ _ _ _ _ _ (zX Y) (pv 1) (pv 0) jf #[NK,NK,NK,NK])) NK Ch Cv)$ jg$ jo$ ji$ ja jm$ ja (jv$ pv 5)$ ja (jI jK Z m0 P'$ ja (pv 6) jb) jb),?_]];let b0:=aN;let⟨wa,sa,ga,ss,wd,u,rfl,W⟩:=CD hw;let R:∀g,aI D H g->aj H g:=λg k b xs e=>k b _ (jM e hd BT) e;let h2:=hp.sz;let h3:=wv.len;erw[ah λF1 C=>fQ λJ j=>(jr W.at' eJ #[sa,Z,#[_,aF.of W.sat],j _ _ ?_])];erw[KR (K:=K) (xs:=ss) (EI D [δ v,↑wa,↑D] O.sets k H) #[_,_,Z,hd,aI.refl] (λi σ g _ h=>?_) ?_ (λσ g h=>C _ _ ?_)]
 .let⟨_,_,_,_,I⟩:=h;rwa[aF.of$ R _ I _ _ W.sat]
 .intro E _ i x σ H1 hx f0 Gq kq h;let⟨o3,o4,rfl,L,I⟩:=h;let⟨s,p,hs,rfl,h0⟩:=W.sets i x hx;let S:=R _ I;let tv:=(wv.sets s$ OX hs).mono S;let g1:GT (b6 (O.sets.take i) k):=zz (H:=H) (ys:=ys) (λs hs=>wv.sets s (Pw hs)) gk;let l1:=Yj (ss:=O.sets.take i) (k:=k);rw[OZ]at l1;erw[kq ?_];erw[#[p,_,Z,aF.of$ S _ _ h0,Z,_,_,Z,_,_,Z,Z,?_]];erw[#[_,Z,_,Z,s.2.1,D,s.2.2,ys,_,Z,.inl tv.1,tv.2.2,tv.2.1,L,g1,_,Z,_,Z,D,_,Z,.inl #[_,.inr s.1,L,Z,NO,Z],f0 _ _ #[_,_,Z,?_,λc o X e=>by rw[jh X];rwa[I c o X e]]]];rw[ur hs];rwa[jc]
 .let⟨o3,o4,rfl,L,I⟩:=h;rw[W.len,Pg]at L;let S:=R _ I;let g1:GT (b6 O.sets k):=zz (H:=H) (ys:=ys) wv.sets gk;let B:=wv.goal;let a:=W.goal;generalize b6 O.sets k=N at L g1 q;erw[ah λF1 C=>(jr (S _ _ W.at') iB$ C _ _ ?_)];let G:=S _ _ W.gat;erw[ah λF1 C=>oU λG1 k3 k0=>(jr G eJ #[Z,_,Z,?_])];let give:∀(t:ζ) (T:Tm),wd="give"->u= .ref t->M8 K g T t->dW ys T->(∀(u':V) (H9:Hp),aS H9 (ay [aM "give",ar$ T.ev N]) u' []->aI D H H9->Q u' H9)->G1 (decide$ tT wd=tT "give") g:=by intro t T e1 e2 x1 x2 x3;subst e1;subst e2;rw[OE Z];erw[k3 _$ jr G iB #[_,Z,t,D,T,ys,N,Z,x1,x2.2,x2.1,L,g1,ci,λr nr=>?_]];exact x3 _ _ (jD jc$ jl Z jS$ jl Z jV jB) λc o X e=>je nr _ _ (I c o X e)
  cases hg:O.goal with
  |give t T=>rw[hg]at B a q;rwa[give t T a.1 a.2 (.inl$ B.1.mono S) B.2 q]
  |nought=>rw[hg]at a q;rwa[give U (.num 0) a.1 a.2 (.inr #[Z,no _]) #[#[NP,NP],NP] q]
  |go n=>
   rw[hg]at B a q;let⟨e1,e2⟩:=a;subst e1;subst e2;let hn:n < (cg U d).length:=by rw[pH];rwa[B]
   obtain⟨c,hc⟩:∃c,(cg U d)[n]?=δ c:=#[_,On hn];let e0:decide (tT "go"=tT "give")=ν:=NM
   rw[e0];erw[k0 _$ C _ _ ?_];erw[ah λF1 C=>#[_,Z,jr G iB #[v,n,d,ys,c,Z,hp.mono S,hc,λka na w2 dv w3 ca=>#[ka,_,_,_,Z,Z,aF.of ca.at',eJ,na,Z,#[_,aF.of ca.nms],?_]]]];let cl:=OK (Xf ca.v.mem) hp.y20;let q:∀(u:V) (g:Hp),aS g (ay [aM "go",ar (n:Int),ay ((eM U d n).map λx=>ar (look N (.inr x) 0))]) u []->aI D H g->Q u g:=q;rw[wH hc]at q;erw[qN (K:=K) (xs:=(canon c.M).map tT) (by rw[Oq];omega) (λi zs Hx=>zs=((canon c.M).take i).map (λx=>vr (look N (.inr x) 0))/\Hx=g) #[Z,Z] (λi zs Hx h=>?_) (λi x zs Hx hx h=>?_) (λzs Hx h l nl=>C _ _ ?_)]
   .let⟨rfl,rfl⟩:=h;exact#[aF.of ca.nms,by rw[Oq,OZ];omega]
   .let⟨rfl,rfl⟩:=h;rw[OL]at hx;let⟨y,hy,rfl⟩:=cv.mp hx;erw[#[_,Z,D,Z,.inl #[N,.inl L],_,Z,_,gX.k (k:=Sum.inr y) L,?_,Z]];rw[KU g1,PQ,hy,OU];rfl
   .let⟨rfl,rfl⟩:=h;rw[Oq,Pg];erw[(jr (je nl _ _ G) iB #[_,Z,l,_,Z,.inl #[aL.of jc,λtl n0=>#[gU,λr nr=>?_]]])];erw[q _ _ (jD jc$ jl Z jS$ jl Z jV$ jl Z (jD (aq jc nr) ?_) jB) λc' o X e=>je nr _ _ (je n0 _ _$ je nl _ _$ I c' o X e)];let:=Km (H:=af (af (af Hx l$ .lst ((canon c.M).map (λx=>vr (look N (.inr x) 0)))) tl$ .tup ((canon c.M).map (λx=>vr (look N (.inr x) 0)))) r (.tup [.str "go",.int (n:Int),.ref tl])) (is:=(canon c.M).map λx=>look N (.inr x) 0);rw[Rk,Rk]at this;rwa[this]
structure i8(H:Hp)(nA:ζ)(d:Df)(ys:xL ρ)(v:V)(sa:ζ)(n:Nat)(hv:ζ)(uw:V)(c:Ct)(is:xL Int)(wh:Wh)(e:DD)(wd:WD):Prop where
 prt:nJ H nA d ys v
 at':H sa=δ (.tup [.int (n:Int),.ref hv,uw])
 cut:(cg nA d)[n]?=δ c
 hat:H hv=δ (.tup$ is.map vr)
 hl:ο is=(canon c.M).length
 hin:∀i∈is,gB i
 whv:DO H uw wh
 ed:e.dd=c.d
 dv:uO H ys e
 fit:DH e wh
 way:c.ws[wh.side]?=δ (wd.wy nA)
 wdv:Aa H ys d.b.cuts d.b.size wd
def i8.mono(k:aj H a)(h:i8 H N d y v s n b u c i f e g):i8 a N d y v s n b u c i f e g:=
 #[h.prt.mono k,k _ _ h.at',h.cut,k _ _ h.hat,h.hl,h.hin,h.whv.mono k,h.ed,h.dv.mono k,h.fit,h.way,h.wdv.mono k]
def Mx(n:ζ)(d:Df)(c:Ct)(i:xL Int)(a:Wh)(e:DD)(W:WD):Tr:=oW (eM n d) (b6 W.sets$ oC e a$ aJ (canon c.M) i) W.goal
inductive eY(e:ζ)(g:xL V)(H:Hp)(Q:VK)(a:XK):Prop
 |mk(v:V)(b:ζ)(d:Df)(h f:xL ρ)(c:xL Int)(w:WD)(_:g=[v,.ref b])(_:nJ H e d h v)(_:H d.pa=δ (.tup (f.map tT)))(_:ο f<=100)(_:H b=δ (.tup (c.map vr)))(_:ο c=ο f)(_:∀i∈c,gB i)(_:w.wy e=(iP e d).1.w)(_:Aa H h d.b.cuts d.b.size w)(_:∀(u:V) (H':Hp),aS H' (oW (eM e d) (b6 w.sets (aJ f c)) w.goal) u []->aa H H'->Q u H')
inductive ni(g:ζ)(j:xL V)(H:Hp)(Q:VK)(a:XK):Prop
 |mk(v i:V)(h b:ζ)(n:Nat)(d:Df)(m:xL ρ)(c:Ct)(f:xL Int)(l:Wh)(e:DD)(k:WD)(_:j=[v,.ref h])(_:i8 H g d m v h n b i c f l e k)(_:∀(u:V) (H':Hp),aS H' (Mx g d c f l e k) u []->aa H H'->Q u H')
def Xm(h:DH e a)(g:GT k):GT (oC e a k):=by
 unfold oC;split
 .rwa[g.put _ h]
 .rwa[g.put _ h]
 .rwa[g]
def Ar{e:DD}{wh:Wh}{k:ba}:(oC e wh k).length<=ο k+1:=by
 unfold oC;split
 .rwa[qD]
 .rwa[qD]
 .rwa[PY _]
def uu:am ["part","args"] ["part","args"] (ae lh):=bV
def ZD(F:xD K "first_of" lh f I)(J:‹8› fE L ["part","way","numbers"] (nZ T) "end_of")(M:mg "dict"=θ)(b:mg "zip"=θ):⇑9 f I ["part","args"] (eY T):=by
 erw[F.ok uu λR A O s H vs Q E U h=>?_]
 let⟨v,x,d,y,p,is,z,rfl,C,g,V,i,n,r,t,W,q⟩:=h;erw[#[_,(jg$ jo$ J.e U.m$ ja (pv 0)$ ja (jv$ pv 0)$ ja (@Z1 _ _ _ _ _ _ _ _ Z M Z b Z (ja (jv$ pv 0)$ ja (pv 1) jb) NK NK NK NK) jb),?_]];let⟨a,ca,X,cs,rfl,D,G,Y,h0⟩:=C.parts;rw[<- t]at G;erw[#[_,Z,_,Z,a,_,_,_,Z,Z,aF.of D,jH (j:=2) Z,jr D iB #[_,Z,d.pa,x,p.map Sum.inr,_,Z,by rw[pW];rwa[aF.of g],aF.of i,by rw[Oq,Oq,n],λl N=>?_]]];let S:aa H (af H l$ .dK$ aJ p is):=je N;let zl:=sj (ns:=p) (is:=is);exact#[.ref a,X,l,d,y,z,aJ p is,Z,C.mono$ aa.tm S,G.mono$ aa.tm S,W.mono$ aa.tm S,jc,qc r,NO,λu H' tu k=>q u H' tu λc o e=>k c o (jk e N) (S _ _ e)]
def gm:am ["part","step","cut","numbers","what","way"] z17z (ae mO):=bV
def ue{f:ζ}{fd:cc}{nA fC fD fF fE:ζ}{f0 f3 f4 f5:cc}(F:xD K "onward" mO f fd)(cC:‹1› fC f0 ["part","n"] (lD nA) "cut_at")(cD:‹2› fD f3 z5z (lG nA) "held_at")(cF:‹1› fF f4 ["what"] gu "found_in")(cE:‹8› fE f5 ["part","way","numbers"] (nZ nA) "end_of"):⇑9 f fd z17z (ni nA):=by
 erw[F.ok gm λc0 A o2 s H vs Q E hr h=>?_]
 symm;let⟨v,L,Y,hv,n,d,ys,c,is,wh,e,wd,rfl,C,q⟩:=h;erw[#[_,(jd (jA 2 gm.nd$ cC.e hr.m$ ja (pv 0)$ ja (jv$ pv 1) jb)$ jd (jA 3 gm.nd$ cD.e hr.m$ ja (pv 0)$ ja (jv$ pv 1)$ ja (jv$ pv 1) jb)$ jd (jA 4 gm.nd$ jv$ pv 1)$ jd (jy (jz zC (jv$ pv 4) (ji$ ja jm$ ja jm jb) Z) (jg$ Ke (zX hr) (pv 3) (jv$ jq jE (pv 2) jf ∅) (cF.e hr.m$ ja (pv 4) jb) Z) jp)$ jd (jA 5 gm.nd$ kL (jz (Fk$ zX hr) (pv 4) (ji$ ja jm$ ja jf jb)$ aD _) (jv$ jq jE (pv 2) jf ∅)$ jv$ jq jE (pv 2) jf ∅)$ jg$ jo$ cE.e hr.m$ ja (pv 0)$ ja (pv 5)$ ja (pv 3) jb),?_]];let b0:=aN;symm;let⟨a,ca,wv,cs,rfl,ha,hw,a0,a1⟩:=C.prt.parts;let h0:=C.at';sleep 5;erw[ah λF1 J=>#[_,Z,jr h0 eJ #[_,n,d,ys,c,Z,C.prt,C.cut,λka na wa dv w0 cu=>J _ _ ?_]]];left;erw[ah λF1 J=>#[_,Z,jr h0 eJ$ jr h0 iB #[_,n,hv,d,ys,c,is,Z,C.prt,C.cut,C.hat,C.hl,λD n0=>J _ _ ?_]]];left;let s1:aa H (af H D$ .dK$ aJ (canon c.M) is):=je n0;let d1:af H D (.dK$ aJ (canon c.M) is) D=δ (.dK$ aJ (canon c.M) is):=jc;generalize af H D (.dK$ aJ (canon c.M) is)=H1 at s1 d1;let O:=C.mono (aa.tm s1);let g0:GT (aJ (canon c.M) is):=qc C.hin;let z0:=sj (ns:=canon c.M) (is:=is);let z1:=Xf cu.v.mem;let z2:=C.prt.y20;generalize h7:aJ (canon c.M) is=k0 at d1 g0 z0;erw[ah λF1 J=>#[_,Z,Y,_,_,_,Z,Z,aF.of O.at',jH (j:=2) Z,J _ _ ?_]];left;let o1:Mx nA d c is wh e wd=oW (eM nA d) (b6 wd.sets$ oC e wh k0) wd.goal:=by unfold Mx;rw[h7]
 rw[o1]at q;let h1:=zn cu.ways;rw[Oq]at h1;let G:∃x,w0[wh.side]?=δ x/\aS H (iU$ wd.wy nA) x []:=by
  let hj:wh.side < ο w0:=by rw[h1];exact(ξ.mp C.way).1
  symm;let⟨tr,ht,tx⟩:=qX cu.ways wh.side _ (On hj);rw[OL,C.way]at ht;cases ht;exact#[_,On hj,tx]
 symm;let⟨wx,G,t0⟩:=G;let h4:=cu.at';let h8:=cu.wat;erw[ah λF1 J=>?_];let r0:∀(H3:Hp),H3 D=δ (.dK$ oC e wh k0)->aI D H1 H3->F1 [↑a,↑Y,↑ka,↑D,δ L,θ] H3:=by
  intro H3 h3 k3;erw[J _ _ ?_];left;let s3:aa H H3:=λc o x=>k3 c o (jk x n0) (s1 _ _ x);let l3:=Ar (e:=e) (wh:=wh) (k:=k0);erw[ah λF2 f2=>?_];let f6:∀H4,aa H3 H4->F2 [↑a,↑Y,↑ka,↑D,δ L,δ wx] H4:=λH4 s4=>f2 _ _ (by
   let S:=s3.trans s4;exact#[_,Z,_,Z,_,Z,.ref a,wx,D,d,ys,wd,_,Z,C.prt.mono$ aa.tm S,t0.mono$ aa.tm S,C.wdv.mono$ aa.tm S,s4 _ _ h3,Xm C.fit g0,NO,λu R tu k=>q u R tu λc o x=>k c o (jk x n0) (S _ _ x)])
  left;let wk:=C.whv.mono (aa.tm s3);let dY:∀(H4:Hp) (j:Nat),aa H3 H4->w0[j]?=δ wx->fc (db K) (fc (db K) (bj 2)$ tC$ .int 2) (tC$ .int (j:Int)) [↑a,↑Y,↑ka,↑D,δ L,θ] H4 λx H5=>F2 ([↑a,↑Y,↑ka,↑D,δ L,θ].set 5 (δ x)) H5:=λH4 j s4 hj=>
   #[_,Z,ka,_,_,_,Z,Z,aF.of ((s3.trans s4) _ _ h4),jH (j:=2) Z,wa,_,_,_,Z,Z,aF.of ((s3.trans s4) _ _ h8),jH hj,f6 H4 s4]
  symm;cases wh with
  |rd a' i |wr a' b=>let⟨p,rfl,B⟩:=wk;exact#[_,Z,ci,λt N=>#[p,t,_,_,Z,Z,aF.of$ je N _ _ B,aF.of jc,.inl #[Z,Z,_,Z,aV (by unfold vI;rwa[TX _])$ dY _ 0 (je N) G]]]
  |ask b=>
   let⟨p,rfl,B⟩:=wk;let hb:b=0∨b=1:=by
    let:=C.fit;symm;cases e with
    |st p l=>cases l<;>rwa[this.elim]
    |ask t T=>rwa[this]
   rcases hb with rfl |rfl
   .exact#[_,Z,ci,λt N=>#[p,t,_,_,Z,Z,aF.of$ je N _ _ B,aF.of jc,.inl #[Z,Z,_,Z,cq NM$ dY _ 1 (je N) G]]]
   .exact#[_,Z,ci,λt N=>#[p,t,_,_,Z,Z,aF.of$ je N _ _ B,aF.of jc,.inl #[Z,Z,_,Z,aV NM$ dY _ 0 (je N) G]]]
  |cl f' i0 i=>let⟨p,c',g,e',rfl,B,h',_⟩:=wk;exact#[_,Z,ci,λt N=>#[p,t,_,_,Z,Z,aF.of$ je N _ _ B,aF.of jc,.inr #[_,c',_,_,_,Z,aF.of$ je N _ _ h',Z,_,Z,aV Z$ dY _ 0 (je N) G]]]
 let wk:=O.whv;let dk:=O.dv;let fk:=O.fit;let h5:=s1 _ _ h4;let d0:=cu.deed;rw[<- C.ed]at d0;let skip:∀(p:ζ) (W:ρ) (r:xL V),L= .ref p->H1 p=δ (.tup (.str W::r))->pV (.str W) [.str "read",.str "call"]=ν->oC e wh k0=k0->lQ (ms$ fc (IR K ν) (fc (db K) (bj 4)$ tC$ .int 0)$ cQ$ ap (tC$ .str "read")$ ap (tC$ .str "call") aY) (xJ (bj 3) (fc (db K) (fc (db K) (bj 2)$ tC$ .int 1)$ tC$ .int 1)$ fb gu [] E0$ ap (bj 4) aY) yH { nx:=F1,rt:=Q } [↑a,↑Y,↑ka,↑D,δ L,θ] H1:=by intro p W r I B e2 e3;subst I;erw[oU λG1 k1 k2=>(jr B eJ #[ci,λt N=>#[t,_,Z,.inr$ aF.of jc,Z,Z,_,Z,?_]])];show G1 (pV (.str W) [.str "read",.str "call"]) _;rw[e2];rwa[k2 _$ r0 _ (by rw[e3];rwa[aq d1 N]) λc o _ x=>je N _ _ x]
 let p0:∀(p p':ζ) (W:ρ) (r:xL V) (i:Int) (x:ρ) (y:V) (r':xL V),L= .ref p->H1 p=δ (.tup (.str W::r))->pV (.str W) [.str "read",.str "call"]=μ->dv= .ref p'->H1 p'=δ (.tup (y:: .str x::r'))->(∀R:Hp,aa H1 R->DO R L wh)->(∀(Q':VK) (R:Hp),Q' (.int i) R->vQ Q' R wh)->oC e wh k0=cn k0 (.inr x) (.int i)->lQ (ms$ fc (IR K ν) (fc (db K) (bj 4)$ tC$ .int 0)$ cQ$ ap (tC$ .str "read")$ ap (tC$ .str "call") aY) (xJ (bj 3) (fc (db K) (fc (db K) (bj 2)$ tC$ .int 1)$ tC$ .int 1)$ fb gu [] E0$ ap (bj 4) aY) yH { nx:=F1,rt:=Q } [↑a,↑Y,↑ka,↑D,δ L,θ] H1:=by intro p p' W r i x y r' I B e2 e4 X e5 e6 e3;subst I;subst e4;erw[oU λG1 k1 k2=>(jr B eJ #[ci,λt N=>#[t,_,Z,.inr$ aF.of jc,Z,Z,_,Z,?_]])];show G1 (pV (.str W) [.str "read",.str "call"]) _;rw[e2];erw[k1 _ #[_,Z,.ref p,wh,Z,e5 _$ je N,e6 _ _ ?_]];exact#[_,Z,jr (je N _ _ h5) iB #[p',_,_,_,Z,Z,aF.of$ je N _ _ X,iB,D,_,Z,.inl #[k0,.inr x,aq d1 N,Z,NO,Z],r0 _ (by rw[e3];rwa[jc]) λc o nc z=>by rw[jh nc];rwa[je N _ _ z]]]
 symm;cases e with
 |ask t T=>
  cases wh with
  |ask b=>let⟨p,I,B⟩:=wk;rwa[skip p _ _ I B NM Z]
  |_=>rwa[fk.elim]
 |st p' l=>
  let⟨vs,X,h6,_⟩:=dk;let ed:dv= .ref p':=d0.1;cases l with
  |rd x t T=>
   cases wh with
   |rd b i=>let⟨p,I,B⟩:=wk;let⟨rfl,_⟩:=h6;rwa[p0 p p' _ _ i x _ _ I B NM ed X (λR s'=>#[p,I,s' _ _ B]) (λ_ _ h=>h) Z]
   |_=>rwa[fk.elim]
  |wr t u T U=>
   cases wh with
   |wr b i=>let⟨p,I,B⟩:=wk;rwa[skip p _ _ I B NM Z]
   |_=>rwa[fk.elim]
  |cl x f' q' ts=>
   cases wh with
   |cl f2 i1 i=>let⟨p,c2,g2,e2,I,B,h2,h3⟩:=wk;let⟨rfl,_⟩:=h6;rwa[p0 p p' _ _ i x _ _ I B NM ed X (λR s'=>#[p,c2,g2,e2,I,s' _ _ B,s' _ _ h2,s' _ _ h3]) (λ_ _ h=>h) Z]
   |_=>rwa[fk.elim]
  |st x t T |gv t T=>cases wh<;>rwa[fk.elim]
abbrev iY:bU:=bX 25
abbrev mE:bU:=bX 26
def lS(k:ba):DD->Tr
 | .st _ (.rd _ _ T)=>ay [aM "read",ar (T.ev k)]
 | .st _ (.wr _ _ T U)=>ay [aM "write",ar (T.ev k),ar (U.ev k)]
 | .st _ (.cl _ f _ t)=>ay [aM "call",aM f,ay (t.map λc=>ar (c.2.ev k))]
 | .ask _ T=>ay [aM "ask",ar (if T.ev k=0 then 0 else 1)]
 |_=>.nil
inductive dI(g:ζ)(h:xL V)(H:Hp)(Q:VK)(a:XK):Prop
 |mk(v:V)(n:Nat)(b:ζ)(d:Df)(j:xL ρ)(c:Ct)(f:xL Int)(e:DD)(_:h=[v,.int (n:Int),.ref b])(_:nJ H g d j v)(_:(cg g d)[n]?=δ c)(_:H b=δ (.tup (f.map vr)))(_:ο f=(canon c.M).length)(_:∀i∈f,gB i)(_:e.dd=c.d)(_:uO H j e)(_:∀(u:V) (H':Hp),aS H' (lS (aJ (canon c.M) f) e) u []->aa H H'->Q u H')
inductive iq(f:xL V)(H:Hp)(Q:VK)(b:XK):Prop
 |mk(a d:ζ)(e:xL (ζ×Tm))(g:xL ρ)(k:ba)(_:f=[.ref a,.ref d])(_:H a=δ (.tup (e.map λc=>xm c.1)))(_:ο e<=6)(_:∀c∈e,bJ H c.2 c.1/\dW g c.2)(_:H d=δ (.dK k))(_:GT k)(_:∀(r:ζ) (H':Hp),H' r=δ (.tup (e.map λc=>vr (c.2.ev k)))->aa H H'->Q (.ref r) H')
def yl:am ["terms","numbers"] ["terms","numbers"] (ae iY):=bV
def ZE:ic:=#[.function,[(".0",.local),("term",.local),("worth",.globalImplicit),("numbers",.free)],ν,ν,[]]
def A0:(["term","numbers"]:xL ρ).Nodup:=NM
def Az:bn ["terms","numbers"] (ae iY) ZE ["term","numbers"] 1 [1]:=oQ
def ug(F:xD K "worths" iY f v)(C:‹7› U B z10z (dm K 6) "worth")(M:mg "tuple"=θ):⇑8 f v ["terms","numbers"] iq:=by
 erw[F.ok yl λG A o s H R Q E I h=>?_]
 let⟨a,D,t,g,k,rfl,p,W,b,J,L,q⟩:=h;erw[#[_,(jg$ jo$ jI jK Z M P'$ ja (@zk _ _ _ _ _ _ _ (["term","numbers"]) (1) ([1]) _ _ _ _ Z (qw$ pv 0) Az (λ_ _ _ _ _=>(jx (i:=0) A0 Z$ ω Z)) (λ_ _ _ _ _=>(@zF _)) (λ_ _ _ _ _=>(C.e I.m$ ja (pv 0)$ ja (pv 1) jb)) Cv) jb),?_]];let N:=aN;erw[#[_,Z,a,Z,#[_,aF.of p],?_]];erw[qN (K:=K) (xs:=t.map λc=>xm c.1) (by rw[Oq];omega) (λi z d=>z=(t.take i).map (λc=>vr (c.2.ev k))/\d=H) #[Z,Z] (λi z d h=>?_) (λi x z d r h=>?_) (λz d h l O=>?_)]
 .let⟨rfl,rfl⟩:=h;exact#[aF.of p,by rw[Oq,OZ];omega]
 .let⟨rfl,rfl⟩:=h;rw[OL]at r;let⟨y,u,rfl⟩:=cv.mp r;let Y:=OX u;erw[#[_,Z,_,Z,y.1,D,y.2,g,k,Z,.inl (b y Y).1,(b y Y).2.2,(b y Y).2.1,J,L,?_,Z]];rw[PQ,u,OU];rfl
 .let⟨rfl,rfl⟩:=h;rw[Oq,Pg];exact#[l,_,Z,.inl #[aL.of jc,λT n=>q T _ jc ((je O).trans$ je n)]]
def ie:am ["part","n","held","numbers","deed","word"] z5z (ae mE):=bV
def tR(F:xD K "deed_at" mE f fd)(cH:‹2› fH f0 z5z (lG nA) "held_at")(cC:‹1› fC f2 ["part","n"] (lD nA) "cut_at")(cW:‹7› fW f3 z10z (dm K 6) "worth")(cS:‹8› fS f4 ["terms","numbers"] iq "worths"):⇑9 f fd z5z (dI nA):=by
 erw[F.ok ie λc0 A o1 s H vs Q E L h=>?_]
 let⟨v,n,hv,d,Y,c,is,e,rfl,hp,hc,hh,hl,h0,h1,h2,q⟩:=h;erw[#[_,(jd (jA 3 ie.nd$ cH.e L.m$ ja (pv 0)$ ja (pv 1)$ ja (pv 2) jb)$ jd (jA 4 ie.nd$ jq jE (cC.e L.m$ ja (pv 0)$ ja (pv 1) jb) jf ∅)$ jd (jA 5 ie.nd$ jv$ pv 4)$ jd (jy (jZ$ pv 5) (jg$ jo$ ji$ ja (pv 5)$ ja (kL (jz qr (cW.e L.m$ ja (jv$ pv 4)$ ja (pv 3) jb) jf$ aD _) jf jf) jb) jp)$ jd (jy (jZ$ pv 5) (jg$ jo$ ji$ ja (pv 5)$ ja (jv$ pv 4)$ ja (cS.e L.m$ ja (jv$ pv 4)$ ja (pv 3) jb) jb) jp)$ jd (jy (jZ$ pv 5) (jg$ jo$ ji$ ja (pv 5)$ ja (cW.e L.m$ ja (jv$ pv 4)$ ja (pv 3) jb) jb) jp)$ jg$ jo$ jw jU (ji$ ja (pv 5) jb)$ cS.e L.m$ ja (jJ kc (pv 4) (jG jf) jT)$ ja (pv 3) jb),?_]];let b0:=aN;let⟨a,ca,p0,cs,rfl,ha,_,h7,h8⟩:=hp.parts;erw[ah λi b=>#[_,Z,_,Z,_,Z,.ref a,n,hv,d,Y,c,is,Z,hp,hc,hh,hl,λC n0=>b _ _ ?_]];let S:aa H (af H C$ .dK$ aJ (canon c.M) is):=je n0;let O:af H C (.dK$ aJ (canon c.M) is) C=δ (.dK$ aJ (canon c.M) is):=jc;show fh _ _ _ _ (af H C$ .dK$ aJ (canon c.M) is);generalize af H C (.dK$ aJ (canon c.M) is)=H1 at S O;let V:GT (aJ (canon c.M) is):=qc h0;generalize aJ (canon c.M) is=k at O V q;let dk:=h2.mono (aa.tm S);erw[ah λi b=>#[_,Z,_,Z,.ref a,n,d,Y,c,Z,hp.mono$ aa.tm S,hc,λka na wa dv w0 cu=>#[ka,_,_,_,Z,Z,aF.of cu.at',iB,b _ _ ?_]]];let D:=cu.deed;rw[<- h1]at D;cases e with
 |ask t T=>
  obtain⟨_,p,xs,rfl,g,_,_,y0,z0,rfl,⟨rfl,_⟩,_,_,y1,z1,rfl,⟨rfl,_⟩,e⟩:=D;let e:z1=[]:=e;subst e;erw[ah λi b=>(jr g eJ$ b _ _ ?_)];erw[ah λi b=>#[_,Z,Z,_,Z,cq NM #[_,Z,jr g iB #[_,Z,t,C,T,Y,k,Z,.inl dk.1,dk.2.2,dk.2.1,O,V,Z,_,Z,?_]]]];by_cases z:T.ev k=0
  .erw[cq (by rw[z];decide+kernel) #[ci,λr G=>q _ _ (jD jc$ jl Z jS$ jl Z #[?_,Z] jB) (S.trans$ je G)]];rw[OB z]
  .erw[aV (by rw[Oz];intro e;injection e with e;rwa[z e]) #[ci,λr G=>q _ _ (jD jc$ jl Z jS$ jl Z #[?_,Z] jB) (S.trans$ je G)]];rw[OD z]
 |st p l=>
  let ed:dv= .ref p:=D.1;subst ed;let⟨vs,g,I,B,h3⟩:=dk;cases l with
  |rd x t T=>let⟨rfl,ht⟩:=I;erw[ah λi b=>(jr g eJ$ b _ _ ?_)];erw[ah λi b=>#[_,Z,Z,_,Z,aV NM$ b _ _ ?_]];erw[ah λi b=>#[_,Z,Z,_,Z,aV NM$ b _ _ ?_]];erw[ah λi b=>#[_,Z,Z,_,Z,cq NM #[_,Z,_,Z,p,_,_,_,Z,Z,aF.of g,jH (j:=2) Z,_,Z,t,C,T,Y,k,Z,.inl ht,B.2.2,B.2.1,O,V,ci,λr G=>?_]]];rwa[q _ _ (jD jc$ jl Z jS$ jl Z jV jB)$ S.trans$ je G]
  |wr t u T U=>
   let⟨rfl,ht,hu⟩:=I;erw[ah λi b=>(jr g eJ$ b _ _ ?_)];erw[ah λi b=>#[_,Z,Z,_,Z,aV NM$ b _ _ ?_]];erw[ah λi b=>#[_,Z,Z,_,Z,aV NM$ b _ _ ?_]];erw[ah λi b=>#[_,Z,Z,_,Z,aV NM$ b _ _ ?_]];erw[#[_,Z,iT,λr1 N=>#[_,Z,1,Z,p,_,Z,je N _ _ g,λr2 H2 J R=>#[_,Z,r2,C,[(t,T),(u,U)],Y,k,Z,J,(by show 2<=6;decide),?_,R _ _$ je N _ _ O,V,λr3 H3 h4 s3=>#[r1,r3,_,_,Z,Z,s3 _ _$ R _ _ jc,h4,gU,λr4 H4 h5 s4=>?_]]]]]
   .intro y W;let X:=(je (o:=.tup [.str "write"]) N).trans R;simp only[RF,O5,TH]at W;rcases W with rfl |rfl
    .exact#[ht.same X,B.1]
    .exact#[hu.same X,B.2]
   .rwa[q _ _ (jD h5$ jl Z jS$ jl Z jV$ jl Z jV jB)$ S.trans ((je N).trans$ R.trans$ s3.trans s4)]
  |cl x f' qa ts=>let⟨rfl,hq,h6⟩:=I;erw[ah λi b=>(jr g eJ$ b _ _ ?_)];erw[ah λi b=>#[_,Z,Z,_,Z,aV NM$ b _ _ ?_]];let l6:ο ts<=6:=B.2.1;erw[ah λi b=>#[_,Z,Z,_,Z,cq NM #[_,Z,_,Z,p,_,_,_,Z,Z,aF.of g,jH (j:=2) Z,_,Z,p,_,_,_,Z,Z,aF.of g,jH (j:=3) Z,_,Z,qa,C,ts,Y,k,Z,hq,l6,λy W=>#[h6 y W,B.2.2 y W],O,V,λr2 H2 J R=>#[gU,λr G=>?_]]]];erw[q _ _ (jD jc$ jl Z jS$ jl Z jS$ jl Z (jD (aq J G) ?_) jB)$ S.trans$ R.trans$ je G];let:=Km (H:=af H2 r (.tup [.str "call",.str f',.ref r2])) (is:=ts.map λc=>c.2.ev k);rw[Rk,Rk]at this;rwa[this]
  |st x t T |gv t T=>cases h3
abbrev mM:bU:=bX 17
abbrev oX:bU:=bX 18
abbrev mG:bU:=bX 19
abbrev xV:bU:=bP (bX 20) 0
abbrev pi:bU:=bP (bX 20) 1
abbrev xW:bU:=bP (bX 20) 2
abbrev mP:bU:=bX 22
def GU(H:Hp)(x:V)(g:ρ):Prop:=∃p r,x= .ref p/\H p=δ (.tup (.str g::r))
inductive iI(c:xL V)(H:Hp)(Q:VK)(b:XK):Prop
 |mk(a:ζ)(f:ρ)(d:xL V)(i:Nat)(v:V)(_:c=[.ref a,.str f])(_:H a=δ (.tup d))(_:d[i]?=δ v)(_:GU H v f)(_:∀j x,j < i->d[j]?=δ x->∃g,GU H x g/\g≠f)(_:Q v H)
inductive i5(e:xL V)(H:Hp)(Q:VK)(b:XK):Prop
 |mk(a g:ζ)(f:ρ)(h k:xL V)(i:Nat)(v:V)(p c:ζ)(r d:xL V)(_:e=[.ref a,.str f,.ref g])(_:H a=δ (.tup h))(_:h[i]?=δ v)(_:v= .ref p)(_:H p=δ (.tup (.str f:: .ref c::r)))(_:H c=δ (.tup d))(_:H g=δ (.tup k))(_:ο k=ο d)(_:∀j x,j < i->h[j]?=δ x->∃g,GU H x g/\g≠f)(_:Q v H)
def dG(e:xL (ρ×V))(c l p:ζ)(m:Int)(t:Nat):xL (ρ×V):=ry (("cells":ρ),xm c) (ry (("most":ρ),vr m)$ ry (("left":ρ),xm l)$ ry (("turns":ρ),vr (t:Int))$ ry (("parts":ρ),xm p) e)
structure Tl(ex:xL (ρ×V)):Prop where
 l:ο ex<=10
 t:ex.lookup ("take_turn":ρ)=θ
 n:ex.lookup ("number_in":ρ)=θ
 c:ex.lookup ("chain_of":ρ)=θ
 w:ex.lookup ("what_of":ρ)=θ
def Tl.nil:Tl []:=#[OA _,Z,Z,Z,Z]
structure Rn(H:Hp)(C r dx:ζ)(ex:xL (ρ×V))(cA lA pA:ζ)(m:Int)(t:Nat)(L Cs:ba):Prop where
 ins:H r=δ (.ins C dx$ dG ex cA lA pA m t)
 lf:H lA=δ (.dK L)
 ce:H cA=δ (.dK Cs)
 iL:GT L
 iC:GT Cs
 cl:cA≠lA
 tl:Tl ex
 hm:m<=1000
structure RK(K:β)(C:ζ):Prop where
 cl:uN K C
 n1:a9 K C "cells"
 n2:a9 K C "most"
 n3:a9 K C "left"
 n4:a9 K C "turns"
 n5:a9 K C "parts"
inductive gw(C:ζ)(i:xL V)(H:Hp)(Q:VK)(a:XK):Prop
 |mk(r e:ζ)(f:xL (ρ×V))(d g h:ζ)(m c:Int)(t:Nat)(L b:ba)(_:i=[.ref r,.int c])(_:Rn H C r e f d g h m t L b)(_:Q (.int (look L (.inl c) (look b (.inl c) 0))) H)
inductive lN(C:ζ)(e:xL V)(H:Hp)(Q:VK)(a:XK):Prop
 |mk(r c:ζ)(d:xL (ρ×V))(b:ζ)(m:Int)(_:e=[.ref r,.ref b,.int m])(_:H r=δ (.ins C c []))(_:∀lA,H lA=θ->Q .non (af (af H lA (.dK [])) r (.ins C c [("cells",.ref b),("most",.int m),("left",.ref lA),("turns",.int 0)])))
structure XM(K:β)(mg:ρ->ym η)(x:ρ)(L:ζ):Prop where
 ex:excIn K L sK "ValueError.__new__"=μ
 kp:gb K (.ref L)=μ
 xc:uV K L
 ty:typeIn K (.ref L)=δ (.type "type")
 m:mg x=↑L
def NX(o:HO):Prop:=∀a,o≠ .ext a
def Kp(H h:Hp):Prop:=∀b o,NX o->H b=δ o->h b=δ o
def Kp.of_same(s:aa H h):Kp H h:=λb o _ e=>s _ _ e
def md(E:XK):XK:=λC d H=>∀x T t c,C= .ref c->H x=δ (iS c d T x)->H T=δ (iz T)->H t=θ->E (.ref c) d (af (af H t$ iz t) x$ iS c d t x)
def ke{P:ψ}{w:bF}{K:β}{mg:ρ->ym η}{base:de}:eh (dF P w) (gK (dF P w) P w K mg base N q s f g A o a H E) (md E):=
 BA λx C d T t i b c e h=>h x T t C Z b c e
def qg{H h:Hp}(e:h b=δ o)(n:NX o)(a:h x=δ (iS C d T x))(c:h t=θ):af (af h t$ iz t) x (iS C d t x) b=δ o:=by
 let N:b≠x:=λz=>by rw[z,a]at e;injection e with e;rwa[n _ e.symm]
 rw[jh N,jh$ jk e c];rwa[e]
def Fl(E:XK)(L:ζ)(R:Hp->Prop):Prop:=∀(_:Unit) H,R H->E (.ref L) θ H
inductive gq(C L:ζ)(f:xL V)(H:Hp)(Q:VK)(E:XK):Prop
 |mk(r b:ζ)(c:xL (ρ×V))(a d e:ζ)(m:Int)(t:Nat)(_:f=[.ref r])(_:H r=δ (.ins C b (dG c a d e m t)))(_:Tl c)(_:(t:Int) < m->Q .non (af H r (.ins C b (dG c a d e m (t+1)))))(_:m<=(t:Int)->Fl E L (Kp H))
inductive dP(D:ζ)(a:xL V)(H:Hp)(Q:VK)(E:XK):Prop
 |mk(d:Int)(_:a=[.int d])(_:d < 15->Q (.int (d+1)) H)(_:15<=d->Fl E D (Kp H))
def Yl{H:Hp}(a:H x=θ)(N:af H x (CO L θ x) T=θ):aa H (af (af (af H x$ CO L θ x) T$ iz T) x$ iS L d T x):=by intro b o e;let n:b≠x:=jk e a;rw[jh n,jh (λz=>by rw[<- z,jh n,e]at N;cases N),jh n];rwa[e]
def nU:am ["ones","f","one"] ["ones","f"] (ae mM):=bV
def tY(F:xD K "named" mM f D):⇑1 f D ["ones","f"] iI:=by
 erw[F.ok nU λG A o s H W Q E X h=>?_]
 let⟨a,f,xs,i,v,rfl,t,u,L,d,q⟩:=h;erw[#[_,(jd (km O8 Z (qw$ pv 0) (jx (i:=2) nU.nd Z$ ω Z)$ jg$ jy (jz qr (jv$ pv 2) (pv 1)$ aD _) (jg$ jo$ pv 2) jp)$ @xu _ _),?_]];let M:i < ο xs:=(ξ.mp u).1;erw[ah λY f1=>fQ λJ j=>#[_,Z,a,Z,#[_,aF.of t],j _ _ ?_]];erw[KR (K:=K) (xs:=xs) (λk c e=>(∃O,c=[↑a,δ$ .str f,O])/\e=H/\k<=i) #[#[_,Z],Z,OA _] (λk c e _ h=>by rw[h.2.1];rwa[aF.of t]) ?_ (λc e h=>?_)]
 .intro l R k x c H2 m N I b h;obtain⟨⟨O,rfl⟩,rfl,y⟩:=h;erw[b ?_];by_cases S:k=i
  .subst S;rw[u]at m;cases m;let⟨p,r,rfl,n⟩:=id L;show lQ _ _ _ l _ _;erw[oU λT B C=>(jr n eJ #[_,Z,Z,_,Z,?_])];rw[OE (Z:tT f=tT f)];erw[B _ ?_];show iy _ l _ _;unfold iy;rw[R];exact#[_,Z,q]
  .obtain⟨g,⟨p,r,rfl,n⟩,U⟩:=d k x NO m;show lQ _ _ _ l _ _;erw[oU λT B C=>(jr n eJ #[_,Z,Z,_,Z,?_])];rw[Oz (λz=>U (by injection z))];rwa[C _$ N _ _ #[#[_,Z],Z,NO]]
 .let⟨_,_,y⟩:=h;rwa[absurd y NO]
def yi:am ["parts","f"] ["parts","f"] (ae mP):=bV
def uf(F:xD K "part_of" mP f c)(C:‹1› r d ["ones","f"] iI "named"):⇑2 f c ["parts","f"] iI:=by
 erw[F.ok yi λg A o s H V Q E j h=>?_]
 let⟨a,f,x,i,v,rfl,l,n,p,b,q⟩:=h;erw[#[_,(jg$ jo$ C.e j.m$ ja (pv 0)$ ja (pv 1) jb),?_]];exact#[_,Z,_,Z,a,f,x,i,v,Z,l,n,p,b,q]
def rM:am ["ones","f","args","one"] ["ones","f","args"] (ae oX):=bV
def wK(F:xD K "begun" oX f j)(C:‹1› N l ["ones","f"] iI "named")(M:mg "len"=θ):⇑2 f j ["ones","f","args"] i5:=by
 erw[F.ok rM λn A o s H V Q E t h=>?_]
 let⟨a,g,f,x,y,i,v,p,c,r,u,rfl,z,B,rfl,d,D,G,I,J,q⟩:=h;erw[#[_,(jd (jA 3 rM.nd$ C.e t.m$ ja (pv 0)$ ja (pv 1) jb)$ jd (jy (jz QM (jO jL Z M Pm$ ja (pv 2) jb) (jO jL Z M Pm$ ja (jv$ pv 3) jb)$ aD _) (@xu _ _) jp)$ jg$ jo$ pv 3),?_]];erw[ah λL b=>#[_,Z,_,Z,a,f,x,i,.ref p,Z,z,B,#[p,_,Z,d],J,b _ _ ?_]];erw[ah λL b=>#[_,Z,g,_,Z,.inr$ aF.of G,jr d iB #[c,_,Z,.inr$ aF.of D,Z,_,Z,aV (by rw[I];simp)$ b _ _ #[_,Z,q]]]]
def ya:am ["deep"] ["deep"] (ae mG):=bV
def tS(F:xD K "deeper" mG f a)(M:mg "DEEPEST"=δ (.int 15 t))(X:XM K mg "TooDeep" D):ai P w K mg base (dF P w) 1 f a ["deep"] (dP D):=by
 erw[F.ok1 ya λC A o s H V Q E g h=>?_]
 let⟨d,rfl,q,e⟩:=h;erw[#[_,(jd (jy (jz wY (pv 0) (Je (v:=.int 15) Z M #[t,Z])$ aD _) (jg$ @X5 _ _ _ _ _ Z Q5$ @Q2 _ _ _ _ _ X.ex X.kp Z X.m NP) jp)$ jg$ jo$ jw jX (pv 0) jf),?_]];erw[ah λi b=>#[_,Z,_,_,Z,Z,_,Z,?_]];by_cases c:(15:Int)<=d
 .erw[cq (OE c) λx n=>?_];exact#[x,D,θ,Z,jc,X.xc,X.ty,λT N=>e c () _ (Kp.of_same$ Yl n N)]
 .rwa[aV (Oz c)$ b _ _ #[_,Z,_,_,Z,Z,q NO]]
def Ge:am z26z z26z (ae xV):=bV
def rg(F:aU K "__init__" "Turns.__init__" xV f v)(c:RK K C):⇑1 f v z26z (lN C):=by
 erw[F.ok Ge λx A o s H V Q E G h=>?_]
 let⟨r,D,y,z,m,rfl,g,q⟩:=h;erw[#[_,(jd (@qx _ _ _ _ _ _ _ _ (pv 0) (pv 1) Z)$ jd (@qx _ _ _ _ _ _ _ _ (pv 0) (pv 2) Z)$ jd (@qx _ _ _ _ _ _ _ _ (pv 0) X4 Z)$ jg$ @qx _ _ _ _ _ _ _ _ (pv 0) jf Z),?_]];erw[ah λj a=>#[_,Z,_,Z,r,C,D,_,Z,g,c.cl,c.n1,NP,a _ _ ?_]];erw[ah λj a=>#[_,Z,_,Z,r,C,D,_,Z,jc,c.cl,c.n2,(by show 1 < 1000;decide),a _ _ ?_]];erw[ah λj a=>λl n=>#[_,Z,r,C,D,_,Z,aq jc n,c.cl,c.n3,(by show 2 < 1000;decide),a _ _ ?_]];erw[#[_,Z,r,C,D,_,Z,jc,c.cl,c.n4,(by show 3 < 1000;decide),?_]];let N:l≠r:=λe=>by rw[e,jc]at n;cases n
 let B:H l=θ:=by rw[jh N,jh N]at n;rwa[n]
 let e:∀p t u O:HO,af (af (af (af (af H r p) r t) l$ .dK []) r u) r O=af (af H l$ .dK []) r O:=λp t u O=>by
  funext b;by_cases d:b=r
  .rw[d,jc,jc]
  .rw[jh d,jh d,jh d];by_cases i:b=l
   .rw[i,jc,jc]
   .rw[jh i,jh d,jh d,jh i]
 rw[e];rwa[q l B]
def Cd:am ["self"] ["self"] (ae pi):=bV
def Ym(F:aU K "take_turn" "Turns.take_turn" pi f i)(b:RK K C)(X:XM K mg "TooLong" L):ai P w K mg base (dF P w) 1 f i ["self"] (gq C L):=by
 erw[F.ok1 Cd λj A o s H V Q E B h=>?_]
 let⟨r,d,g,n,p,u,m,t,rfl,a,v,q,e⟩:=h;erw[#[_,(jd (jy (jz wY (kW (pv 0) Z) (kW (pv 0) Z)$ aD _) (jg$ @X5 _ _ _ _ _ Z Q5$ @Q2 _ _ _ _ _ X.ex X.kp Z X.m NP) jp)$ jg$ @um _ _ _ _ _ _ _ _ _ _ (pv 0) jf Ei),?_]];erw[ah λD y=>#[_,Z,r,C,d,_,_,Z,a,b.cl,b.n4,Z,_,Z,r,C,d,_,_,Z,a,b.cl,b.n2,Z,_,_,Z,Z,_,Z,?_]];by_cases c:m<=(t:Int)
 .erw[cq (OE c) λx N=>?_];exact#[x,L,θ,Z,jc,X.xc,X.ty,λT z=>e c () _ (Kp.of_same$ Yl N z)]
 .rwa[aV (Oz c)$ y _ _ #[_,Z,r,C,d,_,_,Z,a,b.cl,b.n4,Z,_,_,Z,Z,d,_,a,(by let:=v.l;show ο g+1+1+1+1+1 < 1000;omega),q NO]]
def Gf:am ["self","cell"] ["self","cell"] (ae xW):=bV
def rh(F:aU K "number_in" "Turns.number_in" xW f p)(b:RK K C):⇑1 f p ["self","cell"] (gw C):=by
 erw[F.ok Gf λu A o s H V Q E g h=>?_]
 let⟨r,d,x,i,l,y,m,c,t,L,j,rfl,a,q⟩:=h;erw[#[_,(jg$ jo$ kL (YR$ @Fu _ _ _ _ _ (zX g) (pv 1)$ kW (pv 0) Z) (BB (zX g) (kW (pv 0) Z) (pv 1) ∅)$ @KQ _ _ _ _ _ _ _ _ _ (zX g) (kW (pv 0) Z) (pv 1) jf #[NK,NK,NK,NK]),?_]];erw[#[_,Z,_,Z,r,C,d,_,_,Z,a.ins,b.cl,b.n3,Z,l,_,Z,gX.k (k:=.inl c) a.lf,_,Z,?_]];cases e:eQ L (.inl c) with
 |some v=>erw[cq Z #[_,Z,r,C,d,_,_,Z,a.ins,b.cl,b.n3,Z,_,Z,l,v,Z,by rw[<- e];rwa[gX.k (k:=.inl c) a.lf],?_]];rw[tK a.iL e$ look j (.inl c) 0];rwa[q]
 |none=>erw[aV Z #[_,Z,r,C,d,_,_,Z,a.ins,b.cl,b.n1,Z,i,Z,.inl #[_,.inl a.ce],_,Z,_,gX.k (k:=.inl c) a.ce,?_]];rw[KU a.iC];rw[tJ e]at q;rwa[q]
abbrev xH:bU:=bP (bX 37) 0
abbrev BO:bU:=bP (bX 37) 1
abbrev BP:bU:=bP (bX 37) 2
abbrev FY:bU:=bX 38
inductive Sk where
 |nil |st (n:Int) (hs:xL Int) (w r:Sk) |ask (b:Int) |rd (c i:Int) |wr (c i:Int) |cl (f:ρ) (is:xL Int) (s:Sk) (a:Int)
def Sk.dep:Sk->Nat
 | .st _ _ w r=>max w.dep r.dep
 | .cl _ _ s _=>s.dep+1
 |_=>0
def Sk.size:Sk->Nat
 | .st _ _ w r=>w.size+r.size+1
 | .cl _ _ s _=>s.size
 |_=>0
def Sk.ok:Bool->Sk->Prop
 |true,.nil=>True
 |true,.st _ _ w r=>w.ok ν/\r.ok μ
 |false,.cl _ _ s _=>s.ok μ
 |false,.ask _ |false,.rd _ _ |false,.wr _ _=>True
 |_,_=>False
inductive dSs(H:Hp)(n:Int)(d:xL Int)(W R:V->xL V->Prop)(x:xL V):Prop|mk(p h u y:_)(_:x= .ref p::y)(_:H p=δ (.tup [.int n,.ref h,u]))(_:H h=δ (.tup (d.map vr)))(_:W u [])(_:R .non y)
inductive dSc(H:Hp)(f:ρ)(I:xL Int)(a:Int)(W:V->xL V->Prop)(u:V):Prop|mk(p c g e S:_)(_:u= .ref p)(_:H p=δ (.tup [.str "call",.ref c]))(_:H c=δ (.tup [.str f,.ref g,.ref e,.int a]))(_:H g=δ (.tup (I.map vr)))(_:H e=δ (.tup S))(_:W .non S)
def dS(H:Hp):Sk->V->xL V->Prop
 | .nil,_,x=>x=[]
 | .st n d w r,_,x=>dSs H n d (dS H w) (dS H r) x
 | .ask b,u,_=>∃p,u= .ref p/\H p=δ (.tup [.str "ask",.int b])
 | .rd c i,u,_=>∃p,u= .ref p/\H p=δ (.tup [.str "read",.int c,.int i])
 | .wr c i,u,_=>∃p,u= .ref p/\H p=δ (.tup [.str "write",.int c,.int i])
 | .cl f I s a,u,_=>dSc H f I a (dS H s) u
theorem dS.mono(k:aj H i):∀{s:Sk} {u:V} {x:xL V},dS H s u x->dS i s u x
 | .nil,_,_,h=>h
 | .st _ _ _ _,_,_,z=>by let⟨p,h,u,y,e,a,b,d,f⟩:=z;rwa[#[p,h,u,y,e,k _ _ a,k _ _ b,dS.mono k d,dS.mono k f]]
 | .ask _,_,_,z | .rd _ _,_,_,z | .wr _ _,_,_,z=>by let⟨p,e,h⟩:=z;rwa[#[p,e,k _ _ h]]
 | .cl _ _ _ _,_,_,z=>by let⟨p,c,g,e,S,E,a,b,d,f,j⟩:=z;rwa[#[p,c,g,e,S,E,k _ _ a,k _ _ b,k _ _ d,k _ _ f,dS.mono k j]]
def Sk.put(n:Int)(h:xL Int)(W:Sk):Sk->Sk
 | .st a b c r=>.st a b c (Sk.put n h W r)
 |_=>.st n h W .nil
theorem ZJ{H:Hp}{n:Int}{a:xL Int}{w:Sk}{p h:ζ}{u:V}(b:H p=δ (.tup [.int n,.ref h,u]))(c:H h=δ (.tup$ a.map vr))(d:dS H w u []):∀{s:Sk} {x:xL V},s.ok μ->dS H s .non x->dS H (Sk.put n a w s) .non (x++[.ref p])
 | .nil,_,_,e=>by let e:_=[]:=e;rw[e];exact#[p,h,u,[],Z,b,c,d,Z]
 | .st _ _ _ r,_,o,z=>by let⟨f,g,U,y,e,i,j,k,l⟩:=z;rw[e];exact#[f,g,U,y++[.ref p],Z,i,j,k,ZJ b c d o.2 l]
theorem Kn{w:Sk}(h:w.ok ν):∀{s:Sk},s.ok μ->(Sk.put n H w s).ok μ
 | .nil,_=>#[h,trivial]
 | .st _ _ _ _,o=>#[o.1,Kn h o.2]
theorem Jv{n:Int}{hs:xL Int}{w:Sk}:∀{s:Sk},s.ok μ->(Sk.put n hs w s).size=s.size+(w.size+1)
 | .nil,_=>by show w.size+0+1=0+(w.size+1);omega
 | .st _ _ c r,o=>by let:=Jv (n:=n) (hs:=hs) (w:=w) (s:=r) o.2;show c.size+(Sk.put n hs w r).size+1=c.size+r.size+1+(w.size+1);omega
theorem Ko{n:Int}{hs:xL Int}{w:Sk}{j:Nat}(H:w.dep<=j):∀{s:Sk},s.ok μ->s.dep<=j->(Sk.put n hs w s).dep<=j
 | .nil,_,_=>by show max w.dep 0<=j;omega
 | .st _ _ c r,o,h=>by let h:max c.dep r.dep<=j:=h;let:=Ko (n:=n) (hs:=hs) H (s:=r) o.2 NO;show max c.dep (Sk.put n hs w r).dep<=j;omega
theorem qA:∀{s:Sk} {x:xL V},s.ok μ->dS H s .non x->ο x<=s.size
 | .nil,_,_,e=>by let e:_=[]:=e;rw[e];rwa[Ou 0]
 | .st _ _ w r,_,o,z=>by let⟨_,_,_,y,e,_,_,_,h⟩:=z;let:=qA o.2 h;rw[e];show ο y+1<=w.size+r.size+1;omega
inductive gW(H:Hp)(f:ρ)(i:xL Int)(s:Sk)(a:Int)(u:V):Prop|mk(c g e S:_)(_:u= .ref c)(_:H c=δ (.tup [.str f,.ref g,.ref e,.int a]))(_:H g=δ (.tup$ i.map vr))(_:H e=δ (.tup S))(_:dS H s .non S)
def Sk.wh:Sk->Wh
 | .ask b=>.ask b
 | .rd c i=>.rd c i
 | .wr c i=>.wr c i
 | .cl f I _ a=>.cl f I a
 |_=>.ask 0
def GH{s:Sk}(o:s.ok ν)(h:dS H s u []):DO H u s.wh:=by
 cases s with
 |nil |st=>rwa[o.elim]
 |ask b |rd c i |wr c i=>rwa[h]
 |cl f I s a=>let⟨p,c,g,e,S,E,d,j,k,_⟩:=h;exact#[p,c,g,.ref e,E,d,j,k]
inductive Gd where
 |give (a:Int) |go (n:Nat) (hs:xL Int)
def eL(N:Nat->xL ρ)(k:ba):Gl->Gd
 | .give _ T=>.give (T.ev k)
 | .nought=>.give 0
 | .go n=>.go n ((N n).map λx=>look k (.inr x) 0)
def LO:Gd->Tr
 | .give a=>ay [aM "give",ar a]
 | .go n h=>ay [aM "go",ar (n:Int),ay (h.map ar)]
def YX(N:Nat->xL ρ)(k:ba)(g:Gl):oW N k g=LO (eL N k g):=by
 cases g with
 |give t T |nought=>rfl
 |go n=>show _=ay [_,_,ay (((N n).map λx=>look k (.inr x) 0).map ar)];rw[Rk];rfl
structure y6 where
 nm:xL ρ
 e:DD
 ws:xL WD
structure di where
 f:ρ
 ps:xL ρ
 way:WD
 cs:xL y6
structure Hd(H:Hp)(ys:xL ρ)(nA:ζ)(d:Df)(c:Ct)(cd:y6):Prop where
 nm:cd.nm=canon c.M
 ed:cd.e.dd=c.d
 dv:uO H ys cd.e
 cs:cd.e.Cs d.b.calls
 len:ο cd.ws=ο c.ws
 ws:∀(j:Nat) (w:Wy) (wd:WD),c.ws[j]?=δ w->cd.ws[j]?=δ wd->wd.wy nA=w/\Aa H ys d.b.cuts d.b.size wd
structure Al(H:Hp)(nA:ζ)(d:Df)(ys:xL ρ)(pd:di):Prop where
 f:pd.f=d.f
 ps:H d.pa=δ (.tup$ pd.ps.map tT)
 wy:pd.way.wy nA=(iP nA d).1.w
 wv:Aa H ys d.b.cuts d.b.size pd.way
 len:ο pd.cs=(cg nA d).length
 cs:∀(n:Nat) (c:Ct) (cd:y6),(cg nA d)[n]?=δ c->pd.cs[n]?=δ cd->Hd H ys nA d c cd
def Hd.mono(k:aj H f)(h:Hd H y n d c C):Hd f y n d c C:=#[h.nm,h.ed,h.dv.mono k,h.cs,h.len,λj w W a b=>let #[e,v]:=h.ws j w W a b;#[e,v.mono k]]
def Al.mono(k:aj H e)(h:Al H N d y p):Al e N d y p:=#[h.f,k _ _ h.ps,h.wy,h.wv.mono k,h.len,λn c C a b=>(h.cs n c C a b).mono k]
theorem As{c d:Type}{R:c->d->Prop}:∀(l:xL c),(∀a∈l,∃b,R a b)->∃m:xL d,ο m=ο l/\∀(i:Nat) (a:c) (b:d),l[i]?=δ a->m[i]?=δ b->R a b
 | [],_=>#[[],Z,λi a b h=>by simp at h]
 |a::l,h=>by
  let⟨b,g⟩:=h a ON;let⟨m,e,j⟩:=As l λx k=>h x (OY _ k);erw[#[b::m,by rw[O1,O1,e],λi x y H f=>?_]];cases i with
  |zero=>cases H;cases f;rwa[g]
  |succ i=>rwa[j i x y (H:) (f:)]
def me(p:di)(n:Nat):xL ρ:=match p.cs[n]? with
 |some c=>c.nm
 |none=>[]
def Al.nms(h:Al H N d y p):eM N d=me p:=by
 funext n;unfold eM me;by_cases a:n < ο p.cs
 .let b:n < (cg N d).length:=by rw[<- h.len];exact a
  rw[On a,On b];exact(h.cs n _ _ (On b)$ On a).nm.symm
 .rw[Pk$ Tk a,Pk (by rw[<- h.len];rwa[Tk a])]
inductive OW where
 |ok (w:Sk) (L:ba) (t:Nat) |long |deep
inductive OC where
 |ok (s:Sk) (a:Int) (L:ba) (t:Nat) |long |deep
def OC.cons(n:Int)(h:xL Int)(w:Sk):OC->OC
 | .ok s a L t=>.ok (.st n h w s) a L t
 | .long=>.long
 | .deep=>.deep
def Sk.app:Sk->Sk->Sk
 | .st n h w r,s=>.st n h w (r.app s)
 |_,s=>s
def OC.pre(S:Sk):OC->OC
 | .ok s a L t=>.ok (S.app s) a L t
 | .long=>.long
 | .deep=>.deep
theorem KW:∀{s:Sk},s.ok μ->s.app .nil=s
 | .nil,_=>rfl
 | .st n h w r,o=>by show Sk.st n h w (r.app .nil)=_;rw[KW o.2]
theorem rA{w:Sk}:∀{s:Sk},s.ok μ->(Sk.put n h w s).app q=s.app (.st n h w q)
 | .nil,_=>rfl
 | .st a b c r,o=>by show Sk.st a b c ((Sk.put n h w r).app q)=Sk.st a b c (r.app (.st n h w q));rw[rA o.2]
def Yn{w s:Sk}(o:OC)(h:s.ok μ):(o.cons n H w).pre s=o.pre (Sk.put n H w s):=by
 cases o with
 |ok q a L t=>show OC.ok (s.app (.st n H w q)) a L t= .ok ((Sk.put n H w s).app q) a L t;rw[rA h]
 |long |deep=>rfl
abbrev oy:=ρ->xL Int->ba->Nat->OC
def OC.cl(f:ρ)(i:xL Int):OC->OW
 | .ok s a L t=>.ok (.cl f i s a) L t
 | .long=>.long
 | .deep=>.deep
def gZ(M:Nat)(call:oy)(C:ba)(k L:ba)(t:Nat)(e:DD):OW:=if t < M then match e with
 | .ask _ T=>.ok (.ask (if T.ev k=0 then 0 else 1)) L (t+1)
 | .st _ (.rd _ _ T)=>.ok (.rd (T.ev k) (look L (.inl (T.ev k)) (look C (.inl (T.ev k)) 0))) L (t+1)
 | .st _ (.wr _ _ T U)=>.ok (.wr (T.ev k) (U.ev k)) (cn L (.inl (T.ev k)) (.int (U.ev k))) (t+1)
 | .st _ (.cl _ f _ a)=>(call f (a.map λc=>c.2.ev k) L (t+1)).cl f (a.map λc=>c.2.ev k)
 |_=>.long
 else .long
def XB{call:oy}(h:¬t < M):gZ M call C k L t e= .long:=by unfold gZ;rw[OD h]
def YY{call:oy}(h:t < M):gZ M call C k L t (.ask p T)= .ok (.ask (if T.ev k=0 then 0 else 1)) L (t+1):=by unfold gZ;rw[OB h]
def vA{call:oy}(h:t < M):gZ M call C k L t (.st p$ .rd x a T)= .ok (.rd (T.ev k)$ look L (.inl$ T.ev k)$ look C (.inl$ T.ev k) 0) L (t+1):=by unfold gZ;rw[OB h]
def vC{call:oy}(h:t < M):gZ M call C k L t (.st p$ .wr a b T U)= .ok (.wr (T.ev k)$ U.ev k) (cn L (.inl$ T.ev k)$ .int$ U.ev k) (t+1):=by unfold gZ;rw[OB h]
def qP{call:oy}(h:t < M):gZ M call C k L t (.st p$ .cl x f q T)=(call f (T.map λc=>c.2.ev k) L$ t+1).cl f (T.map λc=>c.2.ev k):=by unfold gZ;rw[OB h]
def nF(p:di)(c:y6)(h:xL Int)(w:Wh):Gd:=match c.ws[w.side]? with
 |some W=>eL (me p) (b6 W.sets (oC c.e w (aJ c.nm h))) W.goal
 |none=>.give 0
def iW(M:Nat)(call:oy)(C:ba)(p:di):Nat->Gd->ba->Nat->OC
 |0,_,_,_=>.long
 |_+1,.give a,L,t=>.ok .nil a L t
 |m+1,.go n h,L,t=>match p.cs[n]? with
  |none=>.long
  |some c=>match gZ M call C (aJ c.nm h) L t c.e with
   | .ok w l T=>(iW M call C p m (nF p c h w.wh) l T).cons (n:Int) h w
   | .long=>.long
   | .deep=>.deep
def dY:xL di->ρ->ym di
 | [],_=>θ
 |p::r,f=>if p.f=f then δ p else dY r f
theorem rn:∀{b:xL di} {i:Nat} {a:di},b[i]?=δ a->(∀(j:Nat) (p:di),j < i->b[j]?=δ p->p.f≠a.f)->dY b a.f=δ a
 | [],i,a,h,_=>by simp at h
 |p::r,0,a,h,_=>by cases h;show(if p.f=p.f then δ p else _)=_;rw[OB Z]
 |p::r,i+1,a,h,k=>by show(if p.f=a.f then δ p else dY r a.f)=_;rw[OD$ k 0 p (Nat.succ_pos _) Z];rwa[rn (i:=i) (h:) λj q H c=>k (j+1) q (Nat.succ_lt_succ H) (c:)]
def aZ(M:Nat)(p:xL di)(C:ba):Nat->oy
 |0=>λ_ _ _ _=>.deep
 |j+1=>λf i L t=>match dY p f with
  |none=>.long
  |some a=>iW M (aZ M p C j) C a (M+2) (eL (me a) (b6 a.way.sets (aJ a.ps i)) a.way.goal) L t
structure Ps(H:Hp)(nA pA:ζ)(ds:xL Df)(ns:xL Nat)(xs:xL V)(pds:xL di):Prop where
 at':H pA=δ (.tup xs)
 tr:aS H (aC$ ds.map$ gG nA) .non xs
 dv:∃zs,dq H ds zs
 ok:uR ds ns
 pa:nH H ds ns
 dl:ο pds=ο ds
 pr:∀(i:Nat) (d:Df) (pd:di),ds[i]?=δ d->pds[i]?=δ pd->∃ys,(d.b.Ok ys/\ys.length<=20)/\Al H nA d ys pd
def Ps.mono(h:Ps H n c D N x p)(k:aj H e):Ps e n c D N x p:=#[k _ _ h.at',h.tr.mono k,let #[f,z]:=h.dv;#[f,z.mono k],h.ok,h.pa.mono k,h.dl,λi d g a b=>let #[Y,y,r]:=h.pr i d g a b;#[Y,y,r.mono k]]
def rj(h:aS H (gG n d) v []):GU H v d.f:=by obtain⟨_,a,x,rfl,b,_,_,Y,y,rfl,⟨rfl,_⟩,_⟩:=h;exact#[a,_,Z,b]
theorem vF:∀{D:xL Df} {z:xL V},dq H D z->∀{i:Nat} {d:Df},D[i]?=δ d->∃B,eI H d.b B
 |_::_,_,q,0,d,a=>by obtain⟨u,r,e,⟨B,_,_,_,h⟩,c⟩:=q;cases a;exact#[B,h]
 |_::_,_,#[u,r,e,_,c],i+1,d,a=>vF c (a:)
section
variable {H:Hp}{nA pA:ζ}{ds:xL Df}{ns:xL Nat}{xs:xL V}{pds:xL di}
def Ps.part(h:Ps H nA pA ds ns xs pds){i:Nat}{d:Df}{v:V}(b:ds[i]?=δ d)(q:xs[i]?=δ v):∃y c,nJ H nA d y v/\pds[i]?=δ c/\Al H nA d y c/\dY pds d.f=δ c:=by
 let⟨T,n,t⟩:=qX h.tr i v q;rw[OL,b]at n;cases n;let⟨z,r⟩:=h.dv;let⟨_,_,s⟩:=(h.ok.1 d$ OX b).1;let u:i < ο ds:=(ξ.mp b).1;let g:pds[i]?=δ (pds[i]'(by rw[h.dl];rwa[u])):=On _;obtain⟨y,⟨O,Y⟩,k⟩:=h.pr i d _ b g;erw[#[y,_,#[t,vF r b,O,Y,s],g,k,?_]];rw[<- k.f];erw[rn g λj p A l e=>?_];let a:j < ο ds:=NO
 let⟨_,_,m⟩:=h.pr j _ p (On a) l;rw[m.f,k.f]at e;let x:(ds.map Df.f)[j]?=δ (ds[j]).f:=by rw[OL,On a];rfl
 let o:(ds.map Df.f)[i]?=δ d.f:=by rw[OL,b];rfl
 rw[<- e]at o;let:=(SY (by rw[Oq];rwa[a]) h.ok.2.1).mp (x.trans o.symm);omega
def Ps.cs(h:Ps H nA pA ds ns xs pds){i:Nat}{d:Df}(a:ds[i]?=δ d):∀f∈d.b.calls,f∈(ds.map Df.f).zip ns:=zL (h.ok.1 d$ OX a).2
def Ps.at(h:Ps H nA pA ds ns xs pds){i:Nat}{d:Df}(b:ds[i]?=δ d):∃v,xs[i]?=δ v/\aS H (gG nA d) v []/\GU H v d.f/\∀j x,j < i->xs[j]?=δ x->∃g,GU H x g/\g≠d.f:=by
 let L:=zn h.tr;rw[Oq]at L;let r:i < ο ds:=(ξ.mp b).1;let t:∀(j:Nat) (x:V),xs[j]?=δ x->∃c,ds[j]?=δ c/\aS H (gG nA c) x []:=λj x k=>by let⟨s,m,t⟩:=qX h.tr j x k;rw[OL]at m;let⟨c,a,rfl⟩:=cv.mp m;exact#[c,a,t]
 let n:xs[i]?=δ (xs[i]'NO):=On NO;let⟨c,a,T⟩:=t _ _ n;rw[b]at a;cases a;erw[#[_,n,T,rj T,λj x u k=>?_]];let⟨c,a,q⟩:=t j x k;erw[#[c.f,rj q,λe=>?_]];let o:(ds.map Df.f)[j]?=δ c.f:=by rw[OL,a];rfl
 let p:(ds.map Df.f)[i]?=δ d.f:=by rw[OL,b];rfl
 rw[<- e]at p;let l:j < (ds.map Df.f).length:=(ξ.mp o).1;let:=(SY l h.ok.2.1).mp (o.trans p.symm);omega
def Ps.find(h:Ps H nA pA ds ns xs pds)(a:(f,n)∈(ds.map Df.f).zip ns):∃(i:Nat) (d:Df),ds[i]?=δ d/\ns[i]?=δ n/\d.f=f:=by
 let⟨i,b,e⟩:=iu.mp a;let E:((ds.map Df.f).zip ns)[i]?=δ (f,n):=by rw[<- e];rwa[On b]
 rw[UM]at E;rw[OL]at E;let⟨d,c,g⟩:=cv.mp E.1;exact#[i,d,c,E.2,g]
end
def Rn.tm{H H':Hp}(h:Rn H C r d E c l p m t L a)(k:aR r l H H'):aj H H':=λb x e=>k b _ (jM e h.ins BT) (jM e h.lf BT) e
def Rn.same(h:Rn H C r d e c l p m t L a)(s:aa H b):Rn b C r d e c l p m t L a:=#[s _ _ h.ins,s _ _ h.lf,s _ _ h.ce,h.iL,h.iC,h.cl,h.tl,h.hm]
def Rn.rl(h:Rn H C r d e c l p m t L a):r≠l/\r≠c:=#[jM h.ins h.lf BT,jM h.ins h.ce BT]
def GQ(r l:ζ)(H h:Hp):Prop:=∀b o,b≠r->b≠l->NX o->H b=δ o->h b=δ o
def Fl.next(h:Fl E L (GQ r l H)):Fl (md E) L (GQ r l H):=λd i k x T t c e a j f=>by cases e;rwa[h d _ λb o N g n e=>qg (H:=H) (k b o N g n e) n a f]
def Fl.nextK(h:Fl E L (Kp H)):Fl (md E) L (Kp H):=λd g k x T t c e a i f=>by cases e;rwa[h d _ λb o n e=>qg (H:=H) (k b o n e) n a f]
def Fl.mono{R S:Hp->Prop}(h:Fl E L R)(k:∀H,S H->R H):Fl E L S:=λd H s=>h d H (k H s)
inductive iJ(C:ζ)(e:xL V)(H:Hp)(Q:VK)(a:XK):Prop
 |mk(r c d b:ζ)(m:Int)(_:e=[.ref r,.ref d,.ref b,.int m])(_:H r=δ (.ins C c []))(_:∀lA,H lA=θ->Q .non (af (af H lA (.dK [])) r (.ins C c (dG [] b lA d m 0))))
def iR(A B:Prop)(E:XK)(T t:ζ)(R:Hp->Prop):Prop:=(A->Fl E T R)/\(B->Fl E t R)
def iR.mono{R S:Hp->Prop}(h:iR A B E T t R)(k:∀H,S H->R H):iR A B E T t S:=#[λa=>(h.1 a).mono k,λb=>(h.2 b).mono k]
def iR.next(h:iR A B E T t (GQ r l H)):iR A B (md E) T t (GQ r l H):=#[λa=>(h.1 a).next,λb=>(h.2 b).next]
def iR.imp{R:Hp->Prop}(h:iR A B E T t R)(a:c->A)(b:d->B):iR c d E T t R:=#[λx=>h.1 (a x),λx=>h.2 (b x)]
inductive eX(C g f q:ζ)(j:Nat)(x:xL V)(H:Hp)(Q:VK)(E:XK):Prop
 |mk(M:Nat)(r m:ζ)(n:xL (ρ×V))(k p w h:ζ)(b t i:Nat)(L e:ba)(v:V)(d:Df)(l:xL Df)(s:xL Nat)(y:xL V)(c:xL di)(o:xL Int)(_:x=[.ref r,v,.ref h,.int (b:Int)])(_:b+j=16)(_:1<=j)(_:Rn H C r m n k p w M t L e)(_:ο L<=t)(_:t<=M)(_:Ps H q w l s y c)(_:l[i]?=δ d)(_:s[i]?=δ o.length)(_:y[i]?=δ v)(_:H h=δ (.tup (o.map vr)))(_:∀z∈o,gB z)(_:∀(u:V) (sk:Sk) (a:Int) (L':ba) (H':Hp),aZ M c e j d.f o L t= .ok sk a L' (t+sk.size)->gW H' d.f o sk a u->sk.ok μ->sk.dep+1<=j->gB a->Rn H' C r m n k p w M (t+sk.size) L' e->ο L'<=t+sk.size->t+sk.size<=M->aR r p H H'->Q u H')(_:iR (aZ M c e j d.f o L t= .long) (aZ M c e j d.f o L t= .deep) E g f (GQ r p H))
inductive iK(C f d n:ζ)(j:Nat)(q:xL V)(H:Hp)(Q:VK)(E:XK):Prop
 |mk(M:Nat)(r i:ζ)(l:xL (ρ×V))(g m p:ζ)(a t:Nat)(L c k:ba)(u:V)(e:DD)(x:xL ρ)(h:xL Df)(o:xL Nat)(s:xL V)(b:xL di)(_:q=[.ref r,u,.int (a:Int)])(_:a+j=15)(_:Rn H C r i l g m p M t L c)(_:ο L<=t)(_:t<=M)(_:Ps H n p h o s b)(_:aS H (lS k e) u [])(_:uO H x e)(_:GT k)(_:e.Cs ((h.map Df.f).zip o))(_:∀(w:Sk) (v:V) (L':ba) (H':Hp),gZ M (aZ M b c j) c k L t e= .ok w L' (t+1+w.size)->dS H' w v []->w.ok ν->DH e w.wh->w.dep<=j->Rn H' C r i l g m p M (t+1+w.size) L' c->ο L'<=t+1+w.size->t+1+w.size<=M->aR r m H H'->Q v H')(_:iR (gZ M (aZ M b c j) c k L t e= .long) (gZ M (aZ M b c j) c k L t e= .deep) E f d (GQ r m H))
def Gc:am z7z z7z (ae xH):=bV
def rf(F:aU K "__init__" "BookRun.__init__" xH f t)(j:RK K C)(GT:⇑1 u c z26z (lN C))(B:aE K c z26z [])(M:mg "Turns"=↑T)(v:uQ K T "__init__" u):⇑2 f t z7z (iJ C):=by
 erw[F.ok Gc λx A o s H V Q E y h=>?_]
 let⟨r,d,z,k,m,rfl,g,q⟩:=h;erw[#[_,(jd (jN$ @ZZ _ _ _ _ _ _ _ _ _ _ _ _ _ _ _ _ _ _ _ _ Z M v GT y.m B .nil bQ (ja (pv 0)$ ja (pv 2)$ ja (pv 3) jb) NP NK NK NK)$ jg$ @qx _ _ _ _ _ _ _ _ (pv 0) (pv 1) Z),?_]];erw[ah λD n=>#[_,Z,_,Z,_,Z,r,d,[],k,m,Z,g,λL N=>n _ _ ?_]];erw[#[_,Z,_,Z,r,C,d,_,Z,jc,j.cl,j.n5,(by show 4 < 1000;decide),?_]];let e:∀(i:Hp) (p O:HO),af (af i r p) r O=af i r O:=λi p O=>by
  funext b;by_cases a:b=r
  .rw[a,jc,jc]
  .rw[jh a,jh a,jh a]
 rw[e];rwa[q L N]
def Jj(h:aS H (ay t) u []):∃a x,u= .ref a/\H a=δ (.tup x)/\aS H (aC t) .non x:=by let⟨_,a,x,e,b,c⟩:=h;rwa[#[a,x,e,b,c]]
def zA(h:aS H (aC (t::T)) .non x):∃y Y,x=y::Y/\aS H t y []/\aS H (aC T) .non Y:=by let⟨_,_,y,Y,e,a,b⟩:=h;rwa[#[y,Y,e,a,b]]
def XC(h:aS H (aM x) y []):y= .str x:=h.1
def Jk(h:aS H (ar n) y []):y= .int n:=h.1
theorem Jw:∀{I:xL Int} {v:xL V},aS H (aC$ I.map ar) .non v->v=I.map vr
 | [],v,h=>h
 |i::I,v,h=>by let⟨y,Y,rfl,a,b⟩:=zA h;rw[Jk a,Jw b];rfl
def Kq{H:Hp}{w:ρ}{t:xL Tr}{u:V}(h:aS H (ay (aM w::t)) u []):∃a x,u= .ref a/\H a=δ (.tup (.str w::x))/\aS H (aC t) .non x:=by let⟨a,x,rfl,b,h⟩:=Jj h;let⟨y,Y,rfl,c,d⟩:=zA h;rw[XC c]at b;exact#[a,Y,Z,b,d]
def JN{H:Hp}{w:ρ}{i:Int}{u:V}(h:aS H (ay [aM w,ar i]) u []):∃a,u= .ref a/\H a=δ (.tup [.str w,.int i]):=by let⟨a,x,rfl,b,h⟩:=Kq h;let⟨y,Y,rfl,c,d⟩:=zA h;let e:Y=[]:=d;rw[Jk c,e]at b;exact#[a,Z,b]
def YZ{H:Hp}{w:ρ}{i:Int}{t:Tr}{u:V}(h:aS H (ay [aM w,ar i,t]) u []):∃a y,u= .ref a/\H a=δ (.tup [.str w,.int i,y])/\aS H t y []:=by let⟨a,x,rfl,b,h⟩:=Kq h;let⟨y,Y,rfl,c,d⟩:=zA h;let⟨z,f,rfl,g,j⟩:=zA d;let e:f=[]:=j;rw[Jk c,e]at b;exact#[a,z,Z,b,g]
def IW:am z11z z11z (ae BP):=bV
def wL(F:aU K "what_of" "BookRun.what_of" BP f fd)(ck:RK K C)(GT:ai P w K mg base (dF P w) 1 fT f0 ["self"] (gq C TL))(bT:aE K f0 ["self"] [])(m0:bh K C "take_turn" fT)(GI:⇑1 fI f2 ["self","cell"] (gw C))(bI:aE K f2 ["self","cell"] [])(m1:bh K C "number_in" fI)(GD:ai P w K mg base (dF P w) 1 fD f3 ["deep"] (dP TD))(bD:aE K f3 ["deep"] [])(kD:gb K (.ref fD)=μ)(mD:mg "deeper"=↑fD)(cP:‹2› fP f6 ["parts","f"] iI "part_of")(GC:ai P w K mg base (dF P w) (2*j+12) fC f4 z14z (eX C TL TD nA j))(bC:aE K f4 z14z [])(m2:bh K C "chain_of" fC):ai P w K mg base (dF P w) (2*j+13) f fd z11z (iK C TL TD nA j):=by
 erw[F.ok1 IW λc5 A o2 s H vs Q E hr h=>?_]
 symm;let⟨M,r,I,Y,cA,N,W,O,t,L,Cs,k,u,e,ys,ds,ns,xs,p1,rfl,h4,D,h5,ht,hP,J,h0,hk,h1,q,t0⟩:=h;erw[#[_,(jd (jN$ X1 (pv 0) ck.cl m0 GT hr.m bT .nil ke)$ jd (jy (jZ$ jv$ pv 1) (jg$ jo$ ji$ ja jm$ ja (jv$ pv 1)$ ja (kf (pv 0) ck.cl m1 GI hr.m bI .nil bQ$ ja (jv$ pv 1) jb) jb) jp)$ jd (jy (jZ$ jv$ pv 1) (jg$ jo$ ji$ ja jm$ ja (kf (pv 0) ck.cl m2 GC hr.m bC .nil ke$ ja (cP.e hr.m$ ja (kW (pv 0) Z)$ ja (jv$ pv 1) jb)$ ja (jv$ pv 1)$ ja (kC GD hr.m Z mD kD bD .nil ke$ ja (pv 2) jb) jb) jb) jp)$ jd (jy (jZ$ jv$ pv 1) (jg$ Ke (zX hr) (kW (pv 0) Z) (jv$ pv 1) (jv$ pv 1) Z) jp)$ jg$ jo$ pv 1),?_]];let b0:=aN;let hM:=D.hm;sleep 4;erw[ah λF1 B=>#[_,Z,r,I,_,Z,D.ins,D.tl.t,r,I,Y,cA,N,W,M,t,Z,D.ins,D.tl,λlt=>B _ _ ?_,λge=>((t0.1$ XB NO).mono λH' kk=>λb o _ _ nx e=>kk b o nx e).nextK]];left;let t1:aj H (af H r$ .ins C I$ dG Y cA N W M$ t+1):=λb xs e=>by rw[jh$ jM e D.ins BT];rwa[e]
 let R:Rn (af H r$ .ins C I$ dG Y cA N W M$ t+1) C r I Y cA N W M (t+1) L Cs:=#[jc,by rw[jh D.rl.1.symm];rwa[D.lf],by rw[jh D.rl.2.symm];rwa[D.ce],D.iL,D.iC,D.cl,D.tl,D.hm];let k1:aR r N H (af H r$ .ins C I$ dG Y cA N W M$ t+1):=λb o n1 n2 e=>by rw[jh n1];rwa[e]
 generalize af H r (.ins C I$ dG Y cA N W M$ t+1)=H1 at t1 R k1;let J:=J.mono t1;let lt':t+1<=M:=NO
 let f5:∀(w:Sk) (xs:xL V) (X:Hp) (v:ζ),X v=θ->dS (af X v$ .tup xs) w (.ref v) []->w.ok ν->gZ M (aZ M p1 Cs j) Cs k L t e= .ok w L (t+1)->DH e w.wh->w.size=0->w.dep<=j->H1=X->Q (.ref v) (af X v$ .tup xs):=λw xs X v nv hw ok eq ft sz dp e2=>by subst e2;rwa[q w _ L _ (by rw[sz];rwa[eq]) hw ok ft dp (by rw[sz];rwa[R.same$ je nv]) NO NO$ k1.trans$ aR.of_same$ je nv]
 symm;cases e with
 |ask ta T=>
  let⟨p,rfl,G⟩:=JN J;erw[ah λF1 B=>(jr G Z #[Z,_,Z,aV NM$ B _ _ ?_])];left;erw[ah λF1 B=>(jr G Z #[Z,_,Z,aV NM$ B _ _ ?_])];left;erw[ah λF1 B=>(jr G Z #[Z,_,Z,aV NM$ B _ _ ?_])];left;erw[#[_,Z,q (.ask (if T.ev k=0 then 0 else 1)) _ L _ (YY NO) #[p,Z,G] trivial ?_ (OA _) R (by show ο L<=t+1+0;omega) lt' k1]];show(if T.ev k=0 then (0:Int) else 1)=0∨(if T.ev k=0 then (0:Int) else 1)=1;split
  .rwa[.inl Z]
  .rwa[.inr Z]
 |st p0 l=>
  let⟨vs,_,h6,o1,c0⟩:=h0;cases l with
  |gv ta T |st x ta T=>cases c0
  |rd x ta T=>let⟨p,rfl,G⟩:=JN J;sleep 3;erw[ah λF1 B=>(jr G Z #[Z,_,Z,cq NM$ jr G Z #[_,Z,r,I,_,Z,R.ins,R.tl.n,jr G Z #[r,I,Y,cA,N,W,M,_,_,_,_,Z,R,gU,λv nv=>?_]]])];rwa[f5 (.rd (T.ev k)$ look L (.inl$ T.ev k)$ look Cs (.inl$ T.ev k) 0) _ _ v nv #[v,Z,jc] trivial (vA NO) (Kl R.iL$ Kl R.iC Ji) Z (OA _) Z]
  |wr ta ub T U=>
   let⟨p,y,rfl,G,hy⟩:=YZ J;rw[Jk hy]at G;sleep 3;erw[ah λF1 B=>(jr G Z #[Z,_,Z,aV NM$ B _ _ ?_])];left;erw[ah λF1 B=>(jr G Z #[Z,_,Z,aV NM$ B _ _ ?_])];left;erw[ah λF1 B=>(jr G Z #[Z,_,Z,cq NM$ jr G Z #[_,Z,r,C,I,_,_,Z,R.ins,ck.cl,ck.n3,Z,jr G Z #[N,_,Z,su.k (k:=.inl (T.ev k)) R.lf NO,B _ _ ?_]]])];left;let pl:=qD (kvs:=L) (k:=.inl (T.ev k)) (v:=.int (U.ev k));let t3:aj H1 (af H1 N$ .dK$ cn L (.inl$ T.ev k)$ .int$ U.ev k):=λb xs e=>by rw[jh$ jM e R.lf BT];rwa[e]
   erw[#[_,Z,q (.wr (T.ev k)$ U.ev k) _ (cn L (.inl$ T.ev k)$ .int$ U.ev k) _ (vC NO) #[p,Z,t3 _ _ G] trivial trivial (OA _) #[by rw[jh D.rl.1];rwa[R.ins],jc,by rw[jh D.cl];rwa[R.ce],R.iL.put _$ qO hk o1.2.1,R.iC,R.cl,R.tl,R.hm] (by show _<=t+1+0;omega) lt' λb o n1 n2 e=>?_]];rw[jh n2];rwa[k1 b o n1 n2 e]
  |cl x f q' ts=>
   let⟨p,y3,rfl,G,hy⟩:=Kq J;let⟨y1,y4,rfl,e1,hy⟩:=zA hy;let⟨y2,y0,rfl,e2,hy⟩:=zA hy;let e3:y0=[]:=hy;subst e3;rw[XC e1]at G;let⟨ag,a0,rfl,ha,S⟩:=Jj e2;let S:aS H1 (aC ((ts.map λc=>c.2.ev k).map ar)) .non a0:=by rw[Rk];rwa[S]
   rw[Jw S]at ha;let⟨i,d,hd,hn,rfl⟩:=hP.find h1;let P1:=hP.mono t1;let⟨v,hv,_,h2,h3⟩:=P1.at hd;sleep 3;erw[ah λF1 B=>(jr G Z #[Z,_,Z,aV NM$ B _ _ ?_])];left;erw[ah λF1 B=>(jr G Z #[Z,_,Z,cq NM ?_])];left;erw[#[_,Z,r,I,_,Z,R.ins,R.tl.c,_,Z,r,C,I,_,_,Z,R.ins,ck.cl,ck.n5,Z,jr G Z #[W,d.f,xs,i,v,Z,P1.at',hv,h2,h3,jr G Z #[_,Z,(O:Int),Z,λdl=>?_,λdg=>((t0.2 (by let z:j=0:=NO;rw[qP NO,z];rfl)).mono λX kk=>λb o n1 n2 nx e=>kk b o nx (k1 b o n1 n2 e)).nextK]]]];erw[#[M,r,I,Y,cA,N,W,ag,O+1,t+1,i,L,Cs,v,d,ds,ns,xs,p1,ts.map λc=>c.2.ev k,Z,NO,NO,R,NO,lt',P1,hd,by rw[Oq];rwa[hn],hv,ha,λz hz=>?_,λu sk a L' X eq hc ok dp ia R2 l2 t2 k2=>?_,iR.next ((t0.imp (λz=>by rw[qP NO,z];rfl) (λz=>by rw[qP NO,z];rfl)).mono λX kk=>λb o n1 n2 nx e=>kk b o n1 n2 nx (k1 b o n1 n2 e))]]
   .symm;let⟨c,hc,rfl⟩:=dg.mp hz;rwa[qO hk (o1.2.2 c hc).1]
   .symm;let⟨c,g,ee,ss,rfl,c1,c2,c3,c4⟩:=hc;erw[#[ci,λv2 nv=>?_]];let s2:aa X (af X v2$ .tup [.str "call",.ref c]):=je nv;erw[q (.cl d.f (ts.map λc=>c.2.ev k) sk a) _ L' _ (by rw[qP NO,eq];rfl) #[v2,c,g,ee,ss,Z,jc,s2 _ _ c1,s2 _ _ c2,s2 _ _ c3,c4.mono$ aa.tm s2] ok ia (by show sk.dep+1<=j;rwa[N09]) (R2.same s2) l2 t2 ((k1.trans k2).trans$ aR.of_same s2)]
def DS:eV (s++[x]) (-1)=δ x:=by
 let l:(s++[x]).length=ο s+1:=by rw[Ot];rfl
 unfold eV oV;rw[l,OD NO,OB NO];let e:(-1+((ο s+1:Nat):Int)).toNat=ο s:=NO
 show(s++[x])[(-1+((ο s+1:Nat):Int)).toNat]?=_;rw[e];simp
inductive y7(H:Hp)(nA:ζ)(d:Df)(u:V):Gd->Prop
 |give (p:ζ) (a:Int) (e:u= .ref p) (h:H p=δ (.tup [.str "give",.int a])) (i:gB a):y7 H nA d u (.give a)
 |go (p hv:ζ) (n:Nat) (c:Ct) (is:xL Int) (e:u= .ref p) (h:H p=δ (.tup [.str "go",.int (n:Int),.ref hv])) (h2:H hv=δ (.tup (is.map vr))) (hc:(cg nA d)[n]?=δ c) (hl:ο is=(canon c.M).length) (hi:∀i∈is,gB i):y7 H nA d u (.go n is)
def y7.mono(k:aj H b)(h:y7 H N d u g):y7 b N d u g:=by
 cases h with
 |give p a e h i=>rwa[.give p a e (k _ _ h) i]
 |go p f n c I e h j l m o=>rwa[.go p f n c I e (k _ _ h) (k _ _ j) l m o]
def JO{H:Hp}{nA:ζ}{d:Df}(h:aS f (oW (eM nA d) k g) u [])(j:GT k)(l:Hf H Y d.b.cuts g):y7 f nA d u (eL (eM nA d) k g):=by
 cases g with
 |give t T=>let⟨p,e,h⟩:=JN h;rwa[.give p _ e h (qO j l.2.1)]
 |nought=>let⟨p,e,h⟩:=JN h;rwa[.give p 0 e h Ji]
 |go n=>
  let⟨p,y,e,h,q⟩:=YZ h;let⟨a,X,rfl,m,c⟩:=Jj q;let r:n < (cg nA d).length:=by rw[pH];rwa[l]
  let o:(cg nA d)[n]?=δ (cg nA d)[n]:=On r;let c:aS f (aC (((eM nA d n).map λx=>look k (.inr x) 0).map ar)) .non X:=by rw[Rk];rwa[c]
  rw[Jw c]at m;erw[.go p a n _ _ e h m o (by rw[Oq,wH o]) λi s=>?_];let⟨x,_,rfl⟩:=dg.mp s;rwa[Kl j Ji]
inductive CI(M:Nat)(a:oy)(N:di)(h:OC)(C r o:ζ)(E:xL (ρ×V))(n G K l P I:ζ)(b t j:Nat)(i:ba)(v:V)(d:Df)(H:Hp)(F:Nat)(R:_L.St)(k:Hp):Prop
 |mk(J:ym V)(u:V)(g:Gd)(m:Nat)(O:Sk)(Q:xL V)(L:ba)(p:R=[↑r,δ v,↑l,δ (.int (b:Int)),↑P,δ u,J])(q:k P=δ (.lst Q))(s:dS k O .non Q)(w:O.ok μ)(x:O.dep+1<=j)(y:y7 k I d u g)(z:Rn k C r o E n G K M (t+O.size) L i)(A:ο L<=t+O.size)(B:t+O.size<=M)(D:aR r G H k)(c:F+t+O.size=M+1)(e:(iW M a i N m g L (t+O.size)).pre O=h)(f:M+2<=m+(t+O.size))
def nQ:am ["self","part","args","deep","steps","goal","what"] z14z (ae BO):=bV
def EN(F:aU K "chain_of" "BookRun.chain_of" BO f fd)(ck:RK K C)(cF:‹9› fF f2 ["part","args"] (eY nA) "first_of")(cD:‹9› fD f3 z5z (dI nA) "deed_at")(cO:‹9› fO f4 z17z (ni nA) "onward")(GW:ai P w K mg base (dF P w) (2*j+13) fW f0 z11z (iK C TL TD nA j))(bW:aE K f0 z11z [])(m0:bh K C "what_of" fW)(m1:mg "tuple"=θ):ai P w K mg base (dF P w) (2*j+14) f fd z14z (eX C TL TD nA$ j+1):=by
 erw[F.ok1 nQ λc3 A o2 s H vs Q E hr h=>?_]
 symm;let⟨M,r,dx,ex,cA,lA,pA,ag,U,t,i,L,y,v,d,ds,ns,xs,x,is,rfl,b3,_,hR,a0,ht,hP,hd,hn,hv,ha,h3,q,t4⟩:=h;erw[#[_,(jd (jA 4 nQ.nd$ jF jb)$ jd (jA 5 nQ.nd$ cF.e hr.m$ ja (pv 1)$ ja (pv 2) jb)$ jd (Jq PassesOwn.leaving (jZ$ jv$ pv 5)$ jd (jA 6 nQ.nd$ kf (pv 0) ck.cl m0 GW hr.m bW .nil ke$ ja (cD.e hr.m$ ja (pv 1)$ ja (jv$ pv 5)$ ja (jv$ pv 5) jb)$ ja (pv 3) jb)$ jd (jN$ j9 PySem.F.plainAttrs_list PySem.F.slot_list_append PySem.F.type_list_append jQ (pv 4)$ ja (ji$ ja (jv$ pv 5)$ ja (jv$ pv 5)$ ja (pv 6) jb) jb)$ jg$ jA 5 nQ.nd$ cO.e hr.m$ ja (pv 1)$ ja (jq ju (pv 4) (xk YS jf) ∅) jb)$ jg$ jo$ ji$ ja (jv$ pv 1)$ ja (pv 2)$ ja (jI jK Z m1 boot_tuple$ ja (pv 4) jb)$ ja (jv$ pv 5) jb),?_]];let b4:=aN;let hM:=hR.hm;symm;let⟨ys,g,h1,b5,pr,a1⟩:=hP.part hd hv;let⟨ps,h4,a2,a3⟩:=hP.pa.2 i d _ hd hn;let e3:ps=g.ps:=by let z:=h4.symm.trans pr.ps;injection z with z;injection z with z;exact(List.map_inj_right λa b e=>by injection e).mp z
 subst e3;let e0:aZ M x y (j+1) d.f is L t=iW M (aZ M x y j) y g (M+2) (eL (me g) (b6 g.way.sets$ aJ g.ps is) g.way.goal) L t:=by show(match dY x d.f with |none=>OC.long |some g=>iW M (aZ M x y j) y g (M+2) (eL (me g) (b6 g.way.sets$ aJ g.ps is) g.way.goal) L t)=_;rw[a1]
 right;generalize aZ M x y (j+1) d.f is L t=X at q t4 e0;sleep 3;erw[ah λF1 J=>#[gR,λS Y=>J _ _ ?_]];left;let s1:aa H (af H S$ .lst []):=je Y;let l1:af H S (.lst []) S=δ (.lst []):=jc;generalize af H S (.lst [])=H1 at s1 l1 ⊢;let e4:=pr.wy;let h2:=pr.wv;erw[ah λF1 J=>#[_,Z,_,Z,v,ag,d,ys,g.ps,is,g.way,Z,h1.mono$ aa.tm s1,s1 _ _ h4,NO,s1 _ _ ha,a2.symm,h3,e4,h2.mono$ aa.tm s1,λu H2 hu s2=>J _ _ ?_]];left;let S2:=s1.trans s2;let gz:GT (aJ g.ps is):=qc h3;let g0:=JO (H:=H) hu (zz h2.sets gz) h2.goal;rw[pr.nms]at g0;let s0:S≠r:=Ne.symm (jk hR.ins Y);let s3:S≠lA:=Ne.symm (jk hR.lf Y);let s9:cA≠S:=jk hR.ce Y;erw[ah λF1 J=>?_];erw[nC (CI M (aZ M x y j) g X C r dx ex cA lA pA ag S nA U t (j+1) y v d H) (M+1 - t) #[θ,u,_,M+2,.nil,[],L,Z,s2 _ _ l1,Z,trivial,by show 0+1<=j+1;rwa[N09],g0,hR.same S2,a0,ht,aR.of_same S2,by show M+1 - t+t+0=M+1;omega,by rw[e0];show OC.pre .nil (iW M (aZ M x y j) y g (M+2) _ L t)=_;cases iW M (aZ M x y j) y g (M+2) (eL (me g) (b6 g.way.sets$ aJ g.ps is) g.way.goal) L t<;>rfl,by show M+2<=M+2+(t+0);omega] ?_];intro kk σ H3 E' rt fE F kT cF.k Gq kq hW;symm;let⟨o6,u,gd,m,N,R,L1,rfl,w1,w2,w3,w4,w5,w6,w7,w8,w9,b8,W,b9⟩:=hW;obtain⟨m,rfl⟩:∃m',m=m'+1:=#[m - 1,NO];let t0:=hR.tm w9;let P3:=hP.mono t0;cases w5 with
 |give p a e h5 ia=>subst e;erw[kq$ jr h5 Z #[Z,_,Z,?_]];rw[show decide (tT (Str.ofString "give")=tT (Str.ofString "go"))=ν by decide+kernel];erw[cF.k _$ J _ _ ?_];symm;let⟨pa,ca,wv,cs,e,h7,_⟩:=(h1.mono t0).parts;subst e;erw[(jr h7 Z #[_,Z,_,Z,S,R,Z,.inl #[aL.of w1,λl2 n0=>?_]])];let s4:aa H3 (af H3 l2$ .tup R):=je n0;erw[(jr (s4 _ _ h5) Z #[oF,λv2 nv=>?_])];let s5:=s4.trans (je (o:=.tup [.str d.f,.ref ag,.ref l2,.int a]) nv);let S5:aR r lA H (af (af H3 l2$ .tup R) v2$ .tup [.str d.f,.ref ag,.ref l2,.int a]):=w9.trans (aR.of_same s5);let W:OC.ok (N.app .nil) a L1 (t+N.size)=X:=W;rw[KW w3]at W;rwa[q _ N a L1 _ W.symm #[v2,ag,l2,R,Z,jc,hR.tm S5 _ _ ha,aq jc nv,w2.mono$ aa.tm s5] w3 w4 ia (w6.same s5) w7 w8 S5]
 |go p D n c hs e h5 h6 hc hl hi=>
  subst e;erw[kq$ jr h5 Z #[Z,_,Z,?_]];rw[show decide (tT (Str.ofString "go")=tT (Str.ofString "go"))=μ by decide+kernel];erw[kT _ ?_];let P1:=h1.mono t0;symm;let⟨pa,ca,wv,cs,e9,h7,_,_,a4⟩:=P1.parts;let⟨ka,na,wa,dv,b',_,c1⟩:=P1.cut a4 hc;let a5:n < ο g.cs:=by rw[pr.len];exact(ξ.mp hc).1
  obtain⟨cd,h8⟩:∃cd,g.cs[n]?=δ cd:=#[_,ks a5];let cr:=(pr.cs n c cd hc h8).mono t0;let⟨c2,e,c0⟩:=cd;let⟨e1,ed,d0,e5,l0,a'⟩:=cr;let e1:c2=canon c.M:=e1;subst e1;let W:OC.pre N (match g.cs[n]? with
   |none=>OC.long
   |some c=>match gZ M (aZ M x y j) y (aJ c.nm hs) L1 (t+N.size) c.e with
    | .ok w L1 t1=>(iW M (aZ M x y j) y g m (nF g c hs w.wh) L1 t1).cons (n:Int) hs w
    | .long=>.long
    | .deep=>.deep)=X:=W
  rw[h8]at W;let W:OC.pre N (match gZ M (aZ M x y j) y (aJ (canon c.M) hs) L1 (t+N.size) e with
    | .ok w L1 t1=>(iW M (aZ M x y j) y g m (nF g #[canon c.M,e,c0] hs w.wh) L1 t1).cons (n:Int) hs w
    | .long=>.long
    | .deep=>.deep)=X:=W
  let gk:GT (aJ (canon c.M) hs):=qc hi;sleep 2;erw[ah λF1 J=>#[_,Z,r,dx,_,Z,w6.ins,w6.tl.w,_,Z,jr h5 Z$ jr h5 Z #[v,n,D,d,ys,c,hs,e,Z,P1,hc,h6,hl,hi,ed,d0,λud H4 b0 s4=>?_]]];let t8:=t0.trans (aa.tm s4);erw[#[_,Z,M,r,dx,ex,cA,lA,pA,U,t+N.size,L1,y,aJ (canon c.M) hs,ud,e,ys,ds,ns,xs,x,Z,NO,w6.same s4,w7,w8,hP.mono t8,b0,d0.mono$ aa.tm s4,gk,?_,λw uw L' H5 e7 hw o1 ft d1 R5 l5 t5 k5=>J _ _ ?_,?_]]
  .symm;cases e with
   |ask=>right;trivial
   |st p0 l=>cases l<;>first |trivial |exact hP.cs hd _ e5
  .left;let K5:aR r lA H3 H5:=(aR.of_same s4).trans k5;let t6:aj H3 H5:=w6.tm K5;let g5:=t6 _ _ h5;let w0:H5 S=δ (.lst R):=K5 _ _ s0 s3 w1;let l3:=qA w3 w2;erw[ah λF1 J=>#[_,Z,.inl #[Z,_,aL.of w0],jr g5 Z$ jr g5 Z #[_,Z,gU,λO n3=>?_]]];let s6:aa H5 (af H5 O$ .tup [.int (n:Int),.ref D,uw]):=je n3;let e6:af H5 O (.tup [.int (n:Int),.ref D,uw]) O=δ (.tup [.int (n:Int),.ref D,uw]):=jc;erw[#[S,_,_,Z,Z,s6 _ _ w0,NO,J _ _ ?_]];left;generalize af H5 O (.tup [.int (n:Int),.ref D,uw])=H6 at s6 e6;let b7:aI S H6 (af H6 S$ .lst$ R++[.ref O]):=λb o nb e=>by rw[jh nb];exact e
   let t3:aj H6 (af H6 S$ .lst$ R++[.ref O]):=λb xs e=>b7 _ _ (jM e (s6 _ _ w0) BT) e;let w':af H6 S (.lst$ R++[.ref O]) S=δ (.lst$ R++[.ref O]):=jc;generalize af H6 S (.lst$ R++[.ref O])=H7 at b7 t3 w';let t2:aj H5 H7:=λb xs e=>t3 _ _ (s6 _ _ e);let B:aj H3 H7:=t6.trans t2;let G:w.wh.side < ο c.ws:=by
    rw[c1.v.len,<- ed];symm;cases e with
    |ask ta T=>show _ < 2;unfold Wh.side;split<;>(try split)<;>omega
    |st p0 l=>show _ < 1;symm;cases w<;>first |exact Nat.one_pos |exact o1.elim | (cases l<;>rwa[ft.elim])
   symm;obtain⟨I,h0⟩:∃I,c0[w.wh.side]?=δ I:=#[_,ks (by rw[l0];rwa[G])];let⟨e2,h'⟩:=a' _ _ I (ks G) h0;let sv:i8 H7 nA d ys v O n D uw c hs w.wh e I:=#[P1.mono B,t3 _ _ e6,hc,B _ _ h6,hl,hi,(GH o1 hw).mono t2,ed,d0.mono B,ft,by rw[e2];rwa[ks G],h'.mono B];let b1:eV (R++[xm O]) (-1)=↑O:=DS;erw[#[_,Z,_,Z,_,Z,S,_,_,_,Z,Z,aL.of w',b1,v,uw,O,D,n,d,ys,c,hs,w.wh,e,I,Z,sv,λu2 H8 b2 s8=>?_]];let t7:=aa.tm s8;let t9:=B.trans t7;let g1:=JO (H:=H7) b2 (zz sv.wdv.sets$ Xm ft gk) sv.wdv.goal;let e8:nF g #[canon c.M,e,c0] hs w.wh=eL (me g) (b6 I.sets$ oC e w.wh$ aJ (canon c.M) hs) I.goal:=by show(match c0[w.wh.side]? with |some wd=>eL (me g) (b6 wd.sets$ oC e w.wh$ aJ (canon c.M) hs) wd.goal |none=>Gd.give 0)=_;rw[h0]
   rw[pr.nms,<- e8]at g1;rw[e7]at W;let W:OC.pre N ((iW M (aZ M x y j) y g m (nF g #[canon c.M,e,c0] hs w.wh) L'$ t+N.size+1+w.size).cons (n:Int) hs w)=X:=W;rw[Yn _ w3]at W;let s7:=Jv (n:=(n:Int)) (hs:=hs) (w:=w) w3;let R7:Rn H7 C r dx ex cA lA pA M (t+N.size+1+w.size) L' y:=#[b7 _ _ (Ne.symm s0)$ s6 _ _ R5.ins,b7 _ _ (Ne.symm s3)$ s6 _ _ R5.lf,b7 _ _ s9$ s6 _ _ R5.ce,R5.iL,R5.iC,R5.cl,R5.tl,R5.hm];let ez:t+N.size+1+w.size=t+(Sk.put (n:Int) hs w N).size:=by rw[s7];omega
   rw[ez]at R7 l5 t5 W;erw[fE (kk - (w.size+1)) _ _ NO #[_,u2,_,m,Sk.put (n:Int) hs w N,R++[.ref O],L',Z,s8 _ _ w',(ZJ (t3 _ _ e6) (B _ _ h6) (hw.mono t2) w3$ w2.mono B).mono t7,Kn o1 w3,?_,g1,R7.same s8,l5,t5,?_,by rw[s7];omega,W,NO]]
   .let:=Ko (n:=(n:Int)) (hs:=hs) (w:=w) (j:=j) d1 w3 NO;omega
   .intro b o n1 n2 e;rwa[s8 _ _$ b7 _ _ (jk e Y)$ s6 _ _$ K5 _ _ n1 n2$ w9 _ _ n1 n2 e]
  .rwa[iR.next ((t4.imp (λz=>by rw[z]at W;rwa[W.symm]) (λz=>by rw[z]at W;rwa[W.symm])).mono λH5 kk=>λb o n1 n2 nx e=>kk b o n1 n2 nx (s4 _ _$ w9 _ _ n1 n2 e))]
inductive sd(f e l:ζ)(o:xL V)(H:Hp)(Q:VK)(E:XK):Prop
 |mk(M:Nat)(n g h:ζ)(i:Nat)(c:ba)(d:Df)(j:xL Df)(m:xL Nat)(p:xL V)(b:xL di)(k:xL Int)(_:o=[.ref n,.str d.f,.ref g,.ref h,.int (M:Int)])(_:M<=1000)(_:Ps H l n j m p b)(_:j[i]?=δ d)(_:m[i]?=δ k.length)(_:H g=δ (.tup (k.map vr)))(_:∀z∈k,gB z)(_:H h=δ (.dK c))(_:GT c)(_:∀(u:V) (sk:Sk) (a:Int) (L':ba) (H':Hp),aZ M b c 16 d.f k [] 0= .ok sk a L' sk.size->gW H' d.f k sk a u->sk.ok μ->sk.dep<=15->sk.size<=M->aa H H'->Q u H')(_:iR (aZ M b c 16 d.f k [] 0= .long) (aZ M b c 16 d.f k [] 0= .deep) E f e (Kp H))
def Bz(h:aS H (gG n d) v []):∃p r,v= .ref p/\H p=δ (.tup (.str d.f:: .ref d.pa::r)):=by obtain⟨_,a,x,rfl,b,_,_,c,y,rfl,⟨rfl,_⟩,_,_,e,Y,rfl,⟨rfl,_⟩,_⟩:=h;exact#[a,_,Z,b]
def EE:ai P w K mg base (dF P w) k f c z14z (eX C T b N 0):=by
 let n:∀{V H Q E},¬eX C T b N 0 V H Q E:=by rintro V H Q E ⟨M,r,e,g,j,l,m,q,D,t,i,L,u,v,d,x,y,X,p,I,_,_,z,_⟩;omega
 exact#[λV H Q E h=>(n h).elim,λA o s H a U V Q E B F G J h=>(n h).elim]
theorem DT(d:RK K C)(F:aU K "chain_of" "BookRun.chain_of" BO k f)(B:aE K f z14z [])(m:bh K C "chain_of" k)(l:aU K "what_of" "BookRun.what_of" BP D e)(o:aE K e z11z [])(M:bh K C "what_of" D)(p:‹9› Q E ["part","args"] (eY n) "first_of")(q:‹9› U H z5z (dI n) "deed_at")(r:‹9› Y I z17z (ni n) "onward")(GT:ai P w K mg base (dF P w) 1 J g ["self"] (gq C T))(s:aE K g ["self"] [])(a:bh K C "take_turn" J)(G:⇑1 L h ["self","cell"] (gw C))(t:aE K h ["self","cell"] [])(b:bh K C "number_in" L)(u:ai P w K mg base (dF P w) 1 v i ["deep"] (dP N))(x:aE K i ["deep"] [])(y:gb K (.ref v)=μ)(z:mg "deeper"=↑v)(A:‹2› fP O ["parts","f"] iI "part_of")(c:mg "tuple"=θ):∀j,ai P w K mg base (dF P w) (2*j+12) k f z14z (eX C T N n j)
 |0=>EE
 |j+1=>EN F d p q r (wL l d GT s a G t b u x y z A (DT d F B m l o M p q r GT s a G t b u x y z A c j) B m) o M c
def Dv:am ["parts","f","args","cells","most","part"] z30z (ae FY):=bV
def Fd(F:xD K "run" FY f fd)(ck:RK K C)(mk:Mk K C fI)(GI:⇑2 fI y z7z (iJ C))(bI:aE K y z7z [])(mC:mg "BookRun"=↑C)(cB:‹2› fB f0 ["ones","f","args"] i5 "begun")(GA:ai P w K mg base (dF P w) 44 fA B z14z (eX C TL TD nA 16))(bA:aE K B z14z [])(G:bh K C "chain_of" fA):ai P w K mg base (dF P w) 45 f fd z30z (sd TL TD nA):=by
 erw[F.ok1 Dv λc0 A O s H vs Q E I h=>?_]
 let⟨M,g,J,j,i,L,d,ds,ns,X,k,is,rfl,hM,x,R,hn,ha,T,t,U,q,V⟩:=h;erw[#[_,(jd (jA 5 Dv.nd$ cB.e I.m$ ja (pv 0)$ ja (pv 1)$ ja (pv 2) jb)$ jg$ jo$ kf (Xv mk GI I.m Z mC bI .nil bQ$ ja (pv 0)$ ja (pv 3)$ ja (pv 4) jb) ck.cl G GA I.m bA .nil ke$ ja (pv 5)$ ja (pv 2)$ ja jf jb),?_]];let⟨v,hv,tv,h0,W⟩:=x.at R;let⟨p,pr,rfl,hp⟩:=Bz tv;let⟨ps,Y,h1,_⟩:=x.pa.2 i d _ R hn;erw[ah λF1 f1=>#[_,Z,_,Z,_,Z,g,J,d.f,X,_,i,.ref p,p,d.pa,pr,_,Z,x.at',hv,Z,hp,Y,ha,by rw[Oq,Oq];omega,W,f1 _ _ ?_]];erw[#[_,Z,_,Z,_,Z,λr D N nd ne=>?_]];let s0:aa H (af (af H D$ .own r) r$ .ins C D []):=λc o e=>by rw[jh$ jk e N,jh$ jk e nd];rwa[e]
 erw[#[r,D,g,j,M,Z,jc,λl nl=>#[Z,?_]]];let n0:l≠r:=λe=>by rw[e,jc]at nl;cases nl
 let n:H l=θ:=by
  cases z:H l with
  |none=>rfl
  |some o=>have:=s0 _ _ z;rw[nl]at this;cases this
 let S:aa H (af (af (af (af H D$ .own r) r$ .ins C D []) l$ .dK []) r$ .ins C D$ dG [] j l g M 0):=λc o e=>by rw[jh$ jk e N,jh$ jk e n];rwa[s0 _ _ e]
 let R1:Rn (af (af (af (af H D$ .own r) r$ .ins C D []) l$ .dK []) r$ .ins C D$ dG [] j l g M 0) C r D [] j l g M 0 [] L:=#[jc,by rw[jh n0];rwa[jc],S _ _ t,GT.nil,U,jk t n,Tl.nil,NO];generalize af (af (af (af H D$ .own r) r$ .ins C D []) l$ .dK []) r (.ins C D$ dG [] j l g M 0)=H1 at S R1;let t0:=aa.tm S;erw[#[r,D,_,Z,R1.ins,Z,_,Z,_,Z,M,r,D,[],j,l,g,J,0,0,i,[],L,.ref p,d,ds,ns,X,k,is,Z,Z,NP,R1,Ou _,OA _,x.mono t0,R,hn,hv,S _ _ ha,T,λu sk a L' H2 eq hc ok dp ia R2 l2 t2 k2=>?_,iR.next$ V.mono λH' kk=>λb o nx e=>kk b o (jk e N) (jk e n) nx (S _ _ e)]];rwa[q u sk a L' H2 (by rw[Ss]at eq;rwa[eq]) hc ok NO NO λc o e=>k2 c o (jk e N) (jk e n) (S _ _ e)]
def nV:Sk->Tr
 | .nil=>.nil
 | .st n h w r=>.cons (ay [ar n,ay (h.map ar),nV w]) (nV r)
 | .ask b=>ay [aM "ask",ar b]
 | .rd c i=>ay [aM "read",ar c,ar i]
 | .wr c i=>ay [aM "write",ar c,ar i]
 | .cl f I s a=>ay [aM "call",ay [aM f,ay (I.map ar),.tp (nV s),ar a]]
def ZK:∀{b:Bool} {s:Sk},s.ok b->(nV s).isL=b
 |true,.nil,_ |true,.st _ _ _ _,_ |false,.cl _ _ _ _,_ |false,.ask _,_ |false,.rd _ _,_ |false,.wr _ _,_=>rfl
def kX{H:Hp}{a:xL Int}(e:H h=δ (.tup$ a.map vr)):aS H (ay$ a.map ar) (.ref h) []:=jD e Km
theorem JY{b:Bool}{s:Sk}{u:V}{X:xL V}(o:s.ok b)(q:dS H s u X)(z:b=ν->X=[])(y:b=μ->u= .non):aS H (nV s) u X:=by
 induction s generalizing b u X with
 |nil=>cases b with
  |true=>rwa[q]
  |false=>rwa[o.elim]
 |st n t w r f g=>cases b with
  |true=>let⟨p,h,v,Y,e,d,j,k,l⟩:=q;rw[e,y Z];rwa[#[Z,ZK o.2,_,_,Z,jD d$ jl Z jV$ jl Z (kX j)$ jl (ZK o.1) (f o.1 k (λ_=>Z) (λx=>nomatch x)) jB,g o.2 l (λx=>nomatch x) (λ_=>Z)]]
  |false=>rwa[o.elim]
 |ask a=>cases b with
  |true=>rwa[o.elim]
  |false=>let⟨p,e,h⟩:=q;rw[e,z Z];rwa[jD h (jl Z jS (jl Z jV jB))]
 |rd c i |wr c i=>cases b with
  |true=>rwa[o.elim]
  |false=>let⟨p,e,h⟩:=q;rw[e,z Z];rwa[jD h (jl Z jS (jl Z jV (jl Z jV jB)))]
 |cl f I s a n=>cases b with
  |true=>rwa[o.elim]
  |false=>let⟨p,c,g,e,S,E,d,j,k,l,m⟩:=q;rw[E,z Z];rwa[jD d$ jl Z jS$ jl Z (jD j$ jl Z jS$ jl Z (kX k)$ jl Z #[ZK o,e,S,Z,l,n (b:=μ) o m (λx=>nomatch x) (λ_=>Z)] (jl Z jV jB)) jB]
theorem ze:∀i:xL Int,(aC$ i.map ar).dep=0
 | []=>rfl
 |_::i=>by show max 0 (aC (i.map ar)).dep=0;rw[ze i];rfl
theorem Xn:∀{b:Bool} {s:Sk},s.ok b->(nV s).dep<=4*s.dep+(if b=μ then 2 else 1)
 |true,.nil,_=>OA _
 |true,.st n H w r,o=>by let h:=Xn (b:=ν) (s:=w) o.1;let c:=Xn (b:=μ) (s:=r) o.2;let d:=ze H;let h:(nV w).dep<=4*w.dep+1:=h;let c:(nV r).dep<=4*r.dep+2:=c;show max (max 0 (max ((aC$ H.map ar).dep+1)$ max (nV w).dep 0)+1) (nV r).dep<=4*max w.dep r.dep+2;omega
 |false,.ask _,_ |false,.rd _ _,_ |false,.wr _ _,_=>Ou 1
 |false,.cl f i s a,o=>by let h:=Xn (b:=μ) (s:=s) o;let d:=ze i;let h:(nV s).dep<=4*s.dep+2:=h;show max 0 (max (max 0 (max ((aC$ i.map ar).dep+1)$ max ((nV s).dep+1)$ max 0 0)+1) 0)+1<=4*(s.dep+1)+1;omega
def LM(f:ρ)(i:xL Int)(s:Sk)(a:Int):Tr:=aC [aM f,ay$ i.map ar,.tp$ nV s,ar a]
def CW(h:gW H f i s a u)(o:s.ok μ):aS H (.tp$ LM f i s a) u []:=by let⟨c,g,e,S,rfl,d,j,k,l⟩:=h;rwa[jD d$ jl Z jS$ jl Z (kX j)$ jl Z #[ZK o,e,S,Z,k,JY (b:=μ) o l (λx=>nomatch x) (λ_=>Z)] (jl Z jV jB)]
def DW{s:Sk}(o:s.ok μ)(d:s.dep<=15):(LM f i s a).dep < 100:=by let h:=Xn (b:=μ) (s:=s) o;let H:=ze i;let h:(nV s).dep<=4*s.dep+2:=h;show max 0 (max ((aC$ i.map ar).dep+1)$ max ((nV s).dep+1)$ max 0 0) < 100;omega
def Fv{p:xL ρ}{v:V}(h:nJ H N d y v)(g:H d.pa=δ (.tup$ p.map tT)):∃q,Al H N d y q:=by
 let⟨W,E,i⟩:=h.way;let⟨a,J,L,O,rfl,Q,m,r,j⟩:=h.parts;let⟨C,s,t⟩:=As (R:=λc u=>Hd H y N d c u) (cg N d) λc k=>by let⟨n,x,z⟩:=iu.mp k;let⟨S,T,U,X,A,_,o⟩:=h.cut j (n:=n) (c:=c) (by rw[<- z];rwa[On x]);let⟨e,B,D,F⟩:=HP o.v.deed;let⟨G,I,l⟩:=As (R:=λ(w:Wy) (W:WD)=>W.wy N=w/\Aa H y d.b.cuts d.b.size W) c.ws λw m=>o.v.ways w m;exact#[#[canon c.M,e,G],Z,B,D,F,I,l]
 exact#[#[d.f,p,W,C],Z,g,E,i,s,t]
def IL{H:Hp}{D:xL Df}(a:H l=δ (.tup x))(T:aS H (aC$ D.map$ gG n) .non x)(g:∃z,dq H D z)(o:uR D N)(j:nH H D N):∃p,Ps H n l D N x p:=by
 let L:=zn T;rw[Oq]at L;let⟨p,m,q⟩:=As (R:=λd c=>∃y,(d.b.Ok y/\y.length<=20)/\Al H n d y c) D λd e=>by
  let⟨i,r,E⟩:=iu.mp e;let h:D[i]?=δ d:=by rw[<- E];rwa[On r]
  let s:x[i]?=δ (x[i]'NO):=On _;let⟨t,k,u⟩:=qX T i _ s;rw[OL,h]at k;cases k;let⟨z,A⟩:=g;obtain⟨⟨y,Y,o⟩,_,S⟩:=(o.1 d e).1;let⟨C,f,_⟩:=j.v d e;let⟨c,B⟩:=Fv (v:=x[i]'NO) #[u,vF A h,o,Y,S] f;exact#[c,y,#[o,Y],B]
 exact#[p,a,T,g,o,j,m,q]
def CY{call:oy}{w:Sk}(h:gZ M call C k L t e= .ok w l T):t < M:=by
 by_cases z:t < M
 .rwa[z]
 .rw[XB z]at h;cases h
def Et:V->Bool
 | .int _ | .str _=>μ
 |_=>ν
def _root_._L.Tr.In:Tr->Prop
 | .lf v=>Et v=μ
 | .tp l=>l.In
 | .nil=>True
 | .cons h t=>h.In/\t.In
def _root_._L.Tr.items:Tr->xL Tr
 | .cons h t=>h::t.items
 |_=>[]
theorem Xo{H:Hp}:∀{t u:Tr} {x:V} {xs:xL V},aS H t x xs->aS H u x xs->t.isL=u.isL->t.In->u.In->t=u
 | .lf v,.lf w,_,_,h,k,_,_,_=>by rw[<- h.1,<- k.1]
 | .lf v,.tp m,_,_,h,k,_,i,_ | .tp l,.lf v,_,_,k,h,_,_,i=>by let⟨_,a,_,e,_⟩:=k;let E:=h.1;rw[e]at E;rw[<- E]at i;cases i
 | .tp l,.tp m,_,_,h,k,_,i,j=>by let⟨o,a,xs,e,p,q⟩:=h;let⟨r,b,Y,c,d,f⟩:=k;rw[e]at c;cases c;rw[p]at d;cases d;rw[Xo q f (o.trans r.symm) i j]
 | .nil,.nil,_,_,_,_,_,_,_=>rfl
 | .nil,.cons _ _,_,_,h,k,_,_,_ | .cons _ _,.nil,_,_,k,h,_,_,_=>by let⟨_,_,_,_,e,_⟩:=k;let h:_=[]:=h;rw[e]at h;cases h
 | .cons h t,.cons G T,_,_,k,s,_,i,j=>by let⟨A,B,y,Y,e,d,f⟩:=k;let⟨C,D,I,F,c,g,n⟩:=s;rw[e]at c;cases c;rw[Xo d g (A.trans C.symm) i.1 j.1,Xo f n (B.trans D.symm) i.2 j.2]
 | .lf _,.nil,_,_,_,_,z,_,_ | .lf _,.cons _ _,_,_,_,_,z,_,_ | .tp _,.nil,_,_,_,_,z,_,_ | .tp _,.cons _ _,_,_,_,_,z,_,_ | .nil,.lf _,_,_,_,_,z,_,_ | .nil,.tp _,_,_,_,_,z,_,_ | .cons _ _,.lf _,_,_,_,_,z,_,_ | .cons _ _,.tp _,_,_,_,_,z,_,_=>nomatch z
theorem qE:∀{l:Tr} {X:xL V},l.isL=μ->l.In->aS H l .non X->ο X=ο l.items/\∀(j:Nat) (x:V),X[j]?=δ x->∃t,l.items[j]?=δ t/\t.isL=ν/\t.In/\t.dep<=l.dep/\aS H t x []
 | .nil,X,_,_,h=>by let h:X=[]:=h;rw[h];exact#[Z,λj x z=>by simp at z]
 | .cons a t,X,_,i,h=>by
  let⟨A,c,y,Y,e,k,d⟩:=h;subst e;let⟨L,f⟩:=qE c i.2 d;erw[#[PL (·+1) L,λj x b=>?_]];cases j with
  |zero=>cases b;exact#[a,Z,A,i.1,SK _ _,k]
  |succ j=>let⟨u,g,m,n,o,p⟩:=f j x (b:);exact#[u,by simpa [_L.Tr.items] using g,m,n,OK o$ Sx _ _,p]
 | .lf _,_,z,_,_ | .tp _,_,z,_,_=>nomatch z
theorem Yo:∀{l m:Tr} {x y:xL V},l.isL=μ->m.isL=μ->aS H l .non x->aS H m .non y->(l=m↔l.items=m.items)
 | .nil,.nil,_,_,_,_,_,_=>#[λ_=>Z,λ_=>Z]
 | .nil,.cons _ _,_,_,_,_,_,_ | .cons _ _,.nil,_,_,_,_,_,_=>#[λz=>(nomatch z),λz=>(nomatch z)]
 | .cons a t,.cons b u,_,_,_,_,h,k=>by let⟨_,A,_,_,_,_,d⟩:=h;let⟨_,B,_,_,_,_,c⟩:=k;let i:=Yo A B d c;erw[#[λz=>by cases z;rfl,λz=>?_]];let z:a::t.items=b::u.items:=z;injection z with e f;rw[e,i.mpr f]
 | .lf _,_,_,_,z,_,_,_ | .tp _,_,_,_,z,_,_,_ | .nil,.lf _,_,_,_,z,_,_ | .nil,.tp _,_,_,_,z,_,_ | .cons _ _,.lf _,_,_,_,z,_,_ | .cons _ _,.tp _,_,_,_,z,_,_=>nomatch z
open Classical in
def gV(t u:Tr):Bool:=decide (t=u)
open Classical in
def zq(h:t=u):gV t u=μ:=by unfold gV;rwa[OE h]
open Classical in
def zf(h:t≠u):gV t u=ν:=by unfold gV;rwa[Oz h]
def lX(l m:Tr)(j:Nat):Bool:=match l.items[j]?,m.items[j]? with
 |some t,δ u=>gV t u
 |_,_=>μ
def Yp{l m:Tr}(a:l.isL=μ)(b:m.isL=μ)(h:aS H l .non x)(k:aS H m .non y)(d:n=ο l.items)(E:N=ο m.items):((dw$ min n N).all (lX l m)&&n==N)=gV l m:=by
 by_cases e:l=m
 .subst e;rw[zq Z,d,E,T5,Bool.and_true,Tf];intro j _;unfold lX;cases l.items[j]? with
  |none=>rfl
  |some t=>rwa[zq Z]
 .rw[zf e];let f:l.items≠m.items:=λz=>e ((Yo a b h k).mpr z);by_cases g:n=N
  .let z:(dw$ min n N).all (lX l m)=ν:=by rw[VJ];intro z;rw[Tf]at z;erw[f$ Uk NO λj i o=>?_];let:=z j (tf.mpr NO);unfold lX at this;rw[On i,On o]at this;exact Classical.byContradiction λc=>by let C:=zf c;dsimp only at this;rw[C]at this;cases this
   rw[z];rfl
  .rw[show(n==N)=ν from beq_eq_false_iff_ne.mpr g,TX]
section
open PySem.SeqAt
variable {X:Cx}
def Im{w:V}(H:Et v=μ)(h:Et w=μ)(R:aK v a)(r:aK w b):EqAt A s a b (gV (.lf v)$ .lf w):=by
 cases v with
 |int i=>
  let⟨T,rfl⟩:=R;cases w with
  |int j=>
   let⟨t,rfl⟩:=r;let z:=Wv (A:=A) (s:=s) i T j t;by_cases e:i=j
   .subst e;rw[T5]at z;rw[zq Z];rwa[z]
   .rw[beq_eq_false_iff_ne.mpr e]at z;rw[zf (λc=>e (by injection c with c;injection c))];rwa[z]
  |str y=>let⟨t,rfl⟩:=r;rw[zf (λc=>by injection c with c;cases c)];rwa[EqAt.int_str _ _ _ _]
  |_=>cases h
 |str i=>
  let⟨T,rfl⟩:=R;cases w with
  |str j=>
   let⟨t,rfl⟩:=r;let z:=Wt (A:=A) (s:=s) i T j t;by_cases e:i=j
   .subst e;rw[T5]at z;rw[zq Z];rwa[z]
   .rw[beq_eq_false_iff_ne.mpr e]at z;rw[zf (λc=>e (by injection c with c;injection c))];rwa[z]
  |int y=>let⟨t,rfl⟩:=r;rw[zf (λc=>by injection c with c;cases c)];rwa[EqAt.str_int _ _ _ _]
  |_=>cases h
 |_=>cases H
def IV(I:ax X p σ H s)(n:Nat)(G:∀(t:Tr) {A:bS},t.dep<=n->A.units+n < cLine->t.In->t.isL=ν->∀{u:Tr} {x y:V},u.In->u.isL=ν->aS H t x []->aS H u y []->∀a b,aK x a->aK y b->EqAt A s a b (gV t u)){l m:Tr}(hn:l.dep<=n)(hu:A.units+n+1 < cLine)(J:l.In)(L:m.In)(d:l.isL=μ)(f:m.isL=μ)(M:H g=δ (.tup i))(N:H B=δ (.tup o))(T:aS H l .non i)(q:aS H m .non o):RcAt A s (.ref g) (.ref B) (gV (.tp l)$ .tp m):=by
 let⟨v,r,O,_⟩:=I.tuple (aF.of (K:=X.K) M);let⟨C,R,Q,_⟩:=I.tuple (aF.of (K:=X.K) N);let⟨S,U⟩:=qE d J T;let⟨W,Y⟩:=qE f L q;let z:=WA (A:=A) (e:=lX l m) (show s.heap.IsTuple g v.toArray from O) (show s.heap.IsTuple B C.toArray from Q) NO (λj h1 h2=>?_)
 .rw[Yp d f T q (by rw[Ov,<- r.length,S]) (by rw[Ov,<- R.length,W])]at z;let E:gV (.tp l) (.tp m)=gV l m:=by
   by_cases c:l=m
   .rw[zq c,zq (by rw[c])]
   .rw[zf c,zf (λk=>c (by injection k))]
  rw[E];rwa[z]
 .let la:=r.length;let lb:=R.length;let D:j < ο i:=by simp at h1;omega
  let h:j < ο o:=by simp at h2;omega
  let⟨u1,q1,r1⟩:=r.get (On D);let⟨u2,q2,r2⟩:=R.get (On h);let e1:v.toArray[j]=u1:=by let⟨_,e⟩:=ξ.mp q1;simpa using e
  let E:C.toArray[j]=u2:=by let⟨_,e⟩:=ξ.mp q2;simpa using e
  rw[e1,E];let⟨F,g1,g2,g3,g4,g5⟩:=U j _ (On D);let⟨u',k1,k2,k3,k4,k5⟩:=Y j _ (On h);let et:lX l m j=gV F u':=by unfold lX;rw[g1,k1]
  rw[et];rwa[G F (A:=A.in1) NO (by show A.units+1+n < cLine;omega) g3 g2 k3 k2 g5 k5 _ _ r1 r2]
def KK(I:ax X z Y H s):∀(n:Nat) (t:Tr) {A:bS},t.dep<=n->A.units+n < cLine->t.In->t.isL=ν->∀{u:Tr} {x y:V},u.In->u.isL=ν->aS H t x []->aS H u y []->∀a b,aK x a->aK y b->EqAt A s a b (gV t u):=by
 intro n;induction n with
 |zero=>
  intro t A k J i L u x y d g j h a b R r;cases t with
  |tp l=>rwa[absurd k (by show ¬l.dep+1<=0;omega)]
  |nil |cons _ _=>cases L
  |lf v=>
   let⟨rfl,_⟩:=j;cases u with
   |nil |cons _ _=>cases g
   |lf w=>let⟨rfl,_⟩:=h;rwa[Im i d R r]
   |tp m=>
    let⟨_,B,M,rfl,o,_⟩:=h;cases r;let⟨W,N,C,_⟩:=I.tuple (aF.of (K:=X.K) o);rw[zf (λc=>by cases c)];cases x<;>first |cases i |skip
    .let⟨T,rfl⟩:=R;rwa[EqAt.int_tuple _ _ C N09]
    .let⟨T,rfl⟩:=R;rwa[EqAt.str_tuple _ _ C NO]
 |succ n D=>
  intro t A k J i L u x y d g j h a b R r;cases t with
  |nil |cons _ _=>cases L
  |lf v=>rwa[D (.lf v) (OA _) NO i L d g j h a b R r]
  |tp l=>
   let⟨E,p,O,rfl,q,F⟩:=j;cases R;let⟨ia,Q,G,_⟩:=I.tuple (aF.of (K:=X.K) q);cases u with
   |nil |cons _ _=>cases g
   |lf w=>
    let⟨rfl,_⟩:=h;rw[zf (λc=>by cases c)];cases y<;>first |cases d |skip
    .let⟨T,rfl⟩:=r;rwa[Wc _ _ G NO]
    .let⟨T,rfl⟩:=r;rwa[EqAt.tuple_str _ _ G NO]
   |tp m=>
    let f:=id h;let⟨S,B,M,rfl,o,U⟩:=h;cases r;by_cases e:p=B
    .subst e;rw[zq$ Xo (H:=H) (t:=.tp l) (u:=.tp m) (x:=.ref p) (xs:=[]) #[E,p,O,Z,q,F] f Z i d];rwa[EqAt.same _]
    .rwa[Wu e$ IV I n D (by let:l.dep+1<=n+1:=k;omega) N09 i d E S q o F U]
inductive IP(d:Nat)(x y:V)(H:Hp)(Q:VK):Prop
 |mk(l m:Tr)(_:l.dep < d)(_:l.In)(_:m.In)(_:aS H (.tp l) x [])(_:aS H (.tp m) y [])(_:Q (.bl (gV (.tp l) (.tp m))) H)
def Xp{d:Nat}(c:X.A.units+d+1 < cLine):fq X (compareOp .Eq) (IP d):=by intro p s n H x y v u Q I r R h;obtain⟨l,m,o,i,e,⟨f,a,z,rfl,g,t⟩,⟨j,b,B,rfl,k,T⟩,q⟩:=h;cases r;cases R;rwa[IV I d (KK I d) NO c i e f j g k t T X.prog X.w _ _ #[.bl _,H,I,Z,q]]
end
abbrev FQ:bU:=bX 27
abbrev FR:bU:=bX 32
def eG{w:V}:eV (v::u::w::y) 2=δ w:=jH (j:=2) Z
def Hr{w:V}:eV (v::u::w::z::y) 3=δ z:=jH (j:=3) Z
def AF{X:xL V}{i:Nat}{x:V}(h:X[i]?=δ x):X.drop i=x::X.drop (i+1):=by let⟨H,e⟩:=ξ.mp h;rw[<- e,RJ]
def zO(h:gW H f i s a u)(k:aj H b):gW b f i s a u:=by let⟨c,g,e,S,E,d,j,l,m⟩:=h;exact#[c,g,e,S,E,k _ _ d,k _ _ j,k _ _ l,m.mono k]
def cj:Sk->Tr
 | .rd c _=>ay [aM "read",ar c]
 | .cl f I _ _=>ay [aM "call",aM f,ay (I.map ar)]
 | .wr c i=>ay [aM "write",ar c,ar i]
 | .ask b=>ay [aM "ask",ar b]
 |_=>.nil
def Xq{call:oy}{w:Sk}(h:gZ M call C k L t e= .ok w i j):cj w=lS k e:=by
 let b:=CY h;cases e with
 |ask d T=>rw[YY b]at h;cases h;rfl
 |st p l=>
  cases l with
  |gv d T |st x d T=>unfold gZ at h;rw[OB b]at h;cases h
  |rd x d T=>rw[vA b]at h;cases h;rfl
  |wr d u T U=>rw[vC b]at h;cases h;rfl
  |cl x f q g=>
   rw[qP b]at h;cases e:call f (g.map λc=>c.2.ev k) L (t+1) with
   |long |deep=>rw[e]at h;cases h
   |ok s a _L m=>rw[e]at h;cases h;show ay [_,_,ay ((g.map λc=>c.2.ev k).map ar)]=_;rw[Rk];rfl
inductive mj(b:xL V)(H:Hp)(Q:VK)(a:XK):Prop
 |mk(u:V)(w:Sk)(_:b=[u])(_:dS H w u [])(_:w.ok ν)(_:∀(v:V) (H':Hp),aS H' (cj w) v []->aa H H'->Q v H')
inductive n8(j:xL V)(H:Hp)(Q:VK)(b:XK):Prop
 |mk(f:ρ)(d:xL Int)(s:Sk)(a:Int)(c g e:ζ)(i:xL V)(k:Nat)(_:j=[.ref c,.int (k:Int)])(_:H c=δ (.tup [.str f,.ref g,.ref e,.int a]))(_:H e=δ (.tup i))(_:(∃(p h:ζ) (n:Int) (hs:xL Int) (u:V),i[k]?=↑p/\H p=δ (.tup [.int n,.ref h,u])/\H h=δ (.tup (hs.map vr))/\∀(v:V) (H':Hp),aS H' (ay [aM "go",ar n,ay (hs.map ar)]) v []->aa H H'->Q v H')∨(k=ο i/\∀(v:V) (H':Hp),aS H' (ay [aM "give",ar a]) v []->aa H H'->Q v H'))
def IY:am ["what"] ["what"] (ae FQ):=bV
def ES(F:xD K "deed_in" FQ f B):⇑1 f B ["what"] mj:=by
 erw[F.ok IY λC A o s H V Q E l h=>?_]
 let⟨u,w,rfl,m,t,q⟩:=h;erw[#[_,(jd (jy (jZ$ jv$ pv 0) (jg$ jo$ jJ kc (pv 0) jT$ jG jf) jp)$ jd (jy (jZ$ jv$ pv 0) (jg$ jo$ jw jU (ji$ ja jm jb)$ jJ kc (jv$ pv 0) jT$ jG jf) jp)$ jg$ jo$ pv 0),?_]];cases w with
 |nil |st=>rwa[t.elim]
 |ask b=>let⟨p,rfl,d⟩:=m;erw[ah λk i=>(jr d Z #[Z,_,Z,aV NM$ i _ _ ?_])];erw[ah λk i=>(jr d Z #[Z,_,Z,aV NM$ i _ _ ?_])];exact#[_,Z,q _ _ (jD d$ jl Z jS$ jl Z jV jB)$ aa.refl _]
 |wr b D=>let⟨p,rfl,d⟩:=m;erw[ah λk i=>(jr d Z #[Z,_,Z,aV NM$ i _ _ ?_])];erw[ah λk i=>(jr d Z #[Z,_,Z,aV NM$ i _ _ ?_])];exact#[_,Z,q _ _ (jD d$ jl Z jS$ jl Z jV$ jl Z jV jB)$ aa.refl _]
 |rd b D=>let⟨p,rfl,d⟩:=m;erw[ah λk i=>(jr d Z #[Z,_,Z,cq NM #[_,Z,_,Z,p,_,Z,d,λr y l S=>q _ _ ?_ S]])];let l:y r=δ (.tup [.str "read",.int b]):=l;rwa[jD l$ jl Z jS$ jl Z jV jB]
 |cl f R s a=>let⟨p,c,g,e,T,rfl,d,G,I,U,W⟩:=m;erw[ah λk i=>(jr d Z #[Z,_,Z,aV NM$ i _ _ ?_])];erw[ah λk i=>(jr d Z #[Z,_,Z,cq NM #[iT,λJ n=>(jr (aq d n) iB #[_,Z,c,_,Z,aq G n,λL y v S=>#[J,L,_,_,Z,Z,S _ _ jc,v,gU,λM N j z=>q _ _ ?_ (((je n).trans S).trans z)]])]])];let j:N M=δ (.tup [.str "call",.str f,.ref g]):=j;rwa[jD j$ jl Z jS$ jl Z jS$ jl Z (kX$ z _ _$ S _ _$ aq I n) jB]
def IZ:am ["chain","number"] ["chain","number"] (ae FR):=bV
def ET(F:xD K "goal_at" FR f x)(M:mg "len"=θ):⇑1 f x ["chain","number"] n8:=by
 erw[F.ok IZ λC A o s H V Q E U h=>?_]
 let⟨f,I,s,a,c,g,e,y,k,rfl,d,l,q⟩:=h;erw[#[_,(jd (jy (jz qr (pv 1) (jO jL Z M Pm$ ja (jv$ pv 0) jb)$ aD _) (jg$ jo$ ji$ ja jm$ ja (jv$ pv 0) jb) jp)$ jg$ jo$ jw jU (ji$ ja jm jb)$ jJ kc (jq jE (jv$ pv 0) (pv 1) ∅) jT$ jG jf),?_]];let B:=aN;erw[ah λX m=>#[_,Z,jr d eG #[e,_,Z,.inr$ aF.of l,Z,_,Z,?_]]];rcases q with ⟨p,h,n,Y,u,r,D,G,q⟩ | ⟨J,q⟩
 .let L:=(ξ.mp r).1;refine aV (Oz λz=>?_)$ m _ _ ?_
  .injection z with z;omega
  erw[#[iT,λt N=>(jr (aq d N) eG #[_,Z,e,_,_,_,Z,Z,aF.of$ aq l N,jH r,_,Z,p,_,Z,aq D N,λO H1 i S=>#[t,O,_,_,Z,Z,S _ _ jc,i,gU,λR T b v=>q _ _ ?_ (((je N).trans S).trans v)]])]];let b:T R=δ (.tup [.str "go",.int n,.ref h]):=b;rwa[jD b$ jl Z jS$ jl Z jV$ jl Z (kX$ v _ _$ S _ _$ aq G N) jB]
 .subst J;erw[cq (OE Z)$ jr d Hr #[ci,λt N=>q _ _ (jD jc$ jl Z jS$ jl Z jV jB) (je N)]]
abbrev B0:bU:=bX 7
abbrev Ca:bU:=bX 8
abbrev BV:bU:=bX 9
abbrev aO:=xL Int
abbrev aQ:=Int×xL Int×Sk
abbrev RA(a:Type):=Hp->V->a->Prop
def bg{a:Type}(R:RA a)(H:Hp):xL a->xL V->Prop
 | [],v=>v=[]
 |w::W,v=>∃x r,v=x::r/\R H x w/\bg R H W r
def LH{a:Type}(R:RA a):Prop:=∀(H h:Hp) (x:V) (w:a),aj H h->R H x w->R h x w
section
variable {α:Type}{R:RA α}
theorem bg.mono(a:LH R)(k:aj H b):∀{W:xL α} {v:xL V},bg R H W v->bg R b W v
 | [],_,h=>h
 |_::_,_,z=>by let⟨x,r,e,c,d⟩:=z;rwa[#[x,r,e,a _ _ _ _ k c,bg.mono a k d]]
theorem bg.app(a:bg R H b y):∀{W:xL α} {v:xL V},bg R H W v->bg R H (W++b) (v++y)
 | [],_,h=>by let e:_=[]:=h;rw[e];rwa[a]
 |_::_,_,z=>by let⟨x,r,e,c,d⟩:=z;rwa[#[x,r++y,by rw[e];rfl,c,bg.app a d]]
theorem bg.len:∀{W:xL α} {v:xL V},bg R H W v->ο v=ο W
 | [],_,h=>by let e:_=[]:=h;rw[e];rfl
 |_::_,_,z=>by let⟨x,r,e,b,a⟩:=z;rw[e];rwa[PL (·+1) (bg.len a)]
theorem bg.at:∀{W:xL α} {v:xL V},bg R H W v->∀{i:Nat} {x:V},v[i]?=δ x->∃w,W[i]?=δ w/\R H x w
 | [],_,h,i,x,a=>by let e:_=[]:=h;rw[e]at a;simp at a
 |w::_,_,q,0,x,a=>by let⟨y,r,e,b,c⟩:=q;rw[e]at a;cases a;exact#[w,Z,b]
 |w::W,_,q,i+1,x,a=>by let⟨y,r,e,b,c⟩:=q;rw[e]at a;rwa[bg.at c (i:=i) (a:)]
def bg.one{w:α}(h:R H x w):bg R H [w] [x]:=#[x,[],Z,h,Z]
theorem bg.map{a:Type}{S:RA a}{g:α->a}{f:V->V}(h:∀x w,R H x w->S H (f x) (g w)):∀{W:xL α} {v:xL V},bg R H W v->bg S H (W.map g) (v.map f)
 | [],_,e=>by let e:_=[]:=e;rw[e];rfl
 |_::_,_,z=>by let⟨x,r,e,b,c⟩:=z;rwa[#[f x,r.map f,by rw[e];rfl,h _ _ b,bg.map h c]]
end
def em:RA aO:=λH x p=>∃a,x= .ref a/\H a=δ (.tup$ p.map vr)
def bG:LH em:=λ_ _ _ _ k #[a,e,h]=>#[a,e,k _ _ h]
def Hn:RA (aO×Sk):=λH x w=>∃q p u,x= .ref q/\H q=δ (.tup [.ref p,u])/\H p=δ (.tup$ w.1.map vr)/\dS H w.2 u []
def pZ:LH Hn:=λ_ _ _ _ k #[q,p,u,e,h,H,a]=>#[q,p,u,e,k _ _ h,k _ _ H,a.mono k]
def Sk.steps:Sk->xL aQ
 | .st n h w r=>(n,h,w)::r.steps
 |_=>[]
def Sk.ws:Sk->aO->Nat->xL (aO×Sk)
 | .st _ _ w r,p,k=>((p++[(k:Int)],w)::w.ws (p++[(k:Int)]) 0)++r.ws p (k+1)
 | .cl _ _ s _,p,_=>s.ws p 0
 |_,_,_=>[]
def lY:xL aQ->aO->Nat->xL (aO×Sk)
 | [],_,_=>[]
 |s::r,p,k=>((p++[(k:Int)],s.2.2)::s.2.2.ws (p++[(k:Int)]) 0)++lY r p (k+1)
theorem JP:∀{s:Sk},s.ok μ->∀p k,s.ws p k=lY s.steps p k
 | .nil,_,_,_=>rfl
 | .st _ _ w r,o,p,k=>by show _++r.ws p (k+1)=_++lY r.steps p (k+1);rw[JP o.2]
theorem Jl:∀(a b:xL aQ) (p:aO) (k:Nat),lY (a++b) p k=lY a p k++lY b p (k+ο a)
 | [],_,_,_=>rfl
 |s::a,b,p,k=>by show _++lY (a++b) p (k+1)=(_++lY a p (k+1))++lY b p (k+(ο a+1));rw[Jl a b,Pb,show k+1+ο a=k+(ο a+1) by omega]
theorem kY:∀{b:Bool} {s:Sk},s.ok b->∀(p:aO) (k:Nat),(s.ws p k).length=s.size
 |true,.nil,_,_,_=>rfl
 |true,.st _ _ w r,o,p,k=>by let h:=kY (b:=ν) (s:=w) o.1 (p++[(k:Int)]) 0;let H:=kY (b:=μ) (s:=r) o.2 p (k+1);show(((p++[(k:Int)],w)::w.ws (p++[(k:Int)]) 0)++r.ws p (k+1)).length=w.size+r.size+1;rw[Ot,O1,h,H];omega
 |false,.cl _ _ s _,o,p,_=>kY (b:=μ) (s:=s) o p 0
 |false,.ask _,_,_,_ |false,.rd _ _,_,_,_ |false,.wr _ _,_,_,_=>rfl
def yX(a:xL aQ)(i:Nat)(p:aO)(k:Nat):(lY (a.take i) p k).length<=(lY a p k).length:=by let:=PL rz (Jl (a.take i) (a.drop i) p k);rw[TK,Ot]at this;omega
inductive zVr(H:Hp)(s:Sk)(i:Nat)(x:V):Prop|mk(n b w p h u:_)(_:s.steps[i]?=δ (n,b,w))(_:w.ok ν)(_:w.dep<=s.dep)(_:w.size+1<=s.size)(_:x= .ref p)(_:H p=δ (.tup [.int n,.ref h,u]))(_:H h=δ (.tup$ b.map vr))(_:dS H w u [])
theorem zV:∀{s:Sk} {S:xL V},s.ok μ->dS H s .non S->∀{i:Nat} {x:V},S[i]?=δ x->zVr H s i x
 | .nil,_,_,e,i,x,a=>by let e:_=[]:=e;rw[e]at a;simp at a
 | .st n b w r,_,o,q,0,x,a=>by let⟨p,h,u,y,e,d,f,g,j⟩:=q;rw[e]at a;cases a;exact#[n,b,w,p,h,u,Z,o.1,SK _ _,by show w.size+1<=w.size+r.size+1;omega,Z,d,f,g]
 | .st n b w r,_,o,q,i+1,x,a=>by let⟨p,h,u,y,e,d,f,g,j⟩:=q;rw[e]at a;let⟨N,c,W,k,l,U,t,T,m,z,v,A,B,C⟩:=zV o.2 j (i:=i) (x:=x) (a:);exact#[N,c,W,k,l,U,t,T,OK m$ Sx _ _,by show W.size+1<=w.size+r.size+1;omega,v,A,B,C]
theorem zc:∀{s:Sk} {S:xL V},s.ok μ->dS H s .non S->ο S=ο s.steps
 | .nil,_,_,e=>by let e:_=[]:=e;rw[e];rfl
 | .st n b w r,_,o,z=>by let⟨p,h,u,y,e,c,d,f,a⟩:=z;rw[e];rwa[PL (·+1) (zc o.2 a)]
def sL(p:aO)(k:Nat):p.map vr++[vr (k:Int)]=(p++[(k:Int)]).map vr:=by rw[OU];rfl
inductive om(n:Nat)(d:xL V)(H:Hp)(Q:VK)(a:XK):Prop
 |mk(b:ζ)(c:aO)(w:Sk)(u:V)(_:d=[.ref b,u])(_:H b=δ (.tup (c.map vr)))(_:ο c+n<=100)(_:dS H w u [])(_:w.ok ν)(_:w.dep < n)(_:w.size<=1000)(_:∀(r:ζ) (xs:xL V) (H':Hp),H r=θ->H' r=δ (.lst xs)->bg Hn H' ((c,w)::w.ws c 0) xs->aa H H'->Q (.ref r) H')
inductive lP(n:Nat)(g:xL V)(H:Hp)(Q:VK)(b:XK):Prop
 |mk(d:ζ)(e:aO)(f:ρ)(c:xL Int)(s:Sk)(a:Int)(u:V)(_:g=[.ref d,u])(_:H d=δ (.tup (e.map vr)))(_:ο e+n+1<=100)(_:gW H f c s a u)(_:s.ok μ)(_:s.dep < n)(_:s.size<=1000)(_:∀(r:ζ) (xs:xL V) (H':Hp),H r=θ->H' r=δ (.lst xs)->bg Hn H' (s.ws e 0) xs->aa H H'->Q (.ref r) H')
inductive M9(h k:ζ)(j:aO)(u:V)(s:Sk)(H:Hp)(i:Nat)(m:_L.St)(a:Hp):Prop
 |mk(f g:ym V)(l:xL V)(b:m=[↑h,δ u,↑k,f,g])(c:a k=δ (.lst l))(d:bg Hn a (lY (s.steps.take i) j 0) l)(e:aa H a)
def c7(p:aO)(w:Sk):xL aO:=p::(w.ws p 0).map (·.1)
def KY{w:Sk}(o:w.ok ν)(p:aO):(c7 p w).length=w.size+1:=by unfold c7;rw[O1,Oq,kY o]
inductive oj(n:Nat)(d:xL V)(H:Hp)(Q:VK)(a:XK):Prop
 |mk(b:ζ)(c:aO)(w:Sk)(u:V)(_:d=[.ref b,u])(_:H b=δ (.tup (c.map vr)))(_:ο c+n<=100)(_:dS H w u [])(_:w.ok ν)(_:w.dep < n)(_:w.size<=1000)(_:∀(r:ζ) (xs:xL V) (H':Hp),H r=θ->H' r=δ (.lst xs)->bg em H' (c7 c w) xs->aa H H'->Q (.ref r) H')
def sW(H:Hp):V->V
 | .ref q=>match H q with
  |some (.tup (x::_))=>x
  |_=>.non
 |_=>.non
def Js(l:xL V):(dw l.length).map (λi=>(l[i]?).getD .non)=l:=by erw[Uk NN λi H h=>?_];simp [On h]
def C8{H:Hp}(h:H q=δ (.tup [.ref p,u])):sW H (.ref q)= .ref p:=by show(match H q with |some (.tup (x::_))=>x |_=>V.non)=_;rw[h]
def Dx:am ["path","what","within"] z9z (ae B0):=bV
def wW{n:Nat}(F:xD K "whats_at" B0 f fd)(cI:‹2*n+2› fI f0 ["path","chain"] (lP n) "whats_in"):⇑(2*n+3) f fd z9z (om$ n+1):=by
 erw[F.ok Dx λc0 A O s H vs Q E hr h=>?_]
 let⟨j,v,w,u,rfl,U,h0,D,k,W,hz,q⟩:=h;erw[#[_,(jd (jA 2 Dx.nd$ kL (jZ$ jv$ pv 1) (cI.e hr.m$ ja (pv 0)$ ja (jv$ pv 1) jb)$ jF jb)$ jg$ jo$ jw zT (jF$ ja (ji$ ja (pv 0)$ ja (pv 1) jb) jb)$ pv 2),?_]];let b0:=aN;let fl:=kY k v 0;erw[ah λF1 G=>?_];suffices X:∀(l:ζ) (x:xL V) (d:Hp),d l=δ (.lst x)->bg Hn d (w.ws v 0) x->aa H d->F1 [↑j,δ u,↑l] d by
  cases w with
  |nil |st=>rwa[k.elim]
  |ask b |rd c i |wr c i=>let⟨p,rfl,y⟩:=D;exact(jr y Z #[Z,_,Z,aV NM #[gR,λl Y=>X l [] _ jc Z (je Y)]])
  |cl f is s a=>let⟨p,c,g,e,ss,rfl,y,h2,h3,h4,h5⟩:=D;let W:s.dep+1 < n+1:=W;exact(jr y Z #[Z,_,Z,cq NM #[_,Z,jr y Z #[j,v,f,is,s,a,.ref c,Z,U,N09,#[c,g,e,ss,Z,h2,h3,h4,h5],k,NO,hz,λl x d Y I B S=>X l x d I B S]]])
 intro l x d I B S;erw[G _ _ ?_];let lx:=B.len;erw[#[_,Z,_,Z,ci,λt J=>#[iT,λL N=>#[_,Z,L,l,_,_,Z,Z,jc,aq (aq I J) N,by show 1+ο x<=_;omega,λr M=>?_]]]];let C:aa d (af (af (af d t$ .tup [.ref j,u]) L$ .lst [.ref t]) r$ .lst ([.ref t]++x)):=((je J).trans$ je N).trans (je M);let ht:af (af (af d t$ .tup [.ref j,u]) L$ .lst [.ref t]) r (.lst ([.ref t]++x)) t=δ (.tup [.ref j,u]):=aq (aq jc N) M;let R:H r=θ:=by
  cases z:H r with
  |none=>rfl
  |some o=>have:=((je (o:=.lst [.ref t]) N) _ _ ((je (o:=.tup [.ref j,u]) J) _ _ (S _ _ z)));rw[M]at this;cases this
 rwa[q r _ _ R jc #[.ref t,x,Z,#[t,j,u,Z,ht,C _ _$ S _ _ U,D.mono$ aa.tm$ S.trans C],B.mono pZ$ aa.tm C] (S.trans C)]
def rP:am ["path","chain","told","number","step"] ["path","chain"] (ae Ca):=bV
def Fh(F:xD K "whats_in" Ca f fd)(cA:‹2*n+1› fA f2 z9z (om n) "whats_at")(U:mg "enumerate"=θ):⇑(2*n+2) f fd ["path","chain"] (lP n):=by
 erw[F.ok rP λc0 A V s H vs Q E Y h=>?_]
 let⟨pa,k,f,is,s,a,u,rfl,hp,h6,hc,d,hd,hz,q⟩:=h;erw[#[_,(jd (jA 2 rP.nd$ jF jb)$ jd (km O8 Z (KS Z U$ ja (jv$ pv 1) jb) (zR (n:=2) Z$ jC (jx (i:=3) rP.nd Z$ ω Z)$ jC (jx (i:=4) rP.nd Z$ ω Z) kB)$ jg$ jN$ j9 OF Rg Rc z9 (pv 2)$ ja (cA.e Y.m$ ja (jw jU (pv 0)$ ji$ ja (pv 3) jb)$ ja (jv$ pv 4) jb) jb)$ jg$ jo$ pv 2),?_]];let b0:=aN;let⟨c,g,e,ss,rfl,h1,h2,h3,h4⟩:=hc;let fl:=kY d k 0;rw[JP d]at fl;let lt:=zc d h4;erw[ah λF1 v=>#[gR,λT N=>v _ _ ?_]];let s1:aa H (af H T$ .lst []):=je N;erw[ah λF1 v=>fQ λJ j=>(jr (s1 _ _ h1) Z #[e,Z,#[_,aF.of$ s1 _ _ h3],j _ _ ?_])];erw[Jb (K:=K) (xs:=ss) (M9 pa T k (.ref c) s H) #[θ,θ,[],Z,jc,Z,s1] (λi σ Hx _ h=>?_) ?_ (λσ Hx h=>v _ _ ?_)]
 .let⟨_,_,_,_,_,_,y⟩:=h;rwa[aF.of$ y _ _ h3]
 .intro E hE i x B σ O hx np f0 Gq l h;let⟨o3,o4,xs,rfl,R,W,y⟩:=h;let C:aa O (af O B$ .tup [.int i,x]):=je np;let e8:af O B (.tup [.int i,x]) B=δ (.tup [.int i,x]):=jc;erw[l ?_];generalize af O B (.tup [.int i,x])=H8 at C e8 ⊢;let S8:=y.trans C;let⟨n1,D,w,p,hh,u,ht,o1,d0,s2,rfl,h0,h7,hw⟩:=zV d (h4.mono$ aa.tm S8) hx;erw[#[B,_,Z,aF.of e8,Z,_,_,Z,_,_,Z,Z,?_]];erw[#[_,Z,.inl #[Z,_,aL.of$ C _ _ R],_,Z,_,Z,iT,λt nt=>#[pa,t,_,_,Z,Z,aq (S8 _ _ hp) nt,jc,by rw[Oq];show _+1<=_;omega,λr9 H9 e9 s9=>?_]]];let S9:=(je (o:=.tup [.int i]) nt).trans s9;rw[sL]at e9;erw[(jr (S9 _ _ h0) Z #[r9,_,w,u,Z,e9,by rw[Ot];show _+1+_<=_;omega,hw.mono$ aa.tm S9,o1,NO,NO,λr X G nr Y I s0=>?_])];let S:=S9.trans s0;let L:=S _ _ (C _ _ R);let lx:=W.len;let l0:=I.len;let bl:=yX s.steps (i+1) k 0;let h5:i < ο s.steps:=(ξ.mp ht).1;let et:s.steps.take (i+1)=s.steps.take i++[(n1,D,w)]:=by rw[PQ,ht];rfl
  let eb:lY [(n1,D,w)] k (0+(s.steps.take i).length)=(k++[(i:Int)],w)::w.ws (k++[(i:Int)]) 0:=by rw[OZ,Rz$ RE h5,Ss];show(_::_)++[]=_;rw[O2]
  rw[fl,et,Jl,eb]at bl;rw[Ot]at bl;let M:aj G (af G T$ .lst$ xs++X):=λb ys e=>by rw[jh$ jM e L BT];rwa[e]
  erw[#[T,r,_,_,Z,Z,L,Y,NO,f0 _ _ #[_,_,xs++X,Z,jc,?_,λb o e=>?_]]]
  .rw[et,Jl,eb];exact(I.mono pZ M).app ((W.mono pZ$ aa.tm$ C.trans S).mono pZ M)
  .rw[jh$ jk e N];rwa[S _ _$ S8 _ _ e]
 .let⟨o3,o4,xs,rfl,R,W,y⟩:=h;rw[lt,Pg,<- JP d]at W;exact#[_,Z,q T xs Hx N R W y]
def EH:⇑k f c ["path","chain"] (lP 0):=by
 let n:∀v H Q E,¬lP 0 v H Q E:=λv H Q E h=>by let⟨p,d,f,i,s,a,u,_,_,_,_,_,z,_⟩:=h;omega
 exact#[λv H Q E h=>absurd h (n v H Q E),λA o s H b U v Q E _ _ _ _ h=>absurd h (n v H Q E)]
theorem Lz(F:xD K "whats_at" B0 g a)(B:aE K a z9z [])(M:mg "whats_at"=↑g)(b:xD K "whats_in" Ca c f)(d:aE K f ["path","chain"] [])(e:mg "whats_in"=↑c)(m:mg "enumerate"=θ):∀n,⇑(2*n+2) c f ["path","chain"] (lP n)
 |0=>EH
 |n+1=>by let h:=Lz F B M b d e m n;let H:=wW F #[h,d,b.kp,e];rwa[Fh b #[H,B,F.kp,M] m]
def I9:am z9z z9z (ae BV):=bV
def uD:ic:=#[.function,[(".0",.local),("one",.local),("done",.local)],ν,ν,[]]
def wG:(["one","done"]:xL ρ).Nodup:=NM
def D3:bn z9z (ae BV) uD ["one","done"] 2 []:=oQ
def Fb{n:Nat}(F:xD K "paths_at" BV f I)(J:‹2*n+3› fA L z9z (om$ n+1) "whats_at"):⇑(2*n+4) f I z9z (oj$ n+1):=by
 erw[F.ok I9 λM A O s H vs Q E R h=>?_]
 let⟨y,p,w,u,rfl,T,j,V,b,W,Y,q⟩:=h;erw[#[_,(jg$ jo$ @zk _ _ _ _ _ _ _ (["one","done"]) (2) ([]) _ _ _ _ Z (zr$ J.e R.m$ ja (pv 0)$ ja (pv 1) jb) D3 (λ_ _ _ _ _=>Z9 (K:=K) (n:=2) Z Z (jC (jx (i:=0) wG Z$ ω Z)$ jC (jx (i:=1) wG Z$ ω Z) kB) Z Z) (λ_ _ _ _ _=>(@zF _)) (λ_ _ _ _ _=>(pv 0)) Cv),?_]];let b0:=aN;let fl:=kY b p 0;erw[#[_,Z,_,Z,y,p,w,u,Z,T,j,V,b,W,Y,λr X a nr c k C=>?_]];let lx:=k.len;rw[O1,fl]at lx;let lm:(X.map$ sW a).length=ο X:=Oq _;erw[#[r,Z,#[_,aL.of c],YL (λi=>((X.map$ sW a)[i]?).getD .non) NO (aL.of c) (λi x D=>?_) λl N=>q l (X.map$ sW a) _ ?_ ?_ ?_ (C.trans$ je N)]]
 .obtain⟨⟨p',w'⟩,_,t,v,U,rfl,g,G,g3⟩:=k.at D;erw[#[t,.ref v,U,Z,aF.of g,λQ d=>#[_,Z,?_]]];rw[OL,D]at d;let d:Q (sW a$ .ref t) a:=d;rw[C8 g]at d;rwa[d]
 .cases z:H l with
  |none=>rfl
  |some o=>rw[C _ _ z]at N;cases N
 .rw[jc,<- lm,Js]
 .let e:c7 p w=((p,w)::w.ws p 0).map (·.1):=rfl;rw[e];exact(bg.map (S:=em) (f:=sW a) (λx w #[t,v,U,e0,g,G,g3]=>by subst e0;rw[C8 g];exact#[v,Z,G]) k).mono bG (aa.tm$ je N)
abbrev xP:bU:=bX 34
abbrev xO:bU:=bX 35
def nL(h:bY k A):A.units+10+1 < cLine:=by let:=h.un;omega
theorem qF:∀{I J:xL Int},aC (I.map ar)=aC (J.map ar)->I=J
 | [],[],_=>rfl
 | [],_::_,e |_::_,[],e=>by cases e
 |i::I,j::J,e=>by let e:Tr.cons (ar i) (aC$ I.map ar)= .cons (ar j) (aC$ J.map ar):=e;injection e with E a;injection E with E;injection E with E;rw[E,qF a]
theorem zd:∀i:xL Int,(aC$ i.map ar).In
 | []=>trivial
 |_::i=>#[Z,zd i]
def Xr(n:Int)(h:xL Int):(aC [ar n,ay$ h.map ar]).In:=#[Z,zd h,trivial]
def pI(n:Int)(H:xL Int):(aC [ar n,ay$ H.map ar]).dep < 10:=by let h:=ze H;show max 0 (max ((aC$ H.map ar).dep+1) 0) < 10;omega
def sV(P:aQ->Bool):Nat->xL aQ->ym Nat
 |_,[]=>θ
 |k,s::r=>if P s=μ then δ k else sV P (k+1) r
def lT(P:aQ->Bool)(os:xL aQ)(m:Nat):ym Nat:=sV P m (os.drop m)
def Y0{P:aQ->Bool}{os:xL aQ}(h:os[m]?=δ s):lT P os m=if P s=μ then δ m else lT P os (m+1):=by let⟨H,e⟩:=ξ.mp h;unfold lT;rw[<- RJ (h:=H),e];rfl
def pP{P:aQ->Bool}{os:xL aQ}(h:ο os<=m):lT P os m=θ:=by unfold lT;rw[U6 h];rfl
theorem pQ{P:aQ->Bool}:∀{os:xL aQ} {k j:Nat},sV P k os=δ j->∃i s,j=k+i/\os[i]?=δ s/\P s=μ
 | [],_,_,h=>nomatch h
 |s::r,k,j,h=>by
  let h:(if P s=μ then δ k else sV P (k+1) r)=δ j:=h;by_cases H:P s=μ
  .rw[OB H]at h;cases h;exact#[0,s,Z,Z,H]
  .rw[OD H]at h;let⟨i,S,e,a,b⟩:=pQ h;exact#[i+1,S,NO,by simpa using a,b]
def Jm{P:aQ->Bool}{os:xL aQ}(h:lT P os m=δ j):m<=j/\∃s,os[j]?=δ s/\P s=μ:=by let⟨i,s,e,H,a⟩:=pQ h;rw[T8]at H;exact#[NO,s,by rw[e];rwa[H],a]
def i9:ym Nat->V
 |some j=>.int (j:Int)
 |none=>.non
def aW(n:Int)(h:xL Int)(s:aQ):Bool:=decide (s.1=n/\s.2.1=h)
def dh(f:ρ)(i:xL Int)(s:aQ):Bool:=match s.2.2 with
 | .cl g j _ _=>decide (g=f/\j=i)
 |_=>ν
def f8(os:xL aQ)(m:Nat):Sk->ym Nat
 | .cl f i _ _=>lT (dh f i) os m
 |_=>θ
def fi(os:xL aQ)(m:Nat)(n:Int)(h:xL Int)(w:Sk):ym Nat:=match lT (aW n h) os m with
 |some j=>δ j
 |none=>f8 os m w
def AC{H h:xL Int}(e:ay [ar n,ay$ H.map ar]=ay [ar N,ay$ h.map ar]):n=N/\H=h:=by let e:Tr.tp (.cons (ar n)$ .cons (ay$ H.map ar) .nil)= .tp (.cons (ar N)$ .cons (ay$ h.map ar) .nil):=e;injection e with e;injection e with a A;injection A with b _;injection a with a;injection a with a;let b:Tr.tp (aC$ H.map ar)= .tp (aC$ h.map ar):=b;injection b with b;exact#[a,qF b]
def ww{a H:xL Int}{w:Sk}:gV (ay [ar N,ay$ H.map ar]) (ay [ar n,ay$ a.map ar])=aW n a (N,H,w):=by
 by_cases h:N=n/\H=a
 .rw[h.1,h.2,zq Z];exact(OE #[Z,Z]).symm
 .rw[zf λe=>h (AC e)];exact(Oz h).symm
def Jx{i j:xL Int}(e:ay [aM "call",aM g,ay$ j.map ar]=ay [aM "call",aM f,ay$ i.map ar]):g=f/\j=i:=by let e:Tr.tp (.cons (aM "call")$ .cons (aM g)$ .cons (ay$ j.map ar) .nil)= .tp (.cons (aM "call")$ .cons (aM f)$ .cons (ay$ i.map ar) .nil):=e;injection e with e;injection e with _ e;injection e with a A;injection A with b _;injection a with a;injection a with a;let b:Tr.tp (aC$ j.map ar)= .tp (aC$ i.map ar):=b;injection b with b;exact#[a,qF b]
def qh(e:ay (aM a::x)=ay (aM b::y)):a=b:=by let e:Tr.tp (.cons (aM a)$ aC x)= .tp (.cons (aM b)$ aC y):=e;injection e with e;injection e with e _;injection e with e;injection e
def Er{n':Int}{hs':xL Int}{w:Sk}(o:w.ok ν):gV (cj w) (cj$ .cl f i s a)=dh f i (n',hs',w):=by
 cases w with
 |nil |st _ _ _ _=>rwa[o.elim]
 |ask b |rd b c |wr b c=>show gV (ay _) (ay _)=_;rw[zf λe=>absurd (qh e) NP];rfl
 |cl g j S A=>
  by_cases h:g=f/\j=i
  .rw[h.1,h.2];show gV (ay _) (ay _)=_;rw[zq Z];exact(OE #[Z,Z]).symm
  .show gV (ay _) (ay _)=_;rw[zf λe=>h (Jx e)];exact(Oz h).symm
def pJ{w:Sk}(o:w.ok ν):∃l,cj w= .tp l/\l.dep < 10/\l.In/\∃v t,l= .cons (aM v) t/\(v="call"↔∃f i s a,w= .cl f i s a):=by
 cases w with
 |nil |st _ _ _ _=>rwa[o.elim]
 |ask b |rd b B=>exact#[_,Z,by show max 0 (max 0 0) < 10;decide,#[Z,Z,trivial],_,_,Z,λe=>absurd e NP,λ#[_,_,_,_,e]=>nomatch e]
 |wr b B=>exact#[_,Z,by show max 0 (max 0 (max 0 0)) < 10;decide,#[Z,Z,Z,trivial],_,_,Z,λe=>absurd e NP,λ#[_,_,_,_,e]=>nomatch e]
 |cl f i s a=>exact#[_,Z,by show max 0 (max 0 (max ((aC (i.map ar)).dep+1) 0)) < 10;rw[ze];decide,#[Z,Z,zd i,trivial],_,_,Z,λ_=>#[_,_,_,_,Z],λ_=>Z]
inductive lJ(f:xL V)(H:Hp)(Q:VK)(a:XK):Prop
 |mk(e:ζ)(d:xL V)(s:Sk)(m:Nat)(n:Int)(c:xL Int)(b:V)(_:f=[.ref e,.int (m:Int),b])(_:H e=δ (.tup d))(_:dS H s .non d)(_:s.ok μ)(_:s.size<=1000)(_:m<=1000)(_:aS H (ay [ar n,ay (c.map ar)]) b [])(_:∀H',aa H H'->Q (i9 (lT (aW n c) s.steps m)) H')
inductive lI(d:xL V)(H:Hp)(Q:VK)(a:XK):Prop
 |mk(e:ζ)(c:xL V)(s w:Sk)(m:Nat)(b:V)(_:d=[.ref e,.int (m:Int),b])(_:H e=δ (.tup c))(_:dS H s .non c)(_:s.ok μ)(_:s.size<=1000)(_:m<=1000)(_:aS H (cj w) b [])(_:w.ok ν)(_:∀H',aa H H'->Q (i9 (f8 s.steps m w)) H')
def yf:am ["steps","mark","cut","at"] ["steps","mark","cut"] (ae xP):=bV
def Bk(F:xD K "like_from" xP f T)(R:mg "len"=θ)(U:mg "range"=θ):⇑1 f T ["steps","mark","cut"] lJ:=by
 erw[F.ok yf λV A O s H vs Q E W h=>?_]
 let⟨e,v,s,m,n,c,C,rfl,G,g,k,Y,hm,hc,q⟩:=h;erw[#[_,(jd (km O8 Z (qL Z U$ ja (pv 1)$ ja (jO jL Z R Pm$ ja (pv 0) jb) jb) (jx (i:=3) yf.nd Z$ ω Z)$ jg$ jy (jz (Xp (d:=10)$ nL W) (jJ kc (jq jE (pv 0) (pv 3) ∅) jT$ jG jf) (pv 2)$ aD _) (jg$ jo$ pv 3) jp)$ jg$ jo$ @kl _ _ _),?_]];let b0:=aN;let l0:=zc k g;let l1:=qA k g;erw[ah λF1 f1=>fQ λJ j=>#[_,Z,_,Z,e,_,Z,.inr$ aF.of G,_,_,Z,#[NO,NO,NO,NO],j _ _ ?_]];erw[zj (λi x I=>(∃y,x=[↑e,δ$ .int (m:Int),δ C,y])/\aa H I/\lT (aW n c) s.steps m=lT (aW n c) s.steps (m+i)) #[#[_,Z],aa.refl _,Z] ?_ (λx I h=>f1 _ _ ?_)]
 .intro L rt i x H2 hi fE X l h;obtain⟨⟨y,rfl⟩,S,b⟩:=h;erw[l ?_];let e0:(m:Int)+(i:Int)=((m+i:Nat):Int):=by omega
  rw[e0];let o:m+i < ο v:=NO
  let⟨N,a,w,p,h,u,ht,o1,_,_,ex,hp,hh,_⟩:=zV k (g.mono$ aa.tm S) (On o);let B:v[m+i]?=↑p:=by rw[On o,ex]
  show lQ _ _ _ L _ _;erw[oU λG1 kT kF=>#[_,Z,_,Z,e,_,_,_,Z,Z,aF.of$ S _ _ G,jH B,_,Z,p,_,Z,hp,λq2 H1 D r=>#[_,Z,_,_,pI N a,Xr N a,Xr n c,jD D$ jl Z jV$ jl Z (kX$ r _ _ hh) jB,hc.mono$ aa.tm$ S.trans r,_,Z,?_]]];rw[show gV (.tp$ aC [ar N,ay$ a.map ar]) (.tp$ aC [ar n,ay$ c.map ar])=aW n c (N,a,w) from ww];let t:=Y0 (P:=aW n c) ht;cases M:aW n c (N,a,w) with
  |true=>erw[kT _ ?_];show iy _ L _ _;unfold iy;rw[rt];rw[OB M]at t;let z:=q _ (S.trans r);rw[b,t]at z;exact#[_,Z,z]
  |false=>rw[OD (by rw[M];intro z;cases z)]at t;rwa[kF _$ fE _ _ #[#[_,Z],S.trans r,by rw[b,t];rfl]]
 .obtain⟨⟨y,rfl⟩,S,b⟩:=h;let z:=q _ S;rw[b,pP NO]at z;rwa[z]
def ye:am ["steps","mark","deed","at"] ["steps","mark","deed"] (ae xO):=bV
def Bj(F:xD K "lender_from" xO f fd)(cI:‹1› fI f0 ["what"] mj "deed_in")(ml:mg "len"=θ)(mr:mg "range"=θ):⇑2 f fd ["steps","mark","deed"] lI:=by
 erw[F.ok ye λc0 A O s H vs Q E hr h=>?_]
 let⟨e,D,s,w,m,dv,rfl,he,c,g,h0,hm,G,L,q⟩:=h;erw[#[_,(jd (jy (jz QM (jv$ pv 2) jm$ aD _) (jg$ jo$ @kl _ _ _) jp)$ jd (km O8 Z (qL Z mr$ ja (pv 1)$ ja (jO jL Z ml Pm$ ja (pv 0) jb) jb) (jx (i:=3) ye.nd Z$ ω Z)$ jg$ jy (jz (Xp (d:=10)$ nL hr) (cI.e hr.m$ ja (jv$ jq jE (pv 0) (pv 3) ∅) jb) (pv 2)$ aD _) (jg$ jo$ pv 3) jp)$ jg$ jo$ @kl _ _ _),?_]];let b0:=aN;let l0:=zc g c;let l1:=qA g c;let⟨l,el,dl,il,v0,ts,ev,r⟩:=pJ L;rw[el]at G;let⟨_,da,ds,rfl,M,t⟩:=id G;rw[ev]at t;obtain⟨_,_,y0,y1,rfl,⟨rfl,_⟩,_⟩:=t;erw[ah λF1 y=>(jr M eJ #[Z,_,Z,?_])];by_cases B:v0="call"
 .let⟨f,I,s1,a1,rfl⟩:=r.mp B;subst B;erw[aV NM$ y _ _ ?_];erw[ah λF1 y=>fQ λJ j=>#[_,Z,_,Z,e,_,Z,.inr$ aF.of he,_,_,Z,#[NO,NO,NO,NO],j _ _ ?_]];refine zj (λi N R=>(∃T,N=[↑e,δ$ .int (m:Int),↑da,T])/\aa H R/\lT (dh f I) s.steps m=lT (dh f I) s.steps (m+i)) #[#[_,Z],aa.refl _,Z] ?_ (λN R h=>y _ _ ?_)
  .intro E2 rt i N H2 hi fE Gq n h;obtain⟨⟨T,rfl⟩,S,b⟩:=h;erw[n ?_];let e0:(m:Int)+(i:Int)=((m+i:Nat):Int):=by omega
   rw[e0];let v:m+i < ο D:=by rwa[N09]
   let⟨n',hs',w,p,h,u,ht,o,_,_,ex,hp,hh,hw⟩:=zV g (c.mono$ aa.tm S) (On v);let U:D[m+i]?=↑p:=by rw[On v,ex]
   let⟨l',x,W,X,_⟩:=pJ o;show lQ _ _ _ E2 _ _;erw[oU λG1 kT kF=>#[_,Z,_,Z,e,_,_,_,Z,Z,aF.of$ S _ _ he,jH U,p,_,_,_,Z,Z,aF.of hp,eG,u,w,Z,hw,o,λv1 H1 Y k=>#[_,Z,l',l,W,X,il,x▸Y,G.mono$ aa.tm$ S.trans k,_,Z,?_]]];rw[<- x,<- el,Er (n':=n') (hs':=hs') o];let C:=Y0 (P:=dh f I) ht;cases hb:dh f I (n',hs',w) with
   |true=>erw[kT _ ?_];show iy _ E2 _ _;unfold iy;rw[rt];rw[OB hb]at C;let z:Q (i9$ lT (dh f I) s.steps m) H1:=q _ (S.trans k);rw[b,C]at z;exact#[_,Z,z]
   |false=>rw[OD (by rw[hb];intro z;cases z)]at C;rwa[kF _$ fE _ _ #[#[_,Z],S.trans k,by rw[b,C];rfl]]
  .obtain⟨⟨T,rfl⟩,S,b⟩:=h;let z:Q (i9$ lT (dh f I) s.steps m) R:=q _ S;rw[b,pP N09]at z;rwa[z]
 .refine cq ?_ ?_
  .show(!decide (tT v0=tT "call"))=μ;rw[Oz λz=>B (by injection z)];rfl
  let z:=q _ (aa.refl _);let en:f8 s.steps m w=θ:=by
   cases w with
   |cl f I s a=>rwa[absurd (r.mpr #[f,I,s,a,Z]) B]
   |_=>rfl
  rw[en]at z;rwa[z]
abbrev xG:bU:=bP (bX 41) 0
abbrev BL:bU:=bP (bX 41) 1
abbrev BM:bU:=bP (bX 41) 2
def dH(a:ζ):xL (ρ×V):=[("anew",.ref a)]
def Av(a:ζ):Tl (dH a):=#[Nat.le_of_ble_eq_true Z,Z,Z,Z,Z]
inductive mX(C:ζ)(e:xL V)(H:Hp)(Q:VK)(a:XK):Prop
 |mk(r c d b:ζ)(m:Int)(_:e=[.ref r,.ref d,.ref b,.int m])(_:H r=δ (.ins C c []))(_:∀lA aA,H lA=θ->H aA=θ->lA≠aA->Q .non (af (af (af H lA (.dK [])) aA (.lst [])) r (.ins C c (dG (dH aA) b lA d m 0))))
def F':am z7z z7z (ae xG):=bV
def Bf{R:ζ}(F:aU K "__init__" "AgainRun.__init__" xG f y)(B:RK K C)(D:a9 K C "anew")(G:⇑2 I k z7z (iJ C))(J:aE K k z7z [])(M:mg "BookRun"=↑R)(L:uQ K R "__init__" I):⇑3 f y z7z (mX C):=by
 erw[F.ok F' λO A o s H V Q E S h=>?_]
 let⟨r,d,p,c,m,rfl,g,q⟩:=h;erw[#[_,(jd (jN$ @ZZ _ _ _ _ _ _ _ _ _ _ _ _ _ _ _ _ _ _ _ _ Z M L G S.m J .nil bQ (ja (pv 0)$ ja (pv 1)$ ja (pv 2)$ ja (pv 3) jb) NP NK NK NK)$ jg$ @qx _ _ _ _ _ _ _ _ (pv 0) (jF jb) Z),?_]];erw[ah λW x=>#[_,Z,_,Z,_,Z,_,Z,r,d,p,c,m,Z,g,λl N=>x _ _ ?_]];let T:l≠r:=(jk g N).symm;erw[#[gR,λa n=>#[_,Z,r,C,d,_,Z,aq jc n,B.cl,D,(by show 5 < 1000;decide),?_]]];let t:a≠r:=λz=>by rw[z,jc]at n;cases n
 rw[jh t]at n;let i:l≠a:=λz=>by rw[<- z,jc]at n;cases n
 rw[jh i.symm]at n;let e:af (af (af (af H l$ .dK []) r$ .ins C d$ dG [] c l p m 0) a$ .lst []) r (.ins C d$ dG (dH a) c l p m 0)=af (af (af H l$ .dK []) a$ .lst []) r (.ins C d$ dG (dH a) c l p m 0):=by
  funext b;by_cases j:b=r
  .rw[j,jc,jc]
  .rw[jh j,jh j];by_cases u:b=a
   .rw[u,jc,jc]
   .rw[jh u,jh j,jh u]
 rwa[e▸q l a N n i]
abbrev Ao:=aO×aO
structure Ly where
 k:xL Ao
 t:xL Ao
 f:xL aO
 d:xL aO
def Ly.app(a b:Ly):Ly:=#[a.k++b.k,a.t++b.t,a.f++b.f,a.d++b.d]
def Ly.nil:Ly:=#[[],[],[],[]]
def Ly.tot(a:Ly):Nat:=ο a.k+ο a.t+ο a.f+ο a.d
def Ly.app_assoc(a b c:Ly):(a.app b).app c=a.app (b.app c):=by unfold Ly.app;simp [Pb]
def Ly.app_nil(a:Ly):a.app .nil=a:=by unfold Ly.app Ly.nil;simp
def Ly.nil_app(a:Ly):Ly.nil.app a=a:=rfl
def Ly.tot_app(a b:Ly):(a.app b).tot=a.tot+b.tot:=by unfold Ly.app Ly.tot;simp only[Ot];omega
def Sk.fnd:Sk->Int
 | .ask b=>b
 | .rd _ i | .wr _ i=>i
 | .cl _ _ _ a=>a
 |_=>0
def sM:Sk->xL aQ
 | .cl _ _ s _=>s.steps
 |_=>[]
def Mp(p:aO)(os:xL aQ)(m j:Nat):xL aO:=(lY ((os.drop m).take$ j - m) p m).map (·.1)
def one(p:aO)(o:aQ)(a:aO)(n:Int)(h:xL Int)(w:Sk):Ly:=
 if aW n h o=μ then (if o.2.2.fnd=w.fnd then #[[(p,a)],[],[],[]] else #[[],[(p,a)],[],[]]) else #[[],[],[a],[p]]
def iD:Sk->aO->xL aQ->Nat->aO->Nat->Ly
 | .st n h w r,p,os,m,a,k=>match fi os m n h w with
  |none=>(#[[],[],c7 (a++[(k:Int)]) w,[]]:Ly).app (iD r p os m a (k+1))
  |some j=>match os[j]? with
   |none=>.nil
   |some o=>((#[[],[],[],Mp p os m j]:Ly).app ((one (p++[(j:Int)]) o (a++[(k:Int)]) n h w).app (iD w (p++[(j:Int)]) (sM o.2.2) 0 (a++[(k:Int)]) 0))).app (iD r p os (j+1) a (k+1))
 | .cl _ _ s _,p,os,m,a,k=>iD s p os m a k
 | .nil,p,os,m,_,_=>#[[],[],[],Mp p os m os.length]
 |_,_,_,_,_,_=>.nil
def KZ{w:Sk}{os:xL aQ}(h:fi os m n H w=θ):iD (.st n H w r) a os m p k=(#[[],[],c7 (p++[(k:Int)]) w,[]]:Ly).app (iD r a os m p$ k+1):=by show(match fi os m n H w with |none=>_ |some j=>_)=_;rw[h]
def K0{w:Sk}{os:xL aQ}(h:fi os m n H w=δ j)(b:os[j]?=δ o):iD (.st n H w r) p os m a k=((#[[],[],[],Mp p os m j]:Ly).app ((one (p++[(j:Int)]) o (a++[(k:Int)]) n H w).app$ iD w (p++[(j:Int)]) (sM o.2.2) 0 (a++[(k:Int)]) 0)).app (iD r p os (j+1) a$ k+1):=by show(match fi os m n H w with |none=>_ |some j=>match os[j]? with |none=>Ly.nil |some o=>_)=_;rw[h];dsimp only;rw[b]
abbrev DF:=ρ->Int->xL Int->Tr
def Dt(D:DF):ρ->Sk->Prop
 |f,.st n h w r=>cj w=D f n h/\Dt D f w/\Dt D f r
 |_,.cl g _ s _=>Dt D g s
 |_,_=>True
theorem ZL:∀{s:Sk},Dt D f s->∀{j:Nat} {o:aQ},s.steps[j]?=δ o->cj o.2.2=D f o.1 o.2.1/\Dt D f o.2.2
 | .st n H w r,h,0,o,e=>by cases e;exact#[h.1,h.2.1]
 | .st n H w r,h,j+1,o,e=>ZL h.2.2 (j:=j) (by let e:((n,H,w)::r.steps)[j+1]?=δ o:=e;simpa using e)
 | .nil,_,j,o,e | .ask _,_,j,o,e | .rd _ _,_,j,o,e | .wr _ _,_,j,o,e | .cl _ _ _ _,_,j,o,e=>by let e:([]:xL aQ)[j]?=δ o:=e;simp at e
def zB{os:xL aQ}{w:Sk}(h:fi os m n d w=δ j):m<=j/\∃o,os[j]?=δ o/\(aW n d o=μ∨∃f I s a,w= .cl f I s a/\dh f I o=μ):=by
 unfold fi at h;cases e:lT (aW n d) os m with
 |some i=>rw[e]at h;cases h;let⟨H,s,b,c⟩:=Jm e;exact#[H,s,b,.inl c]
 |none=>
  rw[e]at h;let h:f8 os m w=δ j:=h;cases w with
  |cl f I s a=>let⟨H,S,b,c⟩:=Jm (show lT (dh f I) os m=δ j from h);exact#[H,S,b,.inr #[f,I,s,a,Z,c]]
  |_=>cases h
def wu(h:aW n H o=μ):o.1=n/\o.2.1=H:=Pe h
def ZM(h:dh f i o=μ):∃s a,o.2.2= .cl f i s a:=by
 unfold dh at h;split at h
 .rename_i g j s a e
  let⟨rfl,rfl⟩:=Pe h;exact#[s,a,e]
 .cases h
def KL{w:Sk}(o:w.ok ν)(e:cj w=cj (.cl f i s a)):∃S A,w= .cl f i S A:=by
 cases w with
 |nil |st _ _ _ _=>rwa[o.elim]
 |ask b |rd b c |wr b c=>rwa[absurd (qh e) NP]
 |cl g j S A=>let⟨rfl,rfl⟩:=Jx e;exact#[S,A,Z]
def Gv{os s:Sk}{w:Sk}(r:os.ok μ)(k:Dt D f os)(h:fi os.steps m n l w=δ j)(b:os.steps[j]?=δ o)(O:o.2.2.ok ν)(p:cj w=D f n l):∀g i s a,w= .cl g i s a->∃S A,o.2.2= .cl g i S A:=by
 intro g i s a e;let⟨_,t,H,c⟩:=zB h;rw[b]at H;cases H;rcases c with c | ⟨F,I,S,A,E,c⟩
 .let⟨C,q⟩:=wu c;let⟨d,_⟩:=ZL k b;rw[C,q,<- p,e]at d;rwa[KL O d]
 .rw[e]at E;cases E;rwa[ZM c]
def oN:RA Ao:=λH x p=>∃q a b,x= .ref q/\H q=δ (.tup [.ref a,.ref b])/\H a=δ (.tup$ p.1.map vr)/\H b=δ (.tup$ p.2.map vr)
def gF:LH oN:=λ_ _ _ _ k #[q,a,b,e,h,H,c]=>#[q,a,b,e,k _ _ h,k _ _ H,k _ _ c]
structure L4(H:Hp)(ob:HO)(r kA tA fA dA:ζ)(y:Ly):Prop where
 ins:H r=δ ob
 kv:∃xs,H kA=δ (.lst xs)/\bg oN H y.k xs
 tv:∃xs,H tA=δ (.lst xs)/\bg oN H y.t xs
 fv:∃xs,H fA=δ (.lst xs)/\bg em H y.f xs
 dv:∃xs,H dA=δ (.lst xs)/\bg em H y.d xs
 ne:kA≠tA/\kA≠fA/\kA≠dA/\tA≠fA/\tA≠dA/\fA≠dA
 nl:∀xs,ob≠ .lst xs
abbrev Lt(H:Hp)(z k t f d:ζ)(y:Ly):Prop:=L4 H (.tup [.ref k,.ref t,.ref f,.ref d]) z k t f d y
def c8(a b c d:ζ)(H h:Hp):Prop:=∀x o,x≠a->x≠b->x≠c->x≠d->H x=δ o->h x=δ o
def c8.of_same(s:aa H h):c8 a b c d H h:=λ_ _ _ _ _ _ e=>s _ _ e
def c8.trans(h:c8 a b c d H i)(k:c8 a b c d i j):c8 a b c d H j:=λx o n N f g e=>k x o n N f g (h x o n N f g e)
section
variable {H H':Hp}{ob:HO}{r kA tA fA dA:ζ}{y:Ly}
def L4.tm(h:L4 H ob r kA tA fA dA y)(k:c8 kA tA fA dA H H'):aj H H':=λb x e=>by let⟨_,a,_⟩:=h.kv;let⟨_,c,_⟩:=h.tv;let⟨_,d,_⟩:=h.fv;let⟨_,f,_⟩:=h.dv;rwa[k b _ (jM e a BT) (jM e c BT) (jM e d BT) (jM e f BT) e]
def L4.same(h:L4 H ob r kA tA fA dA y)(s:aa H H'):L4 H' ob r kA tA fA dA y:=by let⟨x,a,g⟩:=h.kv;let⟨X,b,G⟩:=h.tv;let⟨c,d,g3⟩:=h.fv;let⟨e,f,i⟩:=h.dv;exact#[s _ _ h.ins,#[x,s _ _ a,g.mono gF$ aa.tm s],#[X,s _ _ b,G.mono gF$ aa.tm s],#[c,s _ _ d,g3.mono bG$ aa.tm s],#[e,s _ _ f,i.mono bG$ aa.tm s],h.ne,h.nl]
def qd{o:HO}(h:H a=δ (.lst x)):aj H (af H a o):=λb Y e=>by rw[jh$ jM e h BT];rwa[e]
def L4.setK(h:L4 H ob r kA tA fA dA y)(a:H kA=δ (.lst x))(g:bg oN H p Y):L4 (af H kA$ .lst$ x++Y) ob r kA tA fA dA (y.app #[p,[],[],[]])/\c8 kA tA fA dA H (af H kA$ .lst$ x++Y):=by
 let T:=qd (o:=.lst (x++Y)) a;let⟨v,c,G⟩:=h.kv;let⟨X,i,j⟩:=h.tv;let⟨k,l,g3⟩:=h.fv;let⟨m,n,q⟩:=h.dv;let⟨N,s,u,z,B,C⟩:=h.ne;rw[c]at a;cases a;erw[#[#[?_,#[_,jc,(bg.app g G).mono gF T],#[X,?_,?_],#[k,?_,?_],#[m,?_,?_],h.ne,h.nl],λb o A D E F e=>by rw[jh A];rwa[e]]]
 .rw[jh$ jM h.ins c$ h.nl _];rwa[h.ins]
 .rw[jh$ O3 N];rwa[i]
 .show bg oN _ (y.t++[]) _;rw[O2];rwa[j.mono gF T]
 .rw[jh$ O3 s];rwa[l]
 .show bg em _ (y.f++[]) _;rw[O2];rwa[g3.mono bG T]
 .rw[jh$ O3 u];rwa[n]
 .show bg em _ (y.d++[]) _;rw[O2];rwa[q.mono bG T]
def L4.setT(h:L4 H ob r kA tA fA dA y)(a:H tA=δ (.lst x))(g:bg oN H p Y):L4 (af H tA$ .lst$ x++Y) ob r kA tA fA dA (y.app #[[],p,[],[]])/\c8 kA tA fA dA H (af H tA$ .lst$ x++Y):=by
 let t:=qd (o:=.lst (x++Y)) a;let⟨X,i,G⟩:=h.kv;let⟨z,c,j⟩:=h.tv;let⟨l,m,g3⟩:=h.fv;let⟨n,q,s⟩:=h.dv;let⟨N,B,C,u,v,D⟩:=h.ne;rw[c]at a;cases a;erw[#[#[?_,#[X,?_,?_],#[_,jc,(bg.app g j).mono gF t],#[l,?_,?_],#[n,?_,?_],h.ne,h.nl],λb o E A F I e=>by rw[jh A];rwa[e]]]
 .rw[jh$ jM h.ins c$ h.nl _];rwa[h.ins]
 .rw[jh N];rwa[i]
 .show bg oN _ (y.k++[]) _;rw[O2];rwa[G.mono gF t]
 .rw[jh$ O3 u];rwa[m]
 .show bg em _ (y.f++[]) _;rw[O2];rwa[g3.mono bG t]
 .rw[jh$ O3 v];rwa[q]
 .show bg em _ (y.d++[]) _;rw[O2];rwa[s.mono bG t]
def L4.setF(h:L4 H ob r kA tA fA dA y)(a:H fA=δ (.lst x))(f:bg em H p Y):L4 (af H fA$ .lst$ x++Y) ob r kA tA fA dA (y.app #[[],[],p,[]])/\c8 kA tA fA dA H (af H fA$ .lst$ x++Y):=by
 let T:=qd (o:=.lst (x++Y)) a;let⟨X,g,G⟩:=h.kv;let⟨i,j,l⟩:=h.tv;let⟨v,c,g3⟩:=h.fv;let⟨m,n,q⟩:=h.dv;let⟨z,N,B,s,C,u⟩:=h.ne;rw[c]at a;cases a;erw[#[#[?_,#[X,?_,?_],#[i,?_,?_],#[_,jc,(bg.app f g3).mono bG T],#[m,?_,?_],h.ne,h.nl],λb o D E A F e=>by rw[jh A];rwa[e]]]
 .rw[jh$ jM h.ins c$ h.nl _];rwa[h.ins]
 .rw[jh N];rwa[g]
 .show bg oN _ (y.k++[]) _;rw[O2];rwa[G.mono gF T]
 .rw[jh s];rwa[j]
 .show bg oN _ (y.t++[]) _;rw[O2];rwa[l.mono gF T]
 .rw[jh$ O3 u];rwa[n]
 .show bg em _ (y.d++[]) _;rw[O2];rwa[q.mono bG T]
def L4.setD(h:L4 H ob r kA tA fA dA y)(a:H dA=δ (.lst x))(d:bg em H p Y):L4 (af H dA$ .lst$ x++Y) ob r kA tA fA dA (y.app #[[],[],[],p])/\c8 kA tA fA dA H (af H dA$ .lst$ x++Y):=by
 let T:=qd (o:=.lst (x++Y)) a;let⟨X,g,G⟩:=h.kv;let⟨i,j,l⟩:=h.tv;let⟨m,n,g3⟩:=h.fv;let⟨v,c,q⟩:=h.dv;let⟨z,B,N,C,s,u⟩:=h.ne;rw[c]at a;cases a;erw[#[#[?_,#[X,?_,?_],#[i,?_,?_],#[m,?_,?_],#[_,jc,(bg.app d q).mono bG T],h.ne,h.nl],λb o D E F A e=>by rw[jh A];rwa[e]]]
 .rw[jh$ jM h.ins c$ h.nl _];rwa[h.ins]
 .rw[jh N];rwa[g]
 .show bg oN _ (y.k++[]) _;rw[O2];rwa[G.mono gF T]
 .rw[jh s];rwa[j]
 .show bg oN _ (y.t++[]) _;rw[O2];rwa[l.mono gF T]
 .rw[jh u];rwa[n]
 .show bg em _ (y.f++[]) _;rw[O2];rwa[g3.mono bG T]
end
def CS(a:aO)(m:Nat)(p:aO):Prop:=∃(j:Nat) (q:aO),m<=j/\p=a++(j:Int)::q
def Gg(p:aO)(m:Nat):CS p m (p++[(m:Int)]):=#[m,[],Ou _,Z]
def CS.le{a:aO}{m M:Nat}{p:aO}(h:CS a m p)(l:M<=m):CS a M p:=by let⟨j,q,H,b⟩:=h;rwa[#[j,q,OK l H,b]]
def CS.up{a:aO}{m j i:Nat}{p:aO}(h:CS (a++[(j:Int)]) i p)(l:m<=j):∃q,p=a++(j:Int)::q/\q≠[]:=by let⟨k,q,_,e⟩:=h;exact#[(k:Int)::q,by rw[e,Pb];rfl,λz=>by cases z]
theorem QR:∀(s:Sk) (p:aO) (k:Nat),∀q∈(s.ws p k).map (·.1),CS p 0 q
 | .st _ _ w r,p,k,q,h=>by
  let h:q∈(((p++[(k:Int)],w)::w.ws (p++[(k:Int)]) 0)++r.ws p (k+1)).map (·.1):=h;rw[OU,PZ]at h;rcases bm.mp h with h |h
  .rcases Ξ.mp h with rfl |h
   .exact(Gg p k).le (OA _)
   .let⟨Q,e,_⟩:=(QR w _ 0 q h).up (m:=0) (OA _);exact#[k,Q,OA _,e]
  .rwa[QR r p (k+1) q h]
 | .cl _ _ s _,p,_,q,h=>QR s p 0 q h
 | .nil,_,_,_,h | .ask _,_,_,_,h | .rd _ _,_,_,_,h | .wr _ _,_,_,_,h=>nomatch h
def rq{w:Sk}{p:aO}{k:Nat}{q:aO}(h:q∈c7 (p++[(k:Int)]) w):∃Q,q=p++(k:Int)::Q:=by
 rcases Ξ.mp h with rfl |h
 .exact#[[],Z]
 .let⟨Q,e,_⟩:=(QR w _ 0 q h).up (m:=0) (OA _);exact#[Q,e]
def Yq(s:aQ)(r:xL aQ)(p:aO)(k:Nat):(lY (s::r) p k).map (·.1)=c7 (p++[(k:Int)]) s.2.2++(lY r p$ k+1).map (·.1):=by show((_::_)++_).map _=_;rw[OU];rfl
theorem yY:∀(os:xL aQ) (p:aO) (k:Nat),∀q∈(lY os p k).map (·.1),∃(i:Nat) (Q:aO),k<=i/\i < k+ο os/\q=p++(i:Int)::Q
 | [],_,_,_,h=>nomatch h
 |s::r,p,k,q,h=>by
  rw[Yq]at h;rcases bm.mp h with h |h
  .let⟨Q,e⟩:=rq h;exact#[k,Q,Ou _,by show k < k+(ο r+1);omega,e]
  .let⟨i,Q,H,a,e⟩:=yY r p (k+1) q h;exact#[i,Q,NO,by show i < k+(ο r+1);omega,e]
theorem XD:∀(p x y:aO),gE (p++x) (p++y)=gE x y
 | [],_,_=>rfl
 |a::p,x,y=>by show(if a=a then gE (p++x) (p++y) else _)=_;rw[OB Z,XD p]
def AW{p q Q:aO}{i j:Nat}(h:i < j):gE (p++(i:Int)::q) (p++(j:Int)::Q)=μ:=by rw[XD];show(if (i:Int)=(j:Int) then _ else decide ((i:Int) < (j:Int)))=μ;rw[OD NO];rwa[OE NO]
def AX{p q:aO}{i:Nat}:gE p (p++(i:Int)::q)=μ:=by let:=XD p [] ((i:Int)::q);rw[O2]at this;rwa[this]
abbrev DL(l:xL aO):Prop:=l.Pairwise λa b=>gE a b=μ
def uM:∀(s:Sk) (p:aO) (k:Nat),s.ok μ->∀q∈(s.ws p k).map (·.1),CS p k q
 |s,p,k,o,q,h=>by rw[JP o]at h;let⟨i,Q,H,_,e⟩:=yY _ _ _ q h;exact#[i,Q,H,e]
def Gn{a b:xL aO}(H:DL a)(c:DL b)(h:∀x∈a,∀y∈b,gE x y=μ):DL (a++b):=List.pairwise_append.mpr #[H,c,h]
theorem ZN:∀{b:Bool} {s:Sk},s.ok b->∀(p:aO) (k:Nat),DL ((s.ws p k).map (·.1))
 |true,.nil,_,_,_=>iv
 |true,.st _ _ w r,o,p,k=>by
  show DL ((((p++[(k:Int)],w)::w.ws (p++[(k:Int)]) 0)++r.ws p (k+1)).map (·.1));rw[OU];erw[Gn ?_ (ZN o.2 p$ k+1) λx H y h=>?_]
  .rw[PZ];erw[rc.mpr #[λy h=>?_,ZN o.1 _ 0]];let⟨i,q,_,e⟩:=QR w _ 0 y h;rw[e];rwa[AX]
  .let⟨q,e⟩:=rq (w:=w) (show x∈c7 (p++[(k:Int)]) w from H);let⟨i,Q,a,E⟩:=uM r p (k+1) o.2 y h;rw[e,E];rwa[AW a]
 |false,.cl _ _ s _,o,p,_=>ZN (b:=μ) (s:=s) o p 0
 |false,.ask _,_,_,_ |false,.rd _ _,_,_,_ |false,.wr _ _,_,_,_=>iv
def fj:Sk->xL aQ->Nat->aO->Nat->xL aO
 | .st n h w r,os,m,p,k=>match fi os m n h w with
  |none=>c7 (p++[(k:Int)]) w++fj r os m p (k+1)
  |some j=>match os[j]? with
   |none=>[]
   |some o=>(if aW n h o=μ/\o.2.2.fnd=w.fnd then [] else [p++[(k:Int)]])++(fj w (sM o.2.2) 0 (p++[(k:Int)]) 0++fj r os (j+1) p (k+1))
 | .cl _ _ s _,os,m,p,k=>fj s os m p k
 |_,_,_,_,_=>[]
def At(os:xL aQ)(m:Nat)(n:Int)(h:xL Int)(w:Sk)(p:aO)(k:Nat):xL aO:=match fi os m n h w with
 |none=>c7 (p++[(k:Int)]) w
 |some j=>match os[j]? with
  |none=>[]
  |some o=>(if aW n h o=μ/\o.2.2.fnd=w.fnd then [] else [p++[(k:Int)]])++fj w (sM o.2.2) 0 (p++[(k:Int)]) 0
def GX(m:Nat):ym Nat->Nat
 |none=>m
 |some j=>j+1
def XX{n:Int}{H:xL Int}{w r:Sk}{os:xL aQ}{m:Nat}{p:aO}{k:Nat}:fj (.st n H w r) os m p k=At os m n H w p k++fj r os (GX m$ fi os m n H w) p (k+1):=by
 show(match fi os m n H w with |none=>_ |some j=>_)=_;unfold At;cases h:fi os m n H w with
 |none=>rfl
 |some j=>let⟨_,o,a,_⟩:=zB h;dsimp only;rw[a];dsimp only;rw[Pb];rfl
def Eu:Sk->xL aQ->Nat->Nat
 | .st n h w r,os,m=>Eu r os (GX m (fi os m n h w))
 |_,_,m=>m
theorem uX{n:Int}{hs:xL Int}{w:Sk}{os:xL aQ}{pn:aO}:∀{s:Sk} {m k:Nat},s.ok μ->fj (Sk.put n hs w s) os m pn k=fj s os m pn k++At os (Eu s os m) n hs w pn (k+ο s.steps)/\Eu (Sk.put n hs w s) os m=GX (Eu s os m) (fi os (Eu s os m) n hs w)
 | .nil,m,k,_=>by show fj (.st n hs w .nil) os m pn k=[]++_/\_;rw[XX];exact#[O2 _,Z]
 | .st N H W r,m,k,h=>by
  let i:=uX (n:=n) (hs:=hs) (w:=w) (os:=os) (pn:=pn) (s:=r) (m:=GX m (fi os m N H W)) (k:=k+1) h.2;let e:Sk.put n hs w (.st N H W r)= .st N H W (Sk.put n hs w r):=rfl;erw[#[?_,?_]]
  .rw[e,XX,XX,i.1,Pb];show _=_++(_++At os (Eu r os$ GX m$ fi os m N H W) n hs w pn (k+((N,H,W)::r.steps).length));rw[O1,show k+1+ο r.steps=k+(ο r.steps+1) by omega]
  .rw[e];rwa[i.2]
 | .ask _,_,_,h | .rd _ _,_,_,h | .wr _ _,_,_,h | .cl _ _ _ _,_,_,h=>h.elim
def Ly.an(y:Ly):xL aO:=y.t.map (·.2)++y.f
def Xs(a b:Ly):(a.app b).an.Perm (a.an++b.an):=by show((a.t++b.t).map (·.2)++(a.f++b.f)).Perm ((a.t.map (·.2)++a.f)++(b.t.map (·.2)++b.f));rw[OU,Pb,Pb];erw[Te _ ?_];rw[<- Pb,<- Pb];rwa[List.Perm.append_right _ TM]
theorem JQ:∀(s:Sk) (a:aO) (os:xL aQ) (m:Nat) (p:aO) (k:Nat),(iD s a os m p k).an.Perm (fj s os m p k)
 | .st n H w r,a,os,m,p,k=>by
  rw[XX];unfold At;cases h:fi os m n H w with
  |none=>rw[KZ h];exact(Xs _ _).trans (Te _$ JQ r a os m p$ k+1)
  |some j=>
   let⟨_,o,b,_⟩:=zB h;rw[K0 h b];dsimp only;rw[b];dsimp only;erw[(Xs _ _).trans (Vf ?_$ JQ r a os (j+1) p$ k+1)];erw[(Xs _ _).trans ?_];show((one _ o _ n H w).app _).an.Perm _;erw[(Xs _ _).trans (Vf ?_$ JQ w _ _ _ _ _)];unfold one;by_cases c:aW n H o=μ
   .rw[OB c];by_cases f:o.2.2.fnd=w.fnd
    .rw[OB f,OB #[c,f]];rwa[Rh _]
    .rw[OD f,OD (λz=>f z.2)];rwa[Rh _]
   .rw[OD c,OD (λz=>c z.1)];rwa[Rh _]
 | .cl _ _ s _,a,os,m,p,k=>JQ s a os m p k
 | .nil,_,_,_,_,_ | .ask _,_,_,_,_,_ | .rd _ _,_,_,_,_,_ | .wr _ _,_,_,_,_,_=>Rh _
theorem qZ:∀{b:Bool} {s:Sk},s.ok b->∀(os:xL aQ) (m:Nat) (p:aO) (k:Nat),(b=ν->k=0)->(fj s os m p k).Sublist ((s.ws p k).map (·.1))
 |true,.nil,_,_,_,_,_,_=>RZ _
 |true,.st n H w r,o,os,m,p,k,_=>by
  rw[XX];show List.Sublist _ ((((p++[(k:Int)],w)::w.ws (p++[(k:Int)]) 0)++r.ws p (k+1)).map (·.1));rw[OU];erw[List.Sublist.append ?_$ qZ o.2 os _ p (k+1) (λz=>by cases z)];unfold At;cases h:fi os m n H w with
  |none=>rwa[RZ _]
  |some j=>
   let⟨_,O,a,_⟩:=zB h;dsimp only;rw[a];dsimp only;let i:=qZ o.1 (sM O.2.2) 0 (p++[(k:Int)]) 0 (λ_=>Z);rw[PZ];split
   .rwa[i.cons _]
   .rwa[i.cons_cons _]
 |false,.cl _ _ s _,o,os,m,p,k,z=>by cases z Z;rwa[qZ (b:=μ) (s:=s) o os m p 0 (λz=>by cases z)]
 |false,.ask _,_,_,_,_,_,_ |false,.rd _ _,_,_,_,_,_,_ |false,.wr _ _,_,_,_,_,_,_=>RZ _
def uY{s:Sk}(o:s.ok μ)(os:xL aQ)(m:Nat)(p:aO)(k:Nat):DL (fj s os m p k):=(ZN o p k).sublist (qZ o os m p k (λz=>by cases z))
def Xt{s:Sk}(o:s.ok μ)(os:xL aQ)(m:Nat)(p:aO)(k:Nat):(fj s os m p k).length<=s.size:=by let:=(qZ o os m p k (λz=>by cases z)).length_le;rw[Oq,kY o]at this;rwa[this]
def uW{s:Sk}(o:s.ok μ){os:xL aQ}{m:Nat}{a:aO}{k:Nat}{p:aO}(h:p∈fj s os m a k):p≠[]:=by let⟨i,q,_,e⟩:=QR s a k p ((qZ o os m a k (λz=>by cases z)).subset h);rw[e];simp
def yw{l:xL aO}(h:DL l):l.Nodup:=h.imp λ{a b} z e=>by subst e;let:=Jt z;rw[z]at this;cases this
abbrev F8:bU:=bX 40
def C9(a:Int):xL aQ->Gd
 | []=>.give a
 |s::_=>.go s.1.toNat s.2.1
structure No(R:ρ->xL Int->Sk->Int->Prop)(pd:di)(a:Int)(s:aQ)(r:xL aQ):Prop where
 ex:∃(n:Nat) (cd:y6),s.1=(n:Int)/\pd.cs[n]?=δ cd/\cj s.2.2=lS (aJ cd.nm s.2.1) cd.e/\C9 a r=nF pd cd s.2.1 s.2.2.wh
 cl:∀f is s' b,s.2.2= .cl f is s' b->R f is s' b
def Np(b:xL di)(R:ρ->xL Int->Sk->Int->Prop):Prop:=∀f i s a p,R f i s a->dY b f=δ p->s.ok μ->eL (me p) (b6 p.way.sets$ aJ p.ps i) p.way.goal=C9 a s.steps/\∀{k:Nat} {st:aQ},s.steps[k]?=δ st->No R p a st (s.steps.drop$ k+1)
def oM(p:xL di)(f:ρ)(i:xL Int)(s:Sk)(a:Int):Prop:=∃R,R f i s a/\Np p R
structure Mc(pds:xL di)(pd:di)(a:Int)(s:aQ)(r:xL aQ):Prop where
 ex:∃(n:Nat) (cd:y6),s.1=(n:Int)/\pd.cs[n]?=δ cd/\cj s.2.2=lS (aJ cd.nm s.2.1) cd.e/\C9 a r=nF pd cd s.2.1 s.2.2.wh
 cl:∀f is s' b,s.2.2= .cl f is s' b->oM pds f is s' b
def oM.steps{p:xL di}{f:ρ}{i:xL Int}{s:Sk}{a:Int}{c:di}(h:oM p f i s a)(g:dY p f=δ c)(o:s.ok μ):eL (me c) (b6 c.way.sets$ aJ c.ps i) c.way.goal=C9 a s.steps/\∀{k:Nat} {st:aQ},s.steps[k]?=δ st->Mc p c a st (s.steps.drop$ k+1):=by let⟨R,j,H⟩:=h;let⟨e,z⟩:=H _ _ _ _ _ j g o;exact#[e,λd=>#[(z d).ex,λf i S b E=>#[R,(z d).cl f i S b E,H]]]
def dU(a b c:ζ)(H h:Hp):Prop:=∀x o,x≠a->x≠b->x≠c->H x=δ o->h x=δ o
def dU.of2{a b c:ζ}{H d:Hp}(h:aR a b H d):dU a b c H d:=λ_ _ n N _ e=>h _ _ n N e
def dU.of_same{a b c:ζ}{H d:Hp}(h:aa H d):dU a b c H d:=λ_ _ _ _ _ e=>h _ _ e
def dU.trans{a b c:ζ}{H d f:Hp}(h:dU a b c H d)(k:dU a b c d f):dU a b c H f:=λx o n N g e=>k x o n N g (h x o n N g e)
def GS(a b c:ζ)(H h:Hp):Prop:=∀x o,x≠a->x≠b->x≠c->NX o->H x=δ o->h x=δ o
def Fl.next3{E:XK}{L a b c:ζ}{H:Hp}(h:Fl E L (GS a b c H)):Fl (md E) L (GS a b c H):=λd l k x T t c e f m g=>by cases e;rwa[h d _ λb o N i j n e=>qg (H:=H) (k b o N i j n e) n f g]
def iR.next3{A B:Prop}{E:XK}{T t a b c:ζ}{H:Hp}(h:iR A B E T t (GS a b c H)):iR A B (md E) T t (GS a b c H):=#[λa=>(h.1 a).next3,λb=>(h.2 b).next3]
structure An(H:Hp)(aA:ζ)(X:xL aO):Prop where
 ex:∃(as:xL V) (qs:xL aO),H aA=δ (.lst as)/\bg em H qs as/\qs.Perm X
def An.pm{H:Hp}{a:ζ}{X Y:xL aO}(h:An H a X)(l:X.Perm Y):An H a Y:=by let⟨A,q,b,c,d⟩:=h.ex;rwa[#[A,q,b,c,d.trans l]]
def An.keep{H b:Hp}{a:ζ}{X:xL aO}(h:An H a X)(k:aj H b)(e:∀o,H a=δ o->b a=δ o):An b a X:=by let⟨A,q,c,d,f⟩:=h.ex;rwa[#[A,q,e _ c,d.mono bG k,f]]
def An.same{H a:Hp}{A:ζ}{X:xL aO}(h:An H A X)(s:aa H a):An a A X:=h.keep (aa.tm s) λo e=>s _ _ e
def An.ne{H:Hp}{C r d:ζ}{e:xL (ρ×V)}{c l p a:ζ}{m:Int}{t:Nat}{X:xL aO}{L f:ba}(h:An H a X)(R:Rn H C r d e c l p m t L f):a≠r/\a≠l/\a≠c:=by let⟨A,_,b,_⟩:=h.ex;rwa[#[jM b R.ins BT,jM b R.lf BT,jM b R.ce BT]]
def An.tm{H H':Hp}{C r d:ζ}{E:xL (ρ×V)}{c l p a:ζ}{m:Int}{t:Nat}{X:xL aO}{L f:ba}(h:An H a X)(R:Rn H C r d E c l p m t L f)(k:dU r l a H H'):aj H H':=λb x e=>by let⟨A,_,g,_⟩:=h.ex;rwa[k b _ (jM e R.ins BT) (jM e R.lf BT) (jM e g BT) e]
def An.add{H:Hp}{A:ζ}{a y:xL V}{q r X:xL aO}(h:H A=δ (.lst a))(c:bg em H q a)(d:bg em H r y)(p:(q++r).Perm X):An (af H A$ .lst$ a++y) A X:=by
 let t:aj H (af H A$ .lst$ a++y):=λb x e=>by rw[jh$ jM e h BT];rwa[e]
 exact#[a++y,q++r,jc,bg.app (d.mono bG t)$ c.mono bG t,p]
theorem vS{P:aQ->Bool}{os:xL aQ}:∀(d m:Nat),lT P os m=θ->∀{s:aQ},os[m+d]?=δ s->P s=ν
 |d,m,h,s,e=>by
  let a:m < ο os:=by let:=(ξ.mp e).1;omega
  let H:=h;rw[Y0$ On a]at H;by_cases c:P os[m]=μ
  .rw[OB c]at H;cases H
  .rw[OD c]at H;cases d with
   |zero=>rw[WL,On a]at e;cases e;simpa using c
   |succ d=>rwa[vS d (m+1) H (by rw[show m+1+d=m+(d+1) by omega];rwa[e])]
inductive mq(g:xL V)(H:Hp)(Q:VK)(b:XK):Prop
 |mk(e:ζ)(d:xL V)(_:H e=δ (.tup d))(_:(g=[.ref e,.non]/\Q .non H)∨∃(p h:ζ) (k:Nat) (n:Int) (u:V) (w:Sk),g=[.ref e,.int (k:Int)]/\d[k]?=↑p/\H p=δ (.tup [.int n,.ref h,u])/\dS H w u []/\w.ok ν/\∀ov,(((∀f is s a,w≠ .cl f is s a)/\ov= .non)∨∃(f:ρ) (is:xL Int) (s:Sk) (a:Int) (c:ζ),w= .cl f is s a/\ov= .ref c/\gW H f is s a (.ref c))->Q ov H)
inductive Gj(C l i z:ζ)(j:Nat)(I:xL V)(H:Hp)(Q:VK)(E:XK):Prop
 |mk(M:Nat)(r u n o y D g:ζ)(F:aO)(b t:Nat)(X:xL aO)(m:Sk->xL aO)(L h k:ba)(B G:V)(e:DD)(K:xL ρ)(p:xL Df)(A:xL Nat)(J:xL V)(d:xL di)(_:I=[.ref r,.ref g,B,G,.int (b:Int)])(_:b+j=15)(_:Rn H C r u (dH n) o y D M t L h)(_:An H n X)(_:ο X<=t)(_:ο L<=t)(_:t<=M)(_:Ps H z D p A J d)(_:H g=δ (.tup (F.map vr)))(_:ο F+j<=60)(_:F≠[])(_:aS H (lS k e) G [])(_:uO H K e)(_:GT k)(_:e.Cs ((p.map Df.f).zip A))(_:(B= .non/\m=λw=>(c7 F w).tail)∨∃(p0:ζ) (x f:ρ) (q:ζ) (ts:xL (ζ×Tm)) (s:Sk) (a:Int) (c:ζ),e= .st p0 (.cl x f q ts)/\B= .ref c/\gW H f (ts.map λc=>c.2.ev k) s a (.ref c)/\s.ok μ/\s.size<=1000/\oM d f (ts.map λc=>c.2.ev k) s a/\m=λw=>fj w s.steps 0 F 0)(_:∀(w:Sk) (v:V) (L':ba) (H':Hp),gZ M (aZ M d h j) h k L t e= .ok w L' (t+1+w.size)->dS H' w v []->w.ok ν->DH e w.wh->w.dep<=j->Rn H' C r u (dH n) o y D M (t+1+w.size) L' h->ο L'<=t+1+w.size->t+1+w.size<=M->An H' n (X++m w)->dU r y n H H'->Q v H')(_:iR (gZ M (aZ M d h j) h k L t e= .long) (gZ M (aZ M d h j) h k L t e= .deep) E l i (GS r y n H))
inductive nW(C k h u:ζ)(j:Nat)(B:xL V)(H:Hp)(Q:VK)(E:XK):Prop
 |mk(M:Nat)(r p l n s x f c:ζ)(y:aO)(b t i:Nat)(X:xL aO)(L g:ba)(A:Sk)(m:Int)(d:Df)(o:xL Df)(w:xL Nat)(D:xL V)(e:xL di)(q:xL Int)(_:B=[.ref r,.ref f,.ref c,.int (b:Int)])(_:b+j=16)(_:1<=j)(_:Rn H C r p (dH l) n s x M t L g)(_:An H l X)(_:ο X<=t)(_:ο L<=t)(_:t<=M)(_:Ps H u x o w D e)(_:H f=δ (.tup (y.map vr)))(_:ο y+j<=60)(_:o[i]?=δ d)(_:w[i]?=δ q.length)(_:∀z∈q,gB z)(_:gW H d.f q A m (.ref c))(_:A.ok μ)(_:A.size<=1000)(_:oM e d.f q A m)(_:∀(v:V) (sk:Sk) (a:Int) (L':ba) (H':Hp),aZ M e g j d.f q L t= .ok sk a L' (t+sk.size)->gW H' d.f q sk a v->sk.ok μ->sk.dep+1<=j->gB a->Rn H' C r p (dH l) n s x M (t+sk.size) L' g->ο L'<=t+sk.size->t+sk.size<=M->An H' l (X++fj sk A.steps 0 y 0)->dU r s l H H'->Q v H')(_:iR (aZ M e g j d.f q L t= .long) (aZ M e g j d.f q L t= .deep) E k h (GS r s l H))
def gW.mono'{H b:Hp}{f:ρ}{i:xL Int}{s:Sk}{a:Int}{u:V}(h:gW H f i s a u)(k:aj H b):gW b f i s a u:=by let⟨c,g,e,S,E,d,j,l,m⟩:=h;rwa[#[c,g,e,S,E,k _ _ d,k _ _ j,k _ _ l,m.mono k]]
def vp(x:V)(X:xL V):aT (x::X) (δ 1) θ=X:=by unfold aT HT.sIx;simp
def xz{H:Hp}{p:aO}{w:Sk}{X:xL V}(b:p≠[])(h:bg em H (c7 p w) X):∃y,aT X (δ 1) θ=y/\ο y=(w.ws p 0).length/\bg em H (c7 p w).tail y:=by let⟨x,r,rfl,_,a⟩:=h;exact#[r,vp _ _,by rw[a.len,Oq],a]
def J':am ["steps","at"] ["steps","at"] (ae F8):=bV
def Ff{f:ζ}{t:cc}(F:xD K "chain_taken" F8 f t):⇑1 f t ["steps","at"] mq:=by
 erw[F.ok J' (len:=by rintro _ _ _ _⟨e,S,_,⟨rfl,_⟩ | ⟨p,h,k,n,u,w,rfl,_⟩⟩<;>rfl) λC A o s H V Q E N h=>?_]
 let⟨e,S,j,h⟩:=h;rcases h with ⟨rfl,q⟩ | ⟨p,h,k,n,u,w,rfl,l,m,v,r,q⟩
 .erw[#[_,(jd (jy (PW.pt$ QL (YR$ @xj _ _ _ _ _$ pv 1)$ JI$ jz QM (jv$ jq jE (jq jE (pv 0) (pv 1) ∅) jf ∅) jm$ aD _) (jg$ jo$ @kl _ _ _) jp)$ jg$ jo$ jv$ jq jE (jq jE (pv 0) (pv 1) ∅) jf ∅),?_]];try dsimp only[gK,Cx.nox,Cx.wish]
  rwa[ah λx d=>#[_,Z,_,Z,cq (by rw[OE Z]) q]]
 erw[#[_,(jd (jy (PW.pt$ QL (YR$ @xj _ _ _ _ _$ pv 1)$ JI$ jz QM (jv$ jq jE (jq jE (pv 0) (pv 1) ∅) jf ∅) jm$ aD _) (jg$ jo$ @kl _ _ _) jp)$ jg$ jo$ jv$ jq jE (jq jE (pv 0) (pv 1) ∅) jf ∅),?_]];let B:=aN;cases w with
 |nil |st _ _ _ _=>rwa[r.elim]
 |ask _ |rd _ _ |wr _ _=>let⟨i,rfl,G⟩:=v;erw[ah λx d=>#[_,Z,_,Z,aV (by rw[Oz BT]) #[_,Z,_,Z,e,_,_,_,Z,Z,aF.of j,jH l,p,_,_,_,Z,Z,aF.of m,eG,i,_,_,_,Z,Z,aF.of G,eJ,Z,_,Z,cq NM$ q _$ .inl #[λf I s a z=>(by cases z),Z]]]]
 |cl f I s a=>let⟨i,c,g,D,Y,rfl,G,J,g3,L,M⟩:=v;erw[ah λx d=>#[_,Z,_,Z,aV (by rw[Oz BT]) #[_,Z,_,Z,e,_,_,_,Z,Z,aF.of j,jH l,p,_,_,_,Z,Z,aF.of m,eG,i,_,_,_,Z,Z,aF.of G,eJ,Z,_,Z,aV NM$ d _ _ ?_]]];exact#[_,Z,_,Z,e,_,_,_,Z,Z,aF.of j,jH l,p,_,_,_,Z,Z,aF.of m,eG,i,_,_,_,Z,Z,aF.of G,iB,q _$ .inr #[f,I,s,a,c,Z,Z,#[c,g,D,Y,Z,J,g3,L,M]]]
def Ds:am ["self","path","old","deed","deep","what"] z27z (ae BM):=bV
def Ix{f:ζ}{fd:cc}{j:Nat}{C TL TD nA fW fT fA fD fP:ζ}{f0 f2 f3 f4 f5:cc}(F:aU K "what_along" "AgainRun.what_along" BM f fd)(ck:RK K C)(n6:a9 K C "anew")(GW:ai P w K mg base (dF P w) (2*j+13) fW f0 z11z (iK C TL TD nA j))(bW:aE K f0 z11z [])(m0:bh K C "what_of" fW)(GT:ai P w K mg base (dF P w) 1 fT f2 ["self"] (gq C TL))(bT:aE K f2 ["self"] [])(m1:bh K C "take_turn" fT)(GA:ai P w K mg base (dF P w) (2*j+38) fA f3 z15z (nW C TL TD nA j))(bA:aE K f3 z15z [])(m2:bh K C "chain_along" fA)(GD:ai P w K mg base (dF P w) 1 fD f4 ["deep"] (dP TD))(bD:aE K f4 ["deep"] [])(kD:gb K (.ref fD)=μ)(mD:mg "deeper"=↑fD)(cP:‹36› fP f5 z9z (oj 17) "paths_at"):ai P w K mg base (dF P w) (2*j+39) f fd z27z (Gj C TL TD nA j):=by
 erw[F.ok1 Ds λc0 A o1 s H vs Q E hr h=>?_]
 let⟨M,r,D,l,G,y,I,R,ps,u,t,X,Yf,L,Cs,k,ov,ud,e,ys,ds,ns,xs,U,rfl,h3,n,hA,h4,h5,ht,hP,N,h6,h7,h8,h0,gk,h1,h',q,J⟩:=h;erw[#[_,(jd (jy (jz qW (pv 2) (@kl _ _ _)$ aD _) (jd (jA 5 Ds.nd$ kf (pv 0) ck.cl m0 GW hr.m bW .nil ke$ ja (pv 3)$ ja (pv 4) jb)$ jd (jN$ j9 OF Rg Rc z9 (kW (pv 0) Z)$ ja (jJ kj (cP.e hr.m$ ja (pv 1)$ ja (pv 5) jb) (jG jf) jT) jb)$ jg$ jo$ pv 5) jp)$ jd (jN$ X1 (pv 0) ck.cl m1 GT hr.m bT .nil ke)$ jg$ jo$ ji$ ja jm$ ja (kf (pv 0) ck.cl m2 GA hr.m bA .nil ke$ ja (pv 1)$ ja (pv 2)$ ja (kC GD hr.m Z mD kD bD .nil ke$ ja (pv 4) jb) jb) jb),?_]];let b0:=aN;let hM:=n.hm;let⟨nr,nl,nc⟩:=hA.ne n;rcases h' with ⟨rfl,rfl⟩ | ⟨p0,x,f',q',ts,so,ao,c,rfl,rfl,a0,o2,s0,h2,rfl⟩
 .erw[ah λF1 B=>#[_,Z,Z,_,Z,cq (OE Z) ?_]];erw[ah λF1 B=>#[_,Z,r,D,_,Z,n.ins,n.tl.w,_,Z,_,Z,M,r,D,dH l,G,y,I,u,t,L,Cs,k,ud,e,ys,ds,ns,xs,U,Z,h3,n,h5,ht,hP,h8,h0,gk,h1,λw v _L V e1 hw W ft d0 R2 l2 t2 k2=>B _ _ ?_,(iR.next$ J.mono λV Y=>λb o O n2 _ nx e=>Y b o O n2 nx e)]];let t0:=n.tm k2;let⟨as,qs,a1,a3,aP⟩:=(hA.keep t0 λo e=>k2 _ _ nr nl e).ex;let a2:ο as<=t:=by rw[a3.len,aP.length_eq];exact h4
  erw[ah λF1 B=>#[_,Z,r,C,D,_,_,Z,R2.ins,ck.cl,n6,Z,.inl #[Z,_,aL.of a1],_,Z,_,Z,R,ps,w,v,Z,t0 _ _ N,NO,hw,W,NO,NO,λrl x H3 n0 a5 a' s3=>#[_,Z,rl,x,Z,aL.of a5,λp np=>?_]]];let⟨zs,ez,lz,hz⟩:=xz h7 a';let e0:aT x (δ 1) θ=zs:=ez;rw[kY W]at lz;let S:aa V (af H3 p$ .lst$ aT x (δ 1) θ):=s3.trans (je np);let e4:af H3 p (.lst$ aT x (δ 1) θ) p=δ (.lst zs):=by rw[<- e0];rwa[jc]
  let t1:aj H3 (af H3 p$ .lst$ aT x (δ 1) θ):=aa.tm (je np);generalize af H3 p (.lst$ aT x (δ 1) θ)=H4 at S e4 t1 ⊢;let a4:=S _ _ a1;erw[#[l,p,as,zs,Z,Z,a4,e4,NO,B _ _ ?_]];let A5:An (af H4 l$ .lst$ as++zs) l (X++(c7 ps w).tail):=An.add a4 (a3.mono bG$ aa.tm S) (hz.mono bG t1) (aP.append_right _);let b5:dU r y l H4 (af H4 l$ .lst$ as++zs):=λb o _ _ n3 e=>by rw[jh n3];rwa[e]
  let t3:aj H4 (af H4 l$ .lst$ as++zs):=λb xs e=>by rw[jh$ jM e a4 BT];rwa[e]
  let R5:Rn (af H4 l$ .lst$ as++zs) C r D (dH l) G y I M (t+1+w.size) _L Cs:=#[by rw[jh nr.symm];rwa[S _ _ R2.ins],by rw[jh nl.symm];rwa[S _ _ R2.lf],by rw[jh nc.symm];rwa[S _ _ R2.ce],R2.iL,R2.iC,R2.cl,R2.tl,R2.hm];exact#[_,Z,q w v _L _ e1 ((hw.mono$ aa.tm S).mono t3) W ft d0 R5 l2 t2 A5 (((dU.of2 k2).trans$ dU.of_same S).trans b5)]
 .let⟨i,d,hd,hn,rfl⟩:=hP.find h1;let⟨_,_,_,o3,_⟩:=h0;erw[ah λF1 B=>#[_,Z,Z,_,Z,aV (Oz (λz=>by cases z))$ B _ _ ?_]];erw[ah λF1 B=>#[_,Z,r,D,_,Z,n.ins,n.tl.t,r,D,dH l,G,y,I,M,t,Z,n.ins,n.tl,λlt=>B _ _ ?_,λge=>((J.1$ XB NO).mono λH' Y=>λb o _ _ _ nx e=>Y b o nx e).nextK]];let T:aj H (af H r$ .ins C D$ dG (dH l) G y I M$ t+1):=λb xs e=>by rw[jh$ jM e n.ins BT];exact e
  let R1:Rn (af H r$ .ins C D$ dG (dH l) G y I M$ t+1) C r D (dH l) G y I M (t+1) L Cs:=#[jc,by rw[jh n.rl.1.symm];rwa[n.lf],by rw[jh n.rl.2.symm];rwa[n.ce],n.iL,n.iC,n.cl,n.tl,n.hm];let k1:dU r y l H (af H r$ .ins C D$ dG (dH l) G y I M$ t+1):=λb o O _ _ e=>by rw[jh O];rwa[e]
  let A1:An (af H r$ .ins C D$ dG (dH l) G y I M$ t+1) l X:=hA.keep T λo e=>by rw[jh nr];rwa[e]
  generalize af H r (.ins C D$ dG (dH l) G y I M$ t+1)=H1 at T R1 k1 A1;let lt':t+1<=M:=NO
  erw[#[_,Z,r,D,_,Z,R1.ins,Z,_,Z,_,Z,_,Z,(u:Int),Z,λdl=>?_,λdg=>((J.2 (by let z:j=0:=NO;rw[qP NO,z];rfl)).mono λV Y=>λb o O n2 n3 nx e=>Y b o nx (k1 b o O n2 n3 e)).nextK]];erw[#[M,r,D,l,G,y,I,R,c,ps,u+1,t+1,i,X,L,Cs,so,ao,d,ds,ns,xs,U,ts.map λc=>c.2.ev k,Z,NO,NO,R1,A1,NO,NO,lt',hP.mono T,T _ _ N,h6,hd,by rw[Oq];rwa[hn],λz hz=>?_,gW.mono' a0 T,o2,s0,h2,λv sk a L' V eq hc ok dp ia R2 l2 t2 A2 k2=>?_,iR.next3 ((J.imp (λz=>by rw[qP NO,z];rfl) (λz=>by rw[qP NO,z];rfl)).mono λV Y=>λb o O n2 n3 nx e=>Y b o O n2 n3 nx (k1 b o O n2 n3 e))]]
  .let⟨c,hc,rfl⟩:=dg.mp hz;rwa[qO gk (o3.2.2 c hc).1]
  .let⟨c2,g,ee,ss,rfl,c1,c3,c4,c5⟩:=hc;erw[#[ci,λv2 nv=>?_]];let s2:aa V (af V v2$ .tup [.str "call",.ref c2]):=je nv;rwa[q (.cl d.f (ts.map λc=>c.2.ev k) sk a) _ L' _ (by rw[qP NO,eq];rfl) #[v2,c2,g,ee,ss,Z,jc,s2 _ _ c1,s2 _ _ c3,s2 _ _ c4,c5.mono$ aa.tm s2] ok ia (by show sk.dep+1<=j;rwa[N09]) (R2.same s2) l2 t2 (A2.same s2) ((k1.trans k2).trans$ dU.of_same s2)]
def DJ(p:xL di)(a:di):Gd->Sk->Gd->Prop
 |g,.st n h w r,G=>∃(m:Nat) (c:y6),n=(m:Int)/\g= .go m h/\a.cs[m]?=δ c/\cj w=lS (aJ c.nm h) c.e/\(∀f i s b,w= .cl f i s b->oM p f i s b)/\DJ p a (nF a c h w.wh) r G
 |g,_,G=>g=G
theorem pY{p:xL di}{a:di}{m:Nat}{c:y6}{H:xL Int}{w:Sk}(d:a.cs[m]?=δ c)(i:cj w=lS (aJ c.nm H) c.e)(j:∀f I s b,w= .cl f I s b->oM p f I s b):∀{S:Sk} {g:Gd},S.ok μ->DJ p a g S (.go m H)->DJ p a g (Sk.put (m:Int) H w S) (nF a c H w.wh)
 | .nil,g,_,h=>#[m,c,Z,h,d,i,j,Z]
 | .st _ _ _ r,g,o,h=>by let⟨n,C,E,k,l,q,t,u⟩:=h;exact#[n,C,E,k,l,q,t,pY d i j o.2 u]
 | .ask _,_,o,_ | .rd _ _,_,o,_ | .wr _ _,_,o,_ | .cl _ _ _ _,_,o,_=>o.elim
def pX{p:xL di}{b:di}{a:Int}:∀{s:Sk} {g:Gd},s.ok μ->DJ p b g s (.give a)->g=C9 a s.steps
 | .nil,g,_,h=>h
 | .st _ _ _ r,g,o,h=>by let⟨n,c,e,E,_⟩:=h;rw[E,e];rfl
 | .ask _,_,o,_ | .rd _ _,_,o,_ | .wr _ _,_,o,_ | .cl _ _ _ _,_,o,_=>o.elim
theorem XE{p:xL di}{b:di}{a:Int}:∀{s:Sk} {g:Gd},s.ok μ->DJ p b g s (.give a)->∀{k:Nat} {st:aQ},s.steps[k]?=δ st->Mc p b a st (s.steps.drop$ k+1)
 | .nil,g,_,h,k,st,H=>by simp [Sk.steps]at H
 | .st n j w r,g,o,h,k,st,H=>by
  let⟨N,c,E,l,d,f,i,e⟩:=h;cases k with
  |zero=>cases H;exact#[#[N,c,E,d,f,(pX o.2 e).symm],i]
  |succ k=>rwa[XE o.2 e (by simpa [Sk.steps] using H)]
 | .ask _,_,o,_,_,_,_ | .rd _ _,_,o,_,_,_,_ | .wr _ _,_,o,_,_,_,_ | .cl _ _ _ _,_,o,_,_,_,_=>o.elim
def Bt{p:xL di}{c:di}{f:ρ}{i:xL Int}{S:Sk}{a:Int}(j:dY p f=δ c)(o:S.ok μ)(h:DJ p c (eL (me c) (b6 c.way.sets$ aJ c.ps i) c.way.goal) S (.give a)):oM p f i S a:=by
 erw[#[λF I s A=>oM p F I s A∨(F=f/\I=i/\s=S/\A=a),.inr #[Z,Z,Z,Z],λF I s A k g H O=>?_]];rcases g with g | ⟨rfl,rfl,rfl,rfl⟩
 .let⟨e,z⟩:=g.steps H O;exact#[e,λd=>#[(z d).ex,λf i s b E=>.inl ((z d).cl f i s b E)]]
 .rw[j]at H;cases H;exact#[pX o h,λd=>#[(XE o h d).ex,λf i s b E=>.inl ((XE o h d).cl f i s b E)]]
inductive lF(b:xL V)(H:Hp)(Q:VK)(a:XK):Prop
 |mk(u:V)(w:Sk)(_:b=[u])(_:dS H w u [])(_:w.ok ν)(_:Q (.int w.fnd) H)
def Lx{w W:Sk}(o:w.ok ν)(O:W.ok ν)(h:cj w=cj W)(f:w.fnd=W.fnd):w.wh=W.wh:=by
 let n:∀{a b:ρ} {x y:xL Tr},a≠b->ay (aM a::x)=ay (aM b::y)->False:=λH e=>H (qh e);cases w with
 |nil |st _ _ _ _=>rwa[o.elim]
 |ask b=>
  cases W with
  |nil |st _ _ _ _=>rwa[O.elim]
  |ask B=>rwa[PL Wh.ask f]
  |rd _ _ |wr _ _ |cl _ _ _ _=>exact(n NP h).elim
 |rd c i=>
  cases W with
  |nil |st _ _ _ _=>rwa[O.elim]
  |ask B |wr _ _ |cl _ _ _ _=>exact(n NP h).elim
  |rd C I=>
   let f:i=I:=f;let e:c=C:=by injection h with h;injection h with _ h;injection h with h _;injection h with h;injection h
   show Wh.rd c i=Wh.rd C I;rw[e,f]
 |wr c i=>
  cases W with
  |nil |st _ _ _ _=>rwa[O.elim]
  |ask B |rd _ _ |cl _ _ _ _=>exact(n NP h).elim
  |wr C I=>
   let f:i=I:=f;let e:c=C:=by injection h with h;injection h with _ h;injection h with h _;injection h with h;injection h
   show Wh.wr c i=Wh.wr C I;rw[e,f]
 |cl g j s a=>
  cases W with
  |nil |st _ _ _ _=>rwa[O.elim]
  |ask B |rd _ _ |wr _ _=>exact(n NP h).elim
  |cl G d S A=>have f:a=A:=f;let⟨E,k⟩:=Jx h;show Wh.cl g j a=Wh.cl G d A;rw[E,k,f]
def HQ{H:Hp}{y:xL ρ}{k:ba}{e:DD}(h:uO H y e):∃w:Sk,w.ok ν/\cj w=lS k e/\∀f i s a,w= .cl f i s a->∃g x q d,e= .st g (.cl x f q d)/\i=d.map λc=>c.2.ev k:=by
 cases e with
 |ask t T=>exact#[.ask (if T.ev k=0 then 0 else 1),trivial,Z,λf i s a z=>by cases z]
 |st p l=>
  let⟨v,_,_,_,C⟩:=h;cases l with
  |rd x a T=>exact#[.rd (T.ev k) 0,trivial,Z,λf i s a z=>by cases z]
  |wr a b T U=>exact#[.wr (T.ev k) (U.ev k),trivial,Z,λf i s a z=>by cases z]
  |cl x f q d=>
   erw[#[.cl f (d.map λc=>c.2.ev k) .nil 0,trivial,?_,λF i s a z=>?_]]
   .show ay [aM "call",aM f,ay ((d.map λc=>c.2.ev k).map ar)]=ay [aM "call",aM f,ay$ d.map λc=>ar (c.2.ev k)];rw[Rk];rfl
   .cases z;exact#[p,x,q,d,Z,Z]
  |st x a T |gv a T=>cases C
def AD{H:Hp}{y:xL ρ}{k:ba}{e:DD}(h:uO H y e){f:ρ}{i:xL Int}{s:Sk}{a:Int}(d:cj (.cl f i s a)=lS k e):∃p x q t,e= .st p (.cl x f q t)/\i=t.map λc=>c.2.ev k:=by
 let⟨w,o,D,j⟩:=HQ (k:=k) h;rw[<- D]at d;cases w with
 |nil |st _ _ _ _=>rwa[o.elim]
 |ask b |rd b c |wr b c=>rwa[absurd (qh d) NP]
 |cl g J S A=>let⟨E,l⟩:=Jx d;subst E;subst l;rwa[j _ _ _ _ Z]
def vW{H:Hp}{c:xL V}{k:Nat}{S:Sk}{A:Int}{Q:VK}(d:dS H S .non c)(o:S.ok μ)(x:k<=ο c)(g:∀st,S.steps[k]?=δ st->∃n:Nat,st.1=(n:Int))(q:∀v a,aS a (LO$ C9 A$ S.steps.drop k) v []->aa H a->Q v a):(∃(p h:ζ) (n:Int) (d:xL Int) (u:V),c[k]?=↑p/\H p=δ (.tup [.int n,.ref h,u])/\H h=δ (.tup$ d.map vr)/\∀(v:V) (a:Hp),aS a (ay [aM "go",ar n,ay$ d.map ar]) v []->aa H a->Q v a)∨(k=ο c/\∀(v:V) (a:Hp),aS a (ay [aM "give",ar A]) v []->aa H a->Q v a):=by
 let L:=zc o d;by_cases h:k < ο c
 .let⟨n,b,w,p,i,u,f,_,_,_,j,l,m,_⟩:=zV o d (On h);erw[.inl #[p,i,n,b,u,by rw[<- j];rwa[On h],l,m,λv a t s=>q v a ?_ s]];let e:S.steps.drop k=(n,b,w)::S.steps.drop (k+1):=by let⟨r,e⟩:=ξ.mp f;rw[UN r,e]
  let⟨N,E⟩:=g _ f;let E:n=(N:Int):=E;rw[e];show aS a (ay [aM "go",ar ((n.toNat:Nat):Int),ay$ b.map ar]) v [];rw[E]at t ⊢;rwa[t]
 .erw[.inr #[NO,λv a t s=>q v a ?_ s]];rw[List.drop_eq_nil_iff.mpr NO];rwa[t]
def Yr{os:xL aQ}{m j:Nat}{w:Sk}(h:f8 os m w=δ j):∃f i s a,w= .cl f i s a/\lT (dh f i) os m=δ j:=by
 cases w with
 |cl f i s a=>exact#[f,i,s,a,Z,h]
 |_=>cases h
def LL(os:xL aQ)(p:aO)(t:ym Nat)(Y:Sk->xL aO):Prop:=match t with
 |none=>Y=λw=>(c7 p w).tail
 |some j=>∃o,os[j]?=δ o/\((∃f i s a,o.2.2= .cl f i s a/\Y=λw=>fj w s.steps 0 p 0)∨((∀f i s a,o.2.2≠ .cl f i s a)/\Y=λw=>(c7 p w).tail))
def yM{w:Sk}(o:w.ok ν)(p:aO):(c7 p w).tail.length=w.size:=by show((w.ws p 0).map (·.1)).length=_;rw[Oq,kY o]
def LL.len{os:xL aQ}{p:aO}{t:ym Nat}{Y:Sk->xL aO}(h:LL os p t Y){w:Sk}(o:w.ok ν):(Y w).length<=w.size:=by
 let k:Y=(λw=>(c7 p w).tail)∨∃s:Sk,Y=λw=>fj w s.steps 0 p 0:=by
  cases t with
  |none=>rwa[.inl h]
  |some j=>
   obtain⟨o,_,⟨f,i,s,a,_,e⟩ | ⟨_,e⟩⟩:=h
   .rwa[.inr #[s,e]]
   .rwa[.inl e]
 rcases k with rfl | ⟨s,rfl⟩
 .rwa[Tz$ yM o p]
 .let:=(qZ (b:=ν) o s.steps 0 p 0 (λ_=>Z)).length_le;rw[Oq,kY o]at this;rwa[this]
def Au{w:Sk}(o:w.ok ν)(n:∀f i s a,w≠ .cl f i s a)(os:xL aQ)(p:aO):(c7 p w).tail=[]/\fj w os 0 p 0=[]:=by
 cases w with
 |nil |st _ _ _ _=>rwa[o.elim]
 |cl f i s a=>rwa[absurd Z (n f i s a)]
 |_=>exact#[Z,Z]
def DR{os:xL aQ}{m:Nat}{n:Int}{h:xL Int}{w:Sk}{pn:aO}{k:Nat}{t:ym Nat}{Y:Sk->xL aO}(c:fi os m n h w=t)(H:LL os (pn++[(k:Int)]) t Y)(O:w.ok ν)(d:∀j o,t=δ j->os[j]?=δ o->(∀f i s a,o.2.2≠ .cl f i s a)->∀f i s a,w≠ .cl f i s a):
  ((∀j o,t=δ j->os[j]?=δ o->¬(aW n h o=μ/\o.2.2.fnd=w.fnd))->(Y w++[pn++[(k:Int)]]).Perm (At os m n h w pn k))/\(∀j o,t=δ j->os[j]?=δ o->aW n h o=μ->o.2.2.fnd=w.fnd->(Y w).Perm (At os m n h w pn k)):=by
 unfold At;rw[c];cases t with
 |none=>have H:Y=λw=>(c7 (pn++[(k:Int)]) w).tail:=H;subst H;erw[#[λ_=>?_,λj o z=>by cases z]];show((w.ws (pn++[(k:Int)]) 0).map (·.1)++[pn++[(k:Int)]]).Perm ((pn++[(k:Int)])::(w.ws (pn++[(k:Int)]) 0).map (·.1));rwa[TM]
 |some j=>
  let⟨o,b,l⟩:=H;dsimp only;rw[b];dsimp only;let p:Y w=fj w (sM o.2.2) 0 (pn++[(k:Int)]) 0:=by
   rcases l with ⟨f,i,s,a,e,rfl⟩ | ⟨N,rfl⟩
   .rw[e];rfl
   .let⟨g,E⟩:=Au O (d j o Z b N) (sM o.2.2) (pn++[(k:Int)]);rw[E];rwa[g]
  rw[p];erw[#[λq=>?_,λJ v g E r u=>?_]]
  .rw[OD$ q j o Z b];rwa[TM]
  .cases g;rw[b]at E;cases E;rw[OB #[r,u]];rwa[Rh _]
def wq{os:xL aQ}{m:Nat}{w W:Sk}(o:w.ok ν)(O:W.ok ν)(h:cj w=cj W):f8 os m w=f8 os m W:=by
 by_cases c:∃f i s a,W= .cl f i s a
 .let⟨f,i,s,a,rfl⟩:=c;let⟨S,A,rfl⟩:=KL o h;rfl
 .let e:f8 os m W=θ:=by
   cases W with
   |cl f i s a=>rwa[absurd #[f,i,s,a,Z] c]
   |_=>rfl
  let E:f8 os m w=θ:=by
   cases w with
   |cl f i s a=>let⟨S,A,rfl⟩:=KL O h.symm;rwa[absurd #[_,_,_,_,Z] c]
   |_=>rfl
  rw[e,E]
def M7(e:DD)(k:ba)(os:xL aQ)(m:Nat):ym Nat->Prop
 |none=>True
 |some j=>m<=j/\∃o,os[j]?=δ o/\∀f i s a,o.2.2= .cl f i s a->∃p x q t,e= .st p (.cl x f q t)/\i=t.map λc=>c.2.ev k
def Ls{H:Hp}{e:ζ}{v J:xL V}{Q:VK}{E:XK}{S:Sk}{N:Int}{d:DD}{k:ba}{m:Nat}{T:ym Nat}{b:xL di}{R:di}(z:J=[.ref e,i9 T])(U:H e=δ (.tup v))(g:dS H S .non v)(O:S.ok μ)(W:S.size<=1000)(A:∀{k:Nat} {st:aQ},S.steps[k]?=δ st->Mc b R N st (S.steps.drop$ k+1))(B:M7 d k S.steps m T)(C:aO)(q:∀(y:V) (Y:Sk->xL aO),((y= .non/\Y=λw=>(c7 C w).tail)∨∃(D:ζ) (x f:ρ) (q:ζ) (t:xL (ζ×Tm)) (s:Sk) (a:Int) (c:ζ),d= .st D (.cl x f q t)/\y= .ref c/\gW H f (t.map λc=>c.2.ev k) s a (.ref c)/\s.ok μ/\s.size<=1000/\oM b f (t.map λc=>c.2.ev k) s a/\Y=λw=>fj w s.steps 0 C 0)->LL S.steps C T Y->Q y H):
  mq J H Q E:=by
 subst z;erw[#[e,v,U,?_]];cases T with
 |none=>rwa[.inl #[Z,q _ _ (.inl #[Z,Z]) Z]]
 |some j=>
  let⟨_,o,i,F⟩:=B;let X:=zc O g;let L:j < ο v:=by rw[X];exact(ξ.mp i).1
  let⟨n,hs,w,p,h,u,M,l,_,r,ex,h2,h3,h4⟩:=zV O g (On L);rw[i]at M;cases M;erw[.inr #[p,h,j,n,u,w,Z,by rw[<- ex];rwa[On L],h2,h4,l,λy G=>?_]];rcases G with ⟨no,rfl⟩ | ⟨f,is,s,a,c,rfl,rfl,I⟩
  .rwa[q _ _ (.inl #[Z,Z]) #[_,i,.inr #[no,Z]]]
  .let⟨D,x,q',t,e1,e2⟩:=F f is s a Z;subst e2;let r:s.size+1<=S.size:=r;rwa[q _ _ (.inr #[D,x,f,q',t,s,a,c,e1,Z,I,l,NO,(A i).cl _ _ _ _ Z,Z]) #[_,i,.inl #[f,_,s,a,Z,Z]]]
abbrev LP:=GX
inductive MV(M:Nat)(a:oy)(pd:di)(u:OC)(T C r A y z R Z s c sl:ζ)(d:Df)(b t j:Nat)(X:xL aO)(Y:xL aQ)(ps:aO)(w:ba)(v:V)(ss:xL V)(H:Hp)(Q:Nat)(σ:_L.St)(x:Hp):Prop
 |mk(U W o p q:ym V)(P:V)(g:Gd)(m S:Nat)(sk:Sk)(n:xL V)(L:ba)(B:σ=[↑r,↑s,↑c,δ (.int (b:Int)),δ v,↑sl,δ (.int (m:Int)),δ P,U,W,o,p,q])(D:x sl=δ (.lst n))(E:dS x sk .non n)(F:sk.ok μ)(G:sk.dep+1<=j)(I:m<=ο ss)(J:y7 x T d P g)(K:Rn x C r A (dH y) z R Z M (t+sk.size) L w)(N:An x y (X++fj sk Y 0 ps 0))(O:ο L<=t+sk.size)(e:t+sk.size<=M)(f:dU r R y H x)(h:Q+t+sk.size=M+1)(i:(iW M a w pd S g L (t+sk.size)).pre sk=u)(k:M+2<=S+(t+sk.size))(l:m=Eu sk Y 0)
def tU{f:ζ}{k:cc}(F:xD K "found_in" hX f k):⇑1 f k ["what"] lF:=by
 erw[F.ok mf λC A o s H v Q E x h=>?_]
 let⟨u,w,rfl,m,d,q⟩:=h;erw[#[_,(jg$ jo$ kL (jZ$ jv$ pv 0) (jv$ jq jE (pv 0) jf ∅)$ jq jE (pv 0) (xk YS jf) ∅),?_]];cases w with
 |nil |st _ _ _ _=>rwa[d.elim]
 |ask b |rd a i |wr a i=>let⟨p,rfl,n⟩:=m;exact(jr n eJ #[Z,_,Z,aV NM #[_,Z,_,Z,p,_,_,_,Z,Z,aF.of n,Z,q]])
 |cl f I s i=>let⟨p,c,g,e,S,rfl,r,t,_⟩:=m;exact(jr r eJ #[Z,_,Z,cq NM$ jr r iB #[c,_,_,_,Z,Z,aF.of t,jH (j:=3) Z,q]])
def gL:am ["self","path","old","deep","part","steps","mark","goal","here","like","deed","taken","step"] z15z (ae BL):=bV
def Iw{f:ζ}{fd:cc}{j:Nat}{C TL TD nA fN fG fL fV fI fE fO fK fF fW:ζ}{j4 j5 j' k0 k1 k2 k3 k4 k5 f0:cc}(F:aU K "chain_along" "AgainRun.chain_along" BL f fd)(ck:RK K C)(n6:a9 K C "anew")(cN:‹2› fN j4 ["parts","f"] iI "part_of")(cG:‹1› fG j5 ["chain","number"] n8 "goal_at")(cL:‹1› fL j' ["steps","mark","cut"] lJ "like_from")(cV:‹2› fV k0 ["steps","mark","deed"] lI "lender_from")(cI:‹1› fI k1 ["what"] mj "deed_in")(cE:‹9› fE k2 z5z (dI nA) "deed_at")(cO:‹9› fO k3 z17z (ni nA) "onward")(cK:‹1› fK k4 ["steps","at"] mq "chain_taken")(cF:‹1› fF k5 ["what"] lF "found_in")(GW:ai P w K mg base (dF P w) (2*j+39) fW f0 z27z (Gj C TL TD nA j))(bW:aE K f0 z27z [])(m0:bh K C "what_along" fW)(ml:mg "len"=θ)(m1:mg "tuple"=θ):ai P w K mg base (dF P w) (2*j+40) f fd z15z (nW C TL TD nA$ j+1):=by
 erw[F.ok1 gL λr8 A k6 s H vs Q E hr h=>?_]
 symm;let⟨M,r,dx,aA,cA,lA,pA,p1,c,ps,d0,t,i,X,L,O,U,ao,d,ds,ns,xs,I,is,rfl,r9,r',hR,hA,t8,k7,ht,hP,d5,t',hd,hn,k8,k',o1,s0,d6,q,t5⟩:=h;erw[#[_,(jd (jA 4 gL.nd$ cN.e hr.m$ ja (kW (pv 0) Z)$ ja (jv$ pv 2) jb)$ jd (jA 5 gL.nd$ jF jb)$ jd (jA 6 gL.nd jf)$ jd (jA 7 gL.nd$ cG.e hr.m$ ja (pv 2)$ ja (pv 6) jb)$ jd (Jq U5 (jZ$ jv$ pv 7)$ jd (jA 8 gL.nd$ jw jU (pv 1)$ ji$ ja (jO jL Z ml Pm$ ja (pv 5) jb) jb)$ jd (jA 9 gL.nd$ cL.e hr.m$ ja (jv$ pv 2)$ ja (pv 6)$ ja (jJ kc (pv 7) (jG jf) jT) jb)$ jd (jy (jz qW (pv 9) (@kl _ _ _)$ aD _) (jd (jA 10 gL.nd$ cE.e hr.m$ ja (pv 4)$ ja (jv$ pv 7)$ ja (jv$ pv 7) jb)$ jg$ jA 11 gL.nd$ cV.e hr.m$ ja (jv$ pv 2)$ ja (pv 6)$ ja (pv 10) jb)$ jd (jA 10 gL.nd$ cI.e hr.m$ ja (jv$ jq jE (jq jE (pv 2) jf ∅) (pv 9) ∅) jb)$ jg$ jA 11 gL.nd$ pv 9)$ jd (jA 6 gL.nd$ kL (jz qW (pv 11) (@kl _ _ _)$ aD _) (pv 6)$ jw jX (pv 11) jf)$ jd (jA 12 gL.nd$ jw jU (jJ kc (pv 7) (jG jf) jT)$ ji$ ja (kf (pv 0) ck.cl m0 GW hr.m bW .nil ke$ ja (pv 8)$ ja (cK.e hr.m$ ja (jv$ pv 2)$ ja (pv 11) jb)$ ja (pv 10)$ ja (pv 3) jb) jb)$ jd (jN$ j9 OF OR OQ jQ (pv 5)$ ja (pv 12) jb)$ jg$ jy (PW.pt$ qv (jz Bx (pv 9) (@kl _ _ _)$ aD _)$ zN$ jz qr (cF.e hr.m$ ja (jv$ pv 12) jb) (cF.e hr.m$ ja (jv$ jq jE (jq jE (pv 2) jf ∅) (pv 9) ∅) jb)$ aD _) (jg$ jA 7 gL.nd$ cG.e hr.m$ ja (pv 2)$ ja (pv 6) jb)$ jd (jN$ j9 OF OR OQ jQ (kW (pv 0) Z)$ ja (pv 8) jb)$ jg$ jA 7 gL.nd$ cO.e hr.m$ ja (pv 4)$ ja (pv 12) jb)$ jg$ jo$ ji$ ja (jv$ pv 2)$ ja (jv$ pv 2)$ ja (jI jK Z m1 P'$ ja (pv 5) jb)$ ja (jv$ pv 7) jb),?_]];let u0:=aN;let hM:=hR.hm;symm;let⟨c',gA,eA,ss,ec,hc,hg,he,b7⟩:=k';cases ec;let⟨v,hv,_,l6,l8⟩:=hP.at hd;let⟨ys,B,l',u1,pr,d7⟩:=hP.part hd hv;let⟨m2,a5⟩:=d6.steps d7 o1;let l3:=zc o1 b7;let u3:=qA o1 b7;let b':∀(k:Nat) (st:aQ),U.steps[k]?=δ st->∃n:Nat,st.1=(n:Int):=λ(k:Nat) (st:aQ) h=>let #[#[n,_,e,_],_]:=a5 h;#[n,e]
 let c1:aZ M I O (j+1) d.f is L t=iW M (aZ M I O j) O B (M+2) (eL (me B) (b6 B.way.sets$ aJ B.ps is) B.way.goal) L t:=by show(match dY I d.f with |none=>OC.long |some B=>iW M (aZ M I O j) O B (M+2) (eL (me B) (b6 B.way.sets$ aJ B.ps is) B.way.goal) L t)=_;rw[d7]
 right;generalize aZ M I O (j+1) d.f is L t=t3 at q t5 c1;sleep 5;erw[ah λF1 y=>#[_,Z,r,C,dx,_,_,Z,hR.ins,ck.cl,ck.n5,Z,jr hc eJ #[pA,d.f,xs,i,v,Z,hP.at',hv,l6,l8,y _ _ ?_]]];left;erw[ah λF1 y=>#[gR,λsl n0=>y _ _ ?_]];left;let s1:aa H (af H sl$ .lst []):=je n0;let l1:af H sl (.lst []) sl=δ (.lst []):=jc;generalize af H sl (.lst [])=H1 at s1 l1 ⊢;erw[ah λF1 y=>y _ _ ?_];left;erw[ah λF1 y=>#[_,Z,_,Z,d.f,is,U,ao,c,gA,eA,ss,0,Z,s1 _ _ hc,s1 _ _ he,vW (b7.mono$ aa.tm s1) o1 (OA _) (b' 0) λgl H2 h3 s2=>y _ _ ?_]];left;let S2:=s1.trans s2;let gz:GT (aJ B.ps is):=qc k8;let h3:aS H2 (LO$ C9 ao U.steps) gl []:=h3;rw[<- m2]at h3;let g1:=JO (H:=H) (nA:=nA) (d:=d) (by rw[YX,pr.nms];rwa[h3]) (zz pr.wv.sets gz) pr.wv.goal;rw[pr.nms]at g1;let d8:sl≠r:=O3 (jk hR.ins n0);let d':sl≠lA:=O3 (jk hR.lf n0);let m3:cA≠sl:=jk hR.ce n0;let s9:aA≠sl:=by let⟨as,_,h1,_⟩:=hA.ex;rwa[jk h1 n0]
 erw[ah λF1 y=>?_];erw[nC (MV M (aZ M I O j) B t3 nA C r dx aA cA lA pA p1 c sl d d0 t (j+1) X U.steps ps O v ss H) (M+1 - t) #[θ,θ,θ,θ,θ,gl,_,0,M+2,.nil,[],L,Z,s2 _ _ l1,Z,trivial,by show 0+1<=j+1;rwa[N09],OA _,g1,hR.same S2,(by show An H2 aA (X++[]);rw[O2];rwa[hA.same S2]),k7,ht,dU.of_same S2,by show M+1 - t+t+0=M+1;omega,by rw[c1];show OC.pre .nil (iW M (aZ M I O j) O B (M+2) _ L t)=_;cases iW M (aZ M I O j) O B (M+2) (eL (me B) (b6 B.way.sets$ aJ B.ps is) B.way.goal) L t<;>rfl,by show M+2<=M+2+(t+0);omega,Z] ?_];intro kk σ H3 E' rt fE F kT cF.k Gq kq hW;symm;let⟨o8,o9,u4,u8,o7,gl,gd,m,mm,sk,N,L1,rfl,w1,w2,w3,w4,w5,w6,w7,w8,w9,f4,w',u9,W,u',m4⟩:=hW;obtain⟨mm,rfl⟩:∃m',mm=m'+1:=#[mm - 1,NO];let t0:=hA.tm hR w';let r7:=qA w3 w2;cases w6 with
 |give gp a e6 h5 ia=>subst e6;erw[kq$ jr h5 Z #[Z,_,Z,?_]];rw[show decide (tT (Str.ofString "give")=tT (Str.ofString "go"))=ν by decide+kernel];erw[cF.k _$ y _ _ ?_];erw[(jr (t0 _ _ hc) eJ$ jr (t0 _ _ hc) iB #[_,Z,sl,N,Z,.inl #[aL.of w1,λl2 m5=>?_]])];let s4:aa H3 (af H3 l2$ .tup N):=je m5;erw[(jr (s4 _ _ h5) iB #[oF,λv2 nv=>?_])];let s5:=s4.trans (je (o:=.tup [.str d.f,.ref gA,.ref l2,.int a]) nv);let W:OC.ok (sk.app .nil) a L1 (t+sk.size)=t3:=W;rw[KW w3]at W;rwa[q _ sk a L1 _ W.symm #[v2,gA,l2,N,Z,jc,s5 _ _$ t0 _ _ hg,aq jc nv,w2.mono$ aa.tm s5] w3 w4 ia (w7.same s5) w9 f4 (w8.same s5) (w'.trans$ dU.of_same s5)]
 |go gp h8 n Y hs e6 h5 h6 b2 hl hi=>
  subst e6;erw[kq$ jr h5 Z #[Z,_,Z,?_]];rw[show decide (tT (Str.ofString "go")=tT (Str.ofString "go"))=μ by decide+kernel];erw[kT _ ?_];let P1:=l'.mono t0;symm;let⟨pa,ca,wv,cs,v1,v3,_,_,m6⟩:=P1.parts;let⟨ka,na,wa,dv,v4,_,f5⟩:=P1.cut m6 b2;let m7:n < ο B.cs:=by rw[pr.len];exact(ξ.mp b2).1
  obtain⟨cd,c4⟩:∃cd,B.cs[n]?=δ cd:=#[_,On m7];let cr:=(pr.cs n Y cd b2 c4).mono t0;let⟨m8,e,c0⟩:=cd;let⟨c5,ed,d1,m9,p2,p3⟩:=cr;let c5:m8=canon Y.M:=c5;subst c5;let W:OC.pre sk (match B.cs[n]? with
   |none=>OC.long
   |some c=>match gZ M (aZ M I O j) O (aJ c.nm hs) L1 (t+sk.size) c.e with
    | .ok w L1 t1=>(iW M (aZ M I O j) O B mm (nF B c hs w.wh) L1 t1).cons (n:Int) hs w
    | .long=>.long
    | .deep=>.deep)=t3:=W
  rw[c4]at W;let W:OC.pre sk (match gZ M (aZ M I O j) O (aJ (canon Y.M) hs) L1 (t+sk.size) e with
    | .ok w L1 t1=>(iW M (aZ M I O j) O B mm (nF B #[canon Y.M,e,c0] hs w.wh) L1 t1).cons (n:Int) hs w
    | .long=>.long
    | .deep=>.deep)=t3:=W
  let gk:GT (aJ (canon Y.M) hs):=qc hi;let f6:e.Cs ((ds.map Df.f).zip ns):=by
   symm;cases e with
   |ask=>right;trivial
   |st p0 l=>cases l<;>first |trivial |exact hP.cs hd _ m9
  let h':=t0 _ _ hc;let a0:=t0 _ _ he;let h0:=b7.mono t0;let gU:ο N<=M:=NO
  sleep 6;erw[ah λF1 y=>#[_,Z,_,Z,sl,_,Z,.inl$ aL.of w1,iT,λq1 n7=>#[p1,q1,ps.map vr,_,Z,Z,aq (t0 _ _ d5) n7,jc,(by rw[Oq];show ο ps+1<=τ;omega),λq2 H4 e4 s4=>y _ _ ?_]]];left;let S4:aa H3 H4:=(je n7).trans s4;let e4:H4 q2=δ (.tup ((ps++[(N.length:Int)]).map vr)):=by rw[OU];rwa[e4]
  erw[ah λF1 y=>(jr (S4 _ _ h') eG #[_,Z,_,Z,_,Z,gp,_,Z,S4 _ _ h5,λq3 H5 e5 s5=>?_])];let S5:=S4.trans s5;let e5:H5 q3=δ (.tup [.int (n:Int),.ref h8]):=e5;erw[#[eA,ss,U,m,(n:Int),hs,.ref q3,Z,S5 _ _ a0,h0.mono$ aa.tm S5,o1,s0,NO,jD e5$ jl Z jV$ jl Z (kX$ S5 _ _ h6) jB,λH6 s6=>y _ _ ?_]];let S6:=S5.trans s6;erw[ah λF1 y=>?_];let nx:∀(lk tk:ym Nat) (ud:V) (H7:Hp),aa H3 H7->H7 q2=δ (.tup ((ps++[(N.length:Int)]).map vr))->aS H7 (lS (aJ (canon Y.M) hs) e) ud []->M7 e (aJ (canon Y.M) hs) U.steps m tk->(∀J,lk=δ J->tk=δ J/\∃o,U.steps[J]?=δ o/\o.2.2.ok ν/\cj o.2.2=lS (aJ (canon Y.M) hs) e/\C9 ao (U.steps.drop$ J+1)=nF B #[canon Y.M,e,c0] hs o.2.2.wh/\aW (n:Int) hs o=μ)->(∀w:Sk,w.ok ν->cj w=lS (aJ (canon Y.M) hs) e->fi U.steps m (n:Int) hs w=tk)->(∀J o,tk=δ J->U.steps[J]?=δ o->aW (n:Int) hs o=μ->lk=δ J)->F1 [↑r,↑p1,↑c,δ$ .int (d0:Int),δ v,↑sl,δ$ .int (m:Int),↑gp,↑q2,δ$ i9 lk,δ ud,δ$ i9 tk,o7] H7:=by
   intro lk tk ud H7 S7 p4 h4 f7 b3 p5 f9;erw[y _ _ ?_];left;let p6:LP m tk<=ο ss:=by
    symm;cases tk with
    |none=>rwa[w5]
    |some J=>let⟨_,o,ho,_⟩:=f7;let:=(ξ.mp ho).1;show J+1<=ο ss;omega
   erw[ah λF1 y=>?_];let n':F1 [↑r,↑p1,↑c,δ$ .int (d0:Int),δ v,↑sl,δ$ .int ((LP m tk:Nat):Int),↑gp,↑q2,δ$ i9 lk,δ ud,δ$ i9 tk,o7] H7:=by
    erw[y _ _ ?_];left;erw[ah λF1 y=>#[_,Z,_,Z,gp,_,Z,S7 _ _ h5,λq4 H8 e8 s8=>?_]];let S8:=S7.trans s8;let e8:H8 q4=δ (.tup [.int (n:Int),.ref h8]):=e8;let R8:=w7.same S8;let A8:=w8.same S8;let t7:=t0.trans (aa.tm S8);let g2:=s8 _ _ p4;erw[#[_,Z,r,dx,_,Z,R8.ins,Z,_,Z,jr (S8 _ _ h') eG #[_,Z,Ls Z (S8 _ _ a0) (h0.mono$ aa.tm S8) o1 s0 a5 f7 (ps++[(N.length:Int)]) λov Yf p7 hY=>?_]]];erw[#[_,Z,_,Z,M,r,dx,aA,cA,lA,pA,q2,ps++[(N.length:Int)],d0,t+sk.size,X++fj sk U.steps 0 ps 0,Yf,L1,O,aJ (canon Y.M) hs,ov,ud,e,ys,ds,ns,xs,I,Z,NO,R8,A8,(by rw[Ot];let:=Xt w3 U.steps 0 ps 0;omega),w9,f4,hP.mono t7,g2,by rw[Ot];show ο ps+1+j<=60;omega,NN,h4.mono$ aa.tm s8,d1.mono$ aa.tm S8,gk,f6,p7,λw vv L' H9 e9 p8 o4 ft p9 R9 l9 t9 A9 k9=>?_,iR.next3 ((t5.imp (λz=>by rw[z]at W;rwa[W.symm]) (λz=>by rw[z]at W;rwa[W.symm])).mono λH9 kk=>λb o n1 n2 n3 nx e=>kk b o n1 n2 n3 nx (S8 _ _$ w' _ _ n1 n2 n3 e))]];let t4:=A8.tm R8 k9;erw[#[iT,λq5 g4=>#[q4,q5,_,_,Z,Z,aq (t4 _ _ e8) g4,jc,(by show 2+1<=τ;omega),λq6 S e7 p'=>y _ _ ?_]]];left;let S1:aa H9 S:=(je g4).trans p';let K1:dU r lA aA H3 S:=((dU.of_same S8).trans k9).trans (dU.of_same S1);let t6:aj H3 S:=w8.tm w7 K1;let e7:S q6=δ (.tup [.int (n:Int),.ref h8,vv]):=e7;let l0:S sl=δ (.lst N):=K1 _ _ d8 d' s9.symm w1;let R3:=R9.same S1;let A3:=A9.same S1;let v0:=p8.mono (aa.tm S1);let g5:S q2=δ (.tup ((ps++[(N.length:Int)]).map vr)):=S1 _ _ (t4 _ _ g2);erw[ah λF1 y=>#[_,Z,.inl #[Z,_,aL.of l0],_,Z,sl,_,_,Z,Z,l0,NO,y _ _ ?_]];left;let b1:aI sl S (af S sl$ .lst$ N++[.ref q6]):=λb o nb e=>by rw[jh nb];rwa[e]
    let D:aj S (af S sl$ .lst$ N++[.ref q6]):=λb xs e=>b1 _ _ (jM e l0 BT) e;let l4:af S sl (.lst$ N++[.ref q6]) sl=δ (.lst$ N++[.ref q6]):=jc;generalize af S sl (.lst$ N++[.ref q6])=H0 at b1 D l4;let g:=t6.trans D;let h7:w.wh.side < ο Y.ws:=by
     rw[f5.v.len,<- ed];symm;cases e with
     |ask ta T=>show _ < 2;unfold Wh.side;split<;>(try split)<;>omega
     |st p0 l=>show _ < 1;symm;cases w<;>first |exact Nat.one_pos |exact o4.elim | (cases l<;>rwa[ft.elim])
    symm;obtain⟨w0,c2⟩:∃w0,c0[w.wh.side]?=δ w0:=#[_,On (by rw[p2];rwa[h7])];let⟨g6,b4⟩:=p3 _ _ w0 (On h7) c2;let c6:nF B #[canon Y.M,e,c0] hs w.wh=eL (me B) (b6 w0.sets$ oC e w.wh$ aJ (canon Y.M) hs) w0.goal:=by show(match c0[w.wh.side]? with |some wd=>eL (me B) (b6 wd.sets$ oC e w.wh$ aJ (canon Y.M) hs) wd.goal |none=>Gd.give 0)=_;rw[c2]
    rw[e9]at W;let W:OC.pre sk ((iW M (aZ M I O j) O B mm (nF B #[canon Y.M,e,c0] hs w.wh) L'$ t+sk.size+1+w.size).cons (n:Int) hs w)=t3:=W;rw[Yn _ w3]at W;let g7:=Jv (n:=(n:Int)) (hs:=hs) (w:=w) w3;let ez:t+sk.size+1+w.size=t+(Sk.put (n:Int) hs w sk).size:=by rw[g7];omega
    let R1:Rn H0 C r dx (dH aA) cA lA pA M (t+sk.size+1+w.size) L' O:=#[b1 _ _ d8.symm R3.ins,b1 _ _ d'.symm R3.lf,b1 _ _ m3 R3.ce,R3.iL,R3.iC,R3.cl,R3.tl,R3.hm];let A2:An H0 aA ((X++fj sk U.steps 0 ps 0)++Yf w):=A3.keep D λo e=>b1 _ _ s9 e;rw[ez]at R1 l9 t9 W;let e':=p5 w o4 (Xq e9);let l5:ο N=ο sk.steps:=zc w3 w2;let e3:=uX (n:=(n:Int)) (hs:=hs) (w:=w) (os:=U.steps) (pn:=ps) (m:=0) (k:=0) w3;rw[<- m4,Ss,<- l5]at e3;let⟨q0,q7⟩:=DR (pn:=ps) (k:=N.length) e' hY o4 (λJ o e1 e2 no f is s a ew=>by
     subst ew;rw[e1]at e';let⟨_,o2,g8,h2⟩:=zB e';rw[e2]at g8;cases g8;rcases h2 with h2 | ⟨f',i0,s',a',ew,h2⟩
     .let⟨_,o3,g',r0,d3,_⟩:=b3 J (f9 J o e1 e2 h2);rw[e2]at g';cases g';let⟨s',a',z⟩:=KL r0 (d3.trans (Xq e9).symm);rwa[no _ _ _ _ z]
     .let⟨s2,a2,z⟩:=ZM h2;rwa[no _ _ _ _ z])
    let i1:∀(g0:V) (H':Hp),aj H0 H'->(∀b o,b≠aA->H0 b=δ o->H' b=δ o)->An H' aA (X++fj (Sk.put (n:Int) hs w sk) U.steps 0 ps 0)->aS H' (LO$ nF B #[canon Y.M,e,c0] hs w.wh) g0 []->E'.nx [↑r,↑p1,↑c,δ$ .int (d0:Int),δ v,↑sl,δ$ .int ((LP m tk:Nat):Int),δ g0,↑q2,δ$ i9 lk,δ ud,δ$ i9 tk,↑q6] H':=by
     intro g0 H' G b0 A1 h3;let i2:=JO (H:=H3) (nA:=nA) (d:=d) (by rw[YX,pr.nms,<- c6];rwa[h3]) (zz b4.sets$ Xm ft gk) b4.goal;rw[pr.nms,<- c6]at i2;let n4:=A2.ne R1;erw[fE (kk - (w.size+1)) _ _ NO #[_,_,_,_,_,g0,_,LP m tk,mm,Sk.put (n:Int) hs w sk,N++[.ref q6],L',Z,b0 _ _ s9.symm l4,ZJ (G _ _$ D _ _ e7) (G _ _$ g _ _ h6) ((v0.mono D).mono G) w3 ((w2.mono g).mono G),Kn o4 w3,?_,p6,i2,#[b0 _ _ n4.1.symm R1.ins,b0 _ _ n4.2.1.symm R1.lf,b0 _ _ n4.2.2.symm R1.ce,R1.iL,R1.iC,R1.cl,R1.tl,R1.hm],A1,l9,t9,?_,by rw[g7];omega,W,NO,by rw[e3.2,e']]]
     .let:=Ko (n:=(n:Int)) (hs:=hs) (w:=w) (j:=j) p9 w3 NO;omega
     .intro b o n1 n2 n3 e;rwa[b0 _ _ n3$ b1 _ _ (jk e n0)$ K1 _ _ n1 n2 n3$ w' _ _ n1 n2 n3 e]
    erw[oU λG1 yT yF=>?_];let i3:(∀J o,tk=δ J->U.steps[J]?=δ o->¬(aW (n:Int) hs o=μ/\o.2.2.fnd=w.fnd))->G1 ν H0:=by
     intro r1;erw[yF _ ?_];symm;let⟨as,qs,a1,a3,aP⟩:=A2.ex;let a2:ο as<=t+sk.size+w.size:=by rw[a3.len,aP.length_eq,Ot,Ot];let:=Xt w3 U.steps 0 ps 0;let:=hY.len o4;omega
     erw[ah λF1 y=>#[_,Z,r,C,dx,_,_,Z,R1.ins,ck.cl,n6,Z,.inl #[Z,_,aL.of a1],_,Z,aA,as,_,Z,Z,a1,NO,y _ _ ?_]];left;let i4:=D _ _ g5;let A1:An (af H0 aA$ .lst$ as++[.ref q2]) aA (X++fj (Sk.put (n:Int) hs w sk) U.steps 0 ps 0):=An.add a1 a3 (bg.one (R:=em) (w:=ps++[(N.length:Int)]) #[q2,Z,i4]) (by rw[e3.1];erw[(aP.append_right _).trans ?_];rw[Pb,Pb];exact((q0 r1).append_left _).append_left _);let G:aj H0 (af H0 aA$ .lst$ as++[.ref q2]):=λb xs e=>by rw[jh$ jM e a1 BT];rwa[e]
     let b0:∀b o,b≠aA->H0 b=δ o->af H0 aA (.lst$ as++[.ref q2]) b=δ o:=λb o nb e=>by rw[jh nb];rwa[e]
     generalize af H0 aA (.lst$ as++[.ref q2])=H' at A1 G b0;let t2:=g.trans G;let sv:i8 H' nA d ys v q6 n h8 vv Y hs w.wh e w0:=#[P1.mono t2,G _ _$ D _ _ e7,b2,t2 _ _ h6,hl,hi,(GH o4 v0).mono$ D.trans G,ed,d1.mono t2,ft,by rw[g6];rwa[On h7],b4.mono t2];erw[#[_,Z,_,Z,v,vv,q6,h8,n,d,ys,Y,hs,w.wh,e,w0,Z,sv,λu2 i' b8 c9=>i1 u2 i' (G.trans$ aa.tm c9) (λb o nb e=>c9 _ _ (b0 _ _ nb e)) (A1.same c9) ?_]];let b8:aS i' (oW (eM nA d) (b6 w0.sets$ oC e w.wh$ aJ (canon Y.M) hs) w0.goal) u2 []:=b8;rw[YX,pr.nms,<- c6]at b8;rwa[b8]
    symm;cases lk with
    |none=>exact#[_,Z,Z,_,Z,aV (by show(!decide (V.non=V.non))=ν;rw[OE Z];rfl) (i3 λJ o e1 e2 z=>by let:=f9 J o e1 e2 z.1;cases this)]
    |some J=>
     let⟨j0,o,ho,o5,r2,j1,d2⟩:=b3 J Z;subst j0;let a4:J < ο ss:=by rw[l3];exact(ξ.mp ho).1
     let⟨n2,v5,wo,p,h,u,z1,_,_,_,ex,hp,hh,hw⟩:=zV o1 h0 (On a4);rw[ho]at z1;cases z1;let hk:ss[J]?=↑p:=by rw[<- ex];rwa[On a4]
     erw[#[_,Z,Z,_,Z,cq (by rw[Oz BT];rfl)$ jr (D _ _ e7) eG #[vv,w,Z,v0.mono D,o4,jr (g _ _ h') eG #[_,Z,eA,_,_,_,Z,Z,aF.of$ g _ _ a0,jH hk,p,_,_,_,Z,Z,aF.of$ g _ _ hp,eG,u,wo,Z,hw.mono g,o5,Z,_,Z,?_]]]];symm;by_cases hf:w.fnd=wo.fnd
     .right;rw[OE (show vr w.fnd=vr wo.fnd by rw[hf])];erw[yT _ ?_];let ew:w.wh=wo.wh:=Lx o4 o5 ((Xq e9).trans r2.symm) hf;erw[#[_,Z,_,Z,d.f,is,U,ao,c,gA,eA,ss,J+1,Z,g _ _ h',g _ _ a0,vW (h0.mono g) o1 a4 (b'$ J+1) λg0 H' h3 d4=>i1 g0 H' (aa.tm d4) (λb o _ e=>d4 _ _ e) ((A2.pm (by rw[e3.1,Pb];exact((q7 J _ Z ho d2 hf.symm).append_left _).append_left _)).same d4) ?_]];rw[ew,<- j1];rwa[h3]
     .right;rw[Oz (show ¬vr w.fnd=vr wo.fnd from λz=>hf (by injection z))];exact i3 λj2 o2 e1 e2 z=>by cases e1;rw[ho]at e2;cases e2;rwa[hf z.2.symm]
   symm;cases tk with
   |none=>exact#[_,Z,Z,_,Z,cq (OE Z) #[_,Z,n']]
   |some J=>exact#[_,Z,Z,_,Z,aV (Oz (λz=>by cases z)) #[_,Z,_,_,Z,Z,n']]
  let j3:=s6 _ _ (s5 _ _ e4);cases b9:lT (aW (n:Int) hs) U.steps m with
  |none=>
   erw[#[_,Z,Z,_,Z,cq (OE Z) ?_]];erw[ah λF2 f2=>#[_,Z,jr (S6 _ _ h5) Z$ jr (S6 _ _ h5) Z #[v,n,h8,d,ys,Y,hs,e,Z,P1.mono$ aa.tm S6,b2,S6 _ _ h6,hl,hi,ed,d1.mono$ aa.tm S6,λud H7 h4 s7=>f2 _ _ ?_]]];left;let S7:=S6.trans s7;symm;let⟨wE,o',dE,hE⟩:=HQ (k:=aJ (canon Y.M) hs) d1;refine#[_,Z,c,_,_,_,Z,Z,aF.of$ S7 _ _ h',eG,_,Z,_,Z,eA,ss,U,wE,m,ud,Z,S7 _ _ a0,h0.mono$ aa.tm S7,o1,s0,NO,by rw[dE];exact h4,o',λH8 s8=>nx θ _ ud H8 (S7.trans s8) (s8 _ _$ s7 _ _ j3) (h4.mono$ aa.tm s8) ?_ (λJ z=>by cases z) (λw ow hw=>by unfold fi;rw[b9];exact wq ow o'$ hw.trans dE.symm) (λJ o e1 e2 z=>by
    symm;let⟨f',i0,s',a',_,b5⟩:=Yr e1;let⟨hm,_⟩:=Jm b5;let:=vS (J - m) m b9 (s:=o) (by rw[show m+(J - m)=J by omega];rwa[e2]);rw[z]at this;cases this)]
   cases r3:f8 U.steps m wE with
   |none=>trivial
   |some J=>symm;let⟨f',i0,s',a',rfl,b5⟩:=Yr r3;let⟨hm,o,ho,r4⟩:=Jm b5;let⟨p0,x,q',ts,e1,e2⟩:=hE _ _ _ _ Z;let⟨s2,a2,eo⟩:=ZM r4;erw[#[hm,o,ho,λf3 v7 s3 a3 z=>?_]];rw[eo]at z;symm;cases z;exact#[p0,x,q',ts,e1,e2]
  |some J=>
   erw[#[_,Z,Z,_,Z,aV (Oz (λz=>by cases z)) ?_]];symm;let⟨hm,o,ho,b3⟩:=Jm b9;let⟨en,r5⟩:=wu b3;obtain⟨⟨n2,v8,r6,c3,e0,e6⟩,_⟩:=a5 ho;let e2:n2=n:=by rw[en]at r6;omega
   subst e2;rw[c4]at c3;cases c3;rw[r5]at e0 e6;let a4:J < ο ss:=by rw[l3];exact(ξ.mp ho).1
   let⟨n3,v9,wo,p,h,u,z1,o6,_,_,ex,hp,hh,hw⟩:=zV o1 h0 (On a4);rw[ho]at z1;cases z1;let hk:ss[J]?=↑p:=by rw[<- ex];rwa[On a4]
   erw[ah λF2 f2=>(jr (S6 _ _ h') eG #[_,Z,eA,_,_,_,Z,Z,aF.of$ S6 _ _ a0,jH hk,p,_,_,_,Z,Z,aF.of$ S6 _ _ hp,eG,u,wo,Z,hw.mono$ aa.tm S6,o6,λud H7 h4 s7=>f2 _ _ ?_])];left;let e0:cj wo=lS (aJ (canon Y.M) hs) e:=e0;rw[e0]at h4;erw[#[_,Z,nx (δ J) (δ J) ud H7 (S6.trans s7) (s7 _ _ j3) h4 #[hm,_,ho,λf' i0 s' a' z=>?_] (λj2 z=>?_) (λw ow hw=>by unfold fi;rw[b9]) (λj2 o2 e1 _ _=>e1)]]
   .let z:wo= .cl f' i0 s' a':=z;symm;subst z;rwa[AD d1 e0]
   .symm;cases z;exact#[Z,_,ho,o6,e0,e6,b3]
abbrev FL:bU:=bX 42
inductive rQ(g f n:ζ)(s:xL V)(H:Hp)(Q:VK)(E:XK):Prop
 |mk(M:Nat)(q j c:ζ)(i:Nat)(e:ba)(r:Sk)(h:Int)(d:Df)(k:xL Df)(o:xL Nat)(t:xL V)(b:xL di)(m:xL Int)(_:s=[.ref q,.ref c,.ref j,.int (M:Int)])(_:M<=60)(_:Ps H n q k o t b)(_:k[i]?=δ d)(_:o[i]?=δ m.length)(_:∀z∈m,gB z)(_:H j=δ (.dK e))(_:GT e)(_:gW H d.f m r h (.ref c))(_:r.ok μ)(_:r.size<=1000)(_:oM b d.f m r h)(_:∀(p l:ζ) (v:V) (ws:xL V) (sk:Sk) (a:Int) (L':ba) (H':Hp),aZ M b e 16 d.f m [] 0= .ok sk a L' sk.size->H' p=δ (.tup [v,.ref l])->H' l=δ (.lst ws)->bg em H' (fj sk r.steps 0 [] 0) ws->gW H' d.f m sk a v->sk.ok μ->sk.dep<=15->sk.size<=M->aa H H'->Q (.ref p) H')(_:iR (aZ M b e 16 d.f m [] 0= .long) (aZ M b e 16 d.f m [] 0= .deep) E g f (Kp H))
theorem ZO{H:Hp}:∀{b:xL aO} {a:xL V},ο a=ο b->(∀(i:Nat) (v:V) (p:aO),a[i]?=δ v->b[i]?=δ p->em H v p)->bg em H b a
 | [],[],_,_=>rfl
 | [],_::_,e,_ |_::_,[],e,_=>by cases e
 |p::b,v::a,e,h=>#[v,a,Z,h 0 v p Z Z,ZO (e:) λi x q c d=>h (i+1) x q (c:) (d:)]
def pO{H a:Hp}(s:aa H a){x:ζ}(h:a x=θ):H x=θ:=by
 cases z:H x with
 |none=>rfl
 |some o=>have:=s _ _ z;rw[h]at this;cases this
def xZ:am ["parts","old","cells","most","running","chain"] z31z (ae FL):=bV
def EK{f:ζ}{fd:cc}{C TL TD nA fI fA:ζ}{t u:cc}(F:xD K "again" FL f fd)(ck:RK K C)(n6:a9 K C "anew")(mk:Mk K C fI)(GI:⇑3 fI t z7z (mX C))(bI:aE K t z7z [])(mC:mg "AgainRun"=↑C)(GA:ai P w K mg base (dF P w) 70 fA u z15z (nW C TL TD nA 16))(bA:aE K u z15z [])(m0:bh K C "chain_along" fA)(m1:mg "sorted"=θ):ai P w K mg base (dF P w) 71 f fd z31z (rQ TL TD nA):=by
 erw[F.ok1 xZ λc0 A o1 s H vs Q E hr h=>?_]
 let⟨M,j,k,c,i,Cs,S,ao,d,ds,ns,xs,z,is,rfl,hM,hP,hd,hn,h0,B,h3,h4,o2,s6,G,q,t0⟩:=h;erw[#[_,(jd (jA 4 xZ.nd$ Xv mk GI hr.m Z mC bI .nil bQ$ ja (pv 0)$ ja (pv 2)$ ja (pv 3) jb)$ jd (jA 5 xZ.nd$ kf (pv 4) ck.cl m0 GA hr.m bA .nil ke$ ja (ji jb)$ ja (pv 1)$ ja jf jb)$ jg$ jo$ ji$ ja (pv 5)$ ja (jO qo Z m1 SO$ ja (kW (pv 4) Z) jb) jb),?_]];let b0:=aN;erw[ah λF1 I=>#[_,Z,_,Z,_,Z,λr D W nd ne=>?_]];let s0:aa H (af (af H D$ .own r) r$ .ins C D []):=λc o e=>by rw[jh$ jk e W,jh$ jk e nd];rwa[e]
 erw[#[r,D,j,k,M,Z,jc,λL g nl na n0=>#[Z,I _ _ ?_]]];let n1:L≠r:=λe=>by rw[e,jc]at nl;cases nl
 let n2:g≠r:=λe=>by rw[e,jc]at na;cases na
 let n:=pO s0 nl;let N:=pO s0 na;let J:aa H (af (af (af (af (af H D$ .own r) r$ .ins C D []) L$ .dK []) g$ .lst []) r$ .ins C D$ dG (dH g) k L j M 0):=λc o e=>by rw[jh$ jk e W,jh$ jk e N,jh$ jk e n];rwa[s0 _ _ e]
 let R1:Rn (af (af (af (af (af H D$ .own r) r$ .ins C D []) L$ .dK []) g$ .lst []) r$ .ins C D$ dG (dH g) k L j M 0) C r D (dH g) k L j M 0 [] Cs:=#[jc,by rw[jh n1,jh n0];rwa[jc],J _ _ B,GT.nil,h3,jk B n,Av g,NO];let A1:An (af (af (af (af (af H D$ .own r) r$ .ins C D []) L$ .dK []) g$ .lst []) r$ .ins C D$ dG (dH g) k L j M 0) g []:=#[[],[],by rw[jh n2];rwa[jc],Z,Rh _];generalize (af (af (af (af (af H D$ .own r) r$ .ins C D []) L$ .dK []) g$ .lst []) r$ .ins C D$ dG (dH g) k L j M 0)=H1 at J R1 A1;erw[ah λF1 I=>#[_,Z,r,D,_,Z,R1.ins,Z,gR,λpa n3=>#[_,Z,?_]]];let R:aa H1 (af H1 pa$ .tup []):=je n3;let T:=aa.tm (J.trans R);erw[#[M,r,D,g,k,L,j,pa,c,[],0,0,i,[],[],Cs,S,ao,d,ds,ns,xs,z,is,Z,Z,NP,R1.same R,A1.same R,Ou _,Ou _,OA _,hP.mono T,jc,NP,hd,hn,h0,gW.mono' h4 T,o2,s6,G,λv X a L' U eq h5 O d0 ia R3 l3 t3 A3 k3=>I _ _ ?_,iR.next3$ t0.mono λH' kk=>λb o nx e=>kk b o (jk e W) (jk e n) (jk e N) nx (R _ _$ J _ _ e)]];rw[Ss]at eq t3;let A3:An U g (fj X S.steps 0 [] 0):=A3;let s3:aa H U:=λb o e=>k3 _ _ (jk e W) (jk e n) (jk e N) (R _ _$ J _ _ e);let⟨as,qs,a1,a3,Y⟩:=A3.ex;let sr:=uY O S.steps 0 [] 0;let ln:=Xt O S.steps 0 [] 0;let a2:=Y.length_eq;let a4:=a3.len;erw[#[_,Z,_,Z,r,C,D,_,_,Z,R3.ins,ck.cl,n6,Z,g,as,qs,Z,aL.of a1,a4,NO,λi x p h1 h2=>?_,Y.nodup_iff.mpr$ yw sr,λl ws rs n4 g1 g2 g3 g4=>?_]]
 .let⟨p',V,y,e1,e2⟩:=a3.at h1;rw[h2]at V;cases V;exact#[y,e1,e2,uW O$ Y.mem_iff.mp$ OX h2]
 let e0:rs=fj X S.steps 0 [] 0:=uZ g2 sr (g1.trans Y);subst e0;let l0:bg em U (fj X S.steps 0 [] 0) ws:=ZO g3 λi x p h1 h2=>let #[y,e1,e2,_]:=g4 i x p h1 h2;#[y,e1,e2]
 let s4:aa U (af U l$ .lst ws):=je n4;erw[#[ci,λp np=>?_]];let s5:=je (o:=.tup [v,.ref l]) np;rwa[q p l v ws X a L' _ eq jc (s5 _ _ jc) (l0.mono bG$ aa.tm$ s4.trans s5) (gW.mono' h5$ aa.tm$ s4.trans s5) O NO t3 ((s3.trans s4).trans s5)]
def tH:Sk->aO->xL aQ->Nat->xL aO
 | .st n h w r,p,os,m=>match fi os m n h w with
  |none=>tH r p os m
  |some j=>match os[j]? with
   |none=>[]
   |some o=>((if aW n h o=μ then [p++[(j:Int)]] else [])++tH w (p++[(j:Int)]) (sM o.2.2) 0)++tH r p os (j+1)
 | .cl _ _ s _,p,os,m=>tH s p os m
 |_,_,_,_=>[]
def Ys{w:Sk}{os:xL aQ}(h:fi os m n H w=θ):tH (.st n H w r) p os m=tH r p os m:=by show(match fi os m n H w with |none=>_ |some j=>_)=_;rw[h]
def Yt{w:Sk}{os:xL aQ}(h:fi os m n H w=δ j)(a:os[j]?=δ o):tH (.st n H w r) p os m=((if aW n H o=μ then [p++[(j:Int)]] else [])++tH w (p++[(j:Int)]) (sM o.2.2) 0)++tH r p os (j+1):=by show(match fi os m n H w with |none=>_ |some j=>match os[j]? with |none=>([]:xL aO) |some o=>_)=_;rw[h];dsimp only;rw[a]
def Jn:decide (tT a=tT b)=decide (a=b):=by
 by_cases h:a=b
 .rw[OE h,OE (by rw[h])]
 .rw[Oz h,Oz λz=>h (by injection z)]
def Kr{w:Sk}(o:w.ok ν)(h:dS H w u []):∃p v r,u= .ref p/\H p=δ (.tup (.str v::r))/\(v="call"↔∃f i s a,w= .cl f i s a):=by
 cases w with
 |nil |st _ _ _ _=>rwa[o.elim]
 |ask b |rd b c |wr b c=>let⟨p,e,h⟩:=h;exact#[p,_,_,e,h,λe=>absurd e NP,λ#[_,_,_,_,e]=>nomatch e]
 |cl f i s a=>let⟨p,c,g,E,S,e,h,_⟩:=h;exact#[p,_,_,e,h,λ_=>#[_,_,_,_,Z],λ_=>Z]
abbrev FT:bU:=bX 77
abbrev BN:bU:=bX 78
abbrev ut:bU:=bX 79
abbrev BU:bU:=bX 80
def Dj:Sk->V->V
 | .cl _ _ _ a,_=>.int a
 |_,u=>u
inductive n9(b:xL V)(H:Hp)(Q:VK)(a:XK):Prop
 |mk(p h:ζ)(n:Int)(u:V)(w:Sk)(_:b=[.ref p])(_:H p=δ (.tup [.int n,.ref h,u]))(_:dS H w u [])(_:w.ok ν)(_:Q (Dj w u) H)
def Ed{w W:Sk}(o:w.ok ν)(O:W.ok ν)(e:cj w=cj W):(w.fnd=W.fnd->(∃f I s a S A,w= .cl f I s a/\W= .cl f I S A/\a=A)∨(w=W/\∀f I s a,w≠ .cl f I s a))/\(w.fnd≠W.fnd->(∃f I s a S A,w= .cl f I s a/\W= .cl f I S A/\a≠A)∨∃c i d,w= .rd c i/\W= .rd c d/\i≠d):=by
 cases w with
 |nil |st _ _ _ _=>rwa[o.elim]
 |cl f I s a=>let⟨S,A,rfl⟩:=KL O e.symm;exact#[λh=>.inl #[f,I,s,a,S,A,Z,Z,h],λh=>.inl #[f,I,s,a,S,A,Z,Z,h]]
 |ask b=>
  cases W with
  |nil |st _ _ _ _=>rwa[O.elim]
  |ask B=>have e:Tr.tp (.cons (aM "ask")$ .cons (ar b) .nil)= .tp (.cons (aM "ask")$ .cons (ar B) .nil):=e;injection e with e;injection e with _ e;injection e with e _;injection e with e;injection e with e;subst e;exact#[λ_=>.inr #[Z,λ_ _ _ _ z=>nomatch z],λh=>absurd Z h]
  |rd _ _ |wr _ _ |cl _ _ _ _=>rwa[absurd (qh e) NP]
 |rd b i=>
  cases W with
  |nil |st _ _ _ _=>rwa[O.elim]
  |rd B d=>have e:Tr.tp (.cons (aM "read")$ .cons (ar b) .nil)= .tp (.cons (aM "read")$ .cons (ar B) .nil):=e;injection e with e;injection e with _ e;injection e with e _;injection e with e;injection e with e;subst e;exact#[λ(h:i=d)=>by subst h;rwa[.inr #[Z,λ_ _ _ _ z=>nomatch z]],λh=>.inr #[b,i,d,Z,Z,h]]
  |ask _ |wr _ _ |cl _ _ _ _=>rwa[absurd (qh e) NP]
 |wr b i=>
  cases W with
  |nil |st _ _ _ _=>rwa[O.elim]
  |wr B d=>have e:Tr.tp (.cons (aM "write")$ .cons (ar b)$ .cons (ar i) .nil)= .tp (.cons (aM "write")$ .cons (ar B)$ .cons (ar d) .nil):=e;injection e with e;injection e with _ e;injection e with E e;injection e with g _;injection E with E;injection E with E;injection g with g;injection g with g;subst E;subst g;exact#[λ_=>.inr #[Z,λ_ _ _ _ z=>nomatch z],λh=>absurd Z h]
  |ask _ |rd _ _ |cl _ _ _ _=>rwa[absurd (qh e) NP]
def yt{w:Sk}(o:w.ok ν)(h:∀f i s a,w≠ .cl f i s a):∃l,nV w= .tp l/\l.dep < 10/\l.In:=by
 cases w with
 |nil |st _ _ _ _=>rwa[o.elim]
 |cl f i s a=>rwa[absurd Z (h f i s a)]
 |ask b=>exact#[_,Z,by show max 0 (max 0 0) < 10;decide,Z,Z,trivial]
 |rd b B |wr b B=>exact#[_,Z,by show max 0 (max 0 (max 0 0)) < 10;decide,Z,Z,Z,trivial]
def wt{w:Sk}(h:∀f i s a,w≠ .cl f i s a):Dj w u=u:=by
 cases w with
 |cl f i s a=>rwa[absurd Z (h f i s a)]
 |_=>rfl
inductive Yu(x y:V)(H:Hp)(Q:VK):Prop
 |mk(a b c:_)(_:x= .ref a)(_:y= .ref b)(_:H a=δ (.lst c))(_:H b=δ (.lst []))(_:Q (.bl c.isEmpty) H)
def Y1{X:Cx}(c:X.A.units < cLine):fq X (compareOp .Eq) Yu:=by
 intro p s J H x y v u Q I i l h;let⟨a,b,m,rfl,rfl,n,o,q⟩:=h;cases i;cases l;let⟨t,R,d,_⟩:=I.list (aL.of n);let⟨B,C,f,_⟩:=I.list (aL.of o);let E:B=[]:=C.nil_iff.mpr Z;subst E;cases g:m with
 |nil=>subst g;let D:t=[]:=R.nil_iff.mpr Z;subst D;erw[V5 (e:=λ_=>μ) d.isList f.isList Z c (λj F M=>absurd F NN) X.prog X.w _ _ ?_];exact#[.bl μ,H,I,Z,q]
 |cons z r=>subst g;let L:=R.length;erw[V4 d.isList f.isList (by simp [<- L]) c X.prog X.w _ _ ?_];exact#[.bl ν,H,I,Z,q]
def JF{lo:Int}{n:Nat}{t:TT}{Q:xL V->Hp->Prop}(Pv:Nat->xL V->Hp->Prop)(j:Pv 0 [] H)(k:n<=τ)(c:∀i Y h,Pv i Y h->ο Y<=i)
  (l:∀i Y h,i < n->Pv i Y h->t (δ (.int$ lo+i)::d) h λb f=>if b=μ then T (δ (.int$ lo+i)::d) f λy o=>Pv (i+1) (Y++[y]) o else Pv (i+1) Y f) (q:∀Y h,Pv n Y h->Q Y h):
  eZ (uS lo n) 1 d (bH 0) t T Q H:=by
 erw[#[λi m Y h=>m=n - i/\i<=n/\Pv i Y h,#[n,NN,OA _,j],?_]];rintro i m Y h ⟨rfl,u,p⟩;by_cases a:i < n
 .erw[.inr #[a,PR (c i Y h p)$ OM a k,Pv$ i+1,λr f s=>#[n - (i+1),N09,Z,a,s],λx f z g y=>?_]];let⟨e,y⟩:=y;subst e y;let⟨v,rfl⟩:=tF g;exact#[#[[δ _],Z,Z],l i Y _ a p]
 .let e:i=n:=by omega
  subst e;rwa[.inl #[Ou _,q Y h p]]
def Ql{K:β}{a:ζ}{xs:xL V}{t:TT}{Q:xL V->Hp->Prop}(A:ο xs<=τ)(Pv:Nat->xL V->Hp->Prop)(n:Pv 0 [] H)
  (o:∀i Y h,Pv i Y h->aL K h a xs/\ο Y<=i) (q:∀i x Y h,xs[i]?=δ x->Pv i Y h->t (δ x::c) h λb d=>if b=μ then T (δ x::c) d λy r=>Pv (i+1) (Y++[y]) r else Pv (i+1) Y d) (s:∀Y h,Pv xs.length Y h->Q Y h):
  eZ (y8 K a) 1 c (bH 0) t T Q H:=by
 erw[#[λi m Y h=>m=ο xs - i/\i<=ο xs/\Pv i Y h,#[xs.length,NN,OA _,n],?_]];intro i m Y h g;let⟨rfl,B,p⟩:=g;let⟨j,C⟩:=o i Y h p;by_cases f:i < ο xs
 .erw[.inr #[#[xs,xs[i],j,On f],NO,Pv$ i+1,λu d z=>#[ο xs - (i+1),NO,Z,f,z],λv d D k y=>?_]];let⟨e,y⟩:=y;subst e;let⟨w,rfl⟩:=tF k;exact#[#[[δ _],Z,Z],q i v Y d (y xs j) p]
 .let e:i=ο xs:=by omega
  subst e;rwa[.inl #[#[xs,j,Ou _],s Y h p]]
def kI{X:Cx}{K:β}(h:X.K=K):Hi X (db K):=by subst h;rwa[jE]
def iF(P:aQ->Bool):Nat->xL aQ->xL Nat
 |_,[]=>[]
 |k,s::r=>if P s=μ then k::iF P (k+1) r else iF P (k+1) r
def dj(P:aQ->Bool)(os:xL aQ)(m:Nat):xL Nat:=iF P m (os.drop m)
def KM{P:aQ->Bool}{os:xL aQ}(h:os[m]?=δ s):dj P os m=if P s=μ then m::dj P os (m+1) else dj P os (m+1):=by let⟨H,e⟩:=ξ.mp h;unfold dj;rw[<- RJ (h:=H),e];rfl
def Ks{P:aQ->Bool}{os:xL aQ}(h:ο os<=m):dj P os m=[]:=by unfold dj;rw[U6 h];rfl
theorem Xg(P:aQ->Bool):∀(k:Nat) (os:xL aQ),(iF P k os).head?=sV P k os
 |_,[]=>rfl
 |k,s::r=>by
  show(if P s=μ then k::iF P (k+1) r else iF P (k+1) r).head?=if P s=μ then δ k else sV P (k+1) r;by_cases h:P s=μ
  .rw[OB h,OB h];rfl
  .rw[OD h,OD h,Xg P]
def Yv(P:aQ->Bool)(os:xL aQ)(m:Nat):(dj P os m).head?=lT P os m:=Xg P m _
theorem Yw(P:aQ->Bool):∀(k:Nat) (os:xL aQ),(iF P k os).length<=ο os
 |_,[]=>Ou 0
 |k,s::r=>by
  let:=Yw P (k+1) r;show(if P s=μ then k::iF P (k+1) r else iF P (k+1) r).length<=ο r+1;by_cases h:P s=μ
  .rw[OB h];show _+1<=_;omega
  .rw[OD h];omega
def XF(P:aQ->Bool)(os:xL aQ)(m:Nat):(dj P os m).length<=ο os:=OK (Yw P m _) (by rw[Ri];rwa[N09])
def fX(s:aQ):Bool:=match s.2.2 with
 | .cl _ _ _ _=>μ
 |_=>ν
def CU(P:aQ->Bool)(os:xL aQ)(j:Nat):Bool:=match os[j]? with
 |some s=>P s
 |none=>ν
theorem Qm{P Q:aQ->Bool}(h:∀s,P s=μ->Q s=μ)(os:xL aQ):∀(n m:Nat),n=ο os - m->(dj Q os m).filter (CU P os)=dj P os m
 |0,m,e=>by rw[Ks NO,Ks NO];rfl
 |n+1,m,e=>by
  let c:m < ο os:=by rwa[N09]
  let a:=On c;rw[KM a,KM a];let i:=Qm h os n (m+1) NO;let E:CU P os m=P os[m]:=by unfold CU;rw[a]
  by_cases H:P os[m]=μ
  .rw[OB$ h _ H,OB H,U1 (by rw[E];rwa[H]),i]
  .rw[OD H];by_cases b:Q os[m]=μ
   .rw[OB b,U2 (by rw[E];rwa[H]),i]
   .rw[OD b,i]
def Ik(s:aQ)(h:dh f i s=μ):fX s=μ:=by let⟨S,a,e⟩:=ZM h;unfold fX;rw[e]
def nE(s:Sk)(p:aO)(os:xL aQ)(m:Nat)(a:aO)(k:Nat):Ly:=#[(iD s p os m a k).k,(iD s p os m a k).t,(iD s p os m a k).f,tH s p os m]
def Bu(p:aO)(o:aQ)(a:aO)(n:Int)(h:xL Int)(w:Sk):Ly:=
 if aW n h o=μ then (if o.2.2.fnd=w.fnd then #[[(p,a)],[],[],[p]] else #[[],[(p,a)],[],[p]]) else #[[],[],[a],[]]
def Yx{w:Sk}{os:xL aQ}(h:fi os m n H w=θ):nE (.st n H w r) a os m p k=(#[[],[],c7 (p++[(k:Int)]) w,[]]:Ly).app (nE r a os m p$ k+1):=by unfold nE;rw[KZ h,Ys h];rfl
def va{w r:Sk}{po:aO}{os:xL aQ}{pn:aO}{k:Nat}(h:fi os m n b w=δ j)(c:os[j]?=δ o):nE (.st n b w r) po os m pn k=(Bu (po++[(j:Int)]) o (pn++[(k:Int)]) n b w).app ((nE w (po++[(j:Int)]) (sM o.2.2) 0 (pn++[(k:Int)]) 0).app$ nE r po os (j+1) pn$ k+1):=by
 unfold nE;rw[K0 h c,Yt h c];unfold Bu one Ly.app;by_cases H:aW n b o=μ
 .rw[OB H,OB H,OB H];by_cases a:o.2.2.fnd=w.fnd
  .rw[OB a,OB a];simp
  .rw[OD a,OD a];simp
 .rw[OD H,OD H,OD H];simp
def u7{w:Sk}{os:xL aQ}(o:w.ok ν)(h:∀f i s a,w≠ .cl f i s a):nE w p os m b k= .nil:=by
 cases w with
 |nil |st _ _ _ _=>rwa[o.elim]
 |cl f i s a=>rwa[absurd Z (h f i s a)]
 |_=>rfl
inductive gH(n:Nat)(e:xL V)(H:Hp)(Q:VK)(b:XK):Prop
 |mk(d:ζ)(p:aO)(f:ρ)(c:xL Int)(s:Sk)(a:Int)(u:V)(_:e=[u,.ref d])(_:H d=δ (.tup (p.map vr)))(_:ο p+n<=100)(_:gW H f c s a u)(_:s.ok μ)(_:s.dep < n)(_:s.size<=1000)(_:∀(r:ζ) (xs:xL V) (H':Hp),H r=θ->H' r=δ (.lst xs)->bg em H' ((s.ws p 0).map (·.1)) xs->aa H H'->Q (.ref r) H')
inductive GZ(h j:ζ)(p:aO)(u:V)(s:Sk)(H:Hp)(i:Nat)(l:_L.St)(a:Hp):Prop
 |mk(f g:ym V)(k:xL V)(b:l=[δ u,↑h,↑j,f,g])(c:a j=δ (.lst k))(d:bg em a ((lY (s.steps.take i) p 0).map (·.1)) k)(e:aa H a)
inductive iQ(n:Nat)(t:xL V)(H:Hp)(Q:VK)(a:XK):Prop
 |mk(D:DF)(z k s h g m c l b:ζ)(p o:aO)(f:ρ)(i j:xL Int)(q r:Sk)(d e:Int)(y:Ly)(_:t=[.ref c,.ref b,.ref m,.ref l,.ref z])(_:Lt H z k s h g y)(_:H m=δ (.tup (p.map vr)))(_:H l=δ (.tup (o.map vr)))(_:ο p+n<=49)(_:ο o+n<=49)(_:gW H f i q d (.ref c))(_:q.ok μ)(_:q.dep<=15)(_:q.size<=1000)(_:gW H f j r e (.ref b))(_:r.ok μ)(_:r.dep < n)(_:r.dep<=15)(_:r.size<=1000)(_:Dt D f q)(_:Dt D f r)(_:(y.app (nE r p q.steps 0 o 0)).tot<=100000)(_:∀H',Lt H' z k s h g (y.app (nE r p q.steps 0 o 0))->c8 k s h g H H'->Q .non H')
inductive MW(D:DF)(z B P A n J c C b:ζ)(M L:aO)(f:ρ)(K:xL aQ)(O:xL V)(N:Sk)(k:Ly)(H:Hp)(i:Nat)(Q:_L.St)(l:Hp):Prop
 |mk(E F G I d e g h j:ym V)(m:Nat)(a:Sk)(y:Ly)(o:Q=[↑c,↑b,↑J,↑C,↑z,δ (.int (m:Int)),E,F,G,I,d,e,g,h,j])(p:Lt l z B P A n y)(q:dS l a .non (O.drop i))(r:a.ok μ)(s:a.dep<=N.dep)(t:a.size<=N.size)(u:Dt D f a)(v:m<=ο K)(w:y.app (nE a M K m L i)=k)(x:c8 B P A n H l)
def dJ(l:xL Nat):xL V:=l.map λ(j:Nat)=>vr (j:Int)
def I8:am ["_law_step"] ["_law_step"] (ae FT):=bV
def EW(F:xD K "_law_found" FT f l):⇑1 f l ["_law_step"] n9:=by
 erw[F.ok I8 λC A o s H v Q E t h=>?_]
 let⟨p,h,n,u,w,rfl,b,i,d,q⟩:=h;erw[#[_,(jd (jy (jZ$ jv$ jq jE (pv 0) jf ∅) (jg$ jo$ jv$ jq jE (jq jE (pv 0) jf ∅) jf ∅) jp)$ jg$ jo$ jv$ pv 0),?_]];cases w with
 |nil |st _ _ _ _=>rwa[d.elim]
 |ask _ |rd _ _ |wr _ _=>let⟨x,rfl,G⟩:=i;erw[ah λm j=>(jr b eG #[x,_,_,_,Z,Z,aF.of G,eJ,Z,_,Z,aV NM$ j _ _ ?_])];exact(jr b eG q)
 |cl f I s a=>let⟨x,c,g,e,S,rfl,G,r,_⟩:=i;rwa[ah λm j=>(jr b eG #[x,_,_,_,Z,Z,aF.of G,eJ,Z,_,Z,cq NM$ jr b eG #[x,_,_,_,Z,Z,aF.of G,iB,c,_,_,_,Z,Z,aF.of r,Hr,q]])]
def rL:am ["_law_chain","_law_at","_law_found_here","_law_k","_law_step"] z16z (ae BN):=bV
def EL(F:xD K "_law_all_in" BN f fd)(cS:‹n+1› fS f0 z16z (gH n) "_law_all_in")(m0:mg "enumerate"=θ):⇑(n+2) f fd z16z (gH$ n+1):=by
 erw[F.ok rL λc0 A o1 s H vs Q E hr h=>?_]
 let⟨M,p,f,is,s,a,u,rfl,hp,h',hc,d,hd,hz,q⟩:=h;erw[#[_,(jd (jA 2 rL.nd$ jF jb)$ jd (km O8 Z (KS Z m0$ ja (jv$ pv 0) jb) (zR (n:=2) Z$ jC (jx (i:=3) rL.nd Z$ ω Z)$ jC (jx (i:=4) rL.nd Z$ ω Z) kB)$ jd (jN$ j9 OF OR OQ jQ (pv 2)$ ja (jw jU (pv 1)$ ji$ ja (pv 3) jb) jb)$ jg$ jy (jZ$ jv$ jq jE (pv 4) jf ∅) (jg$ jN$ j9 OF Rg Rc z9 (pv 2)$ ja (cS.e hr.m$ ja (jv$ jq jE (pv 4) jf ∅)$ ja (jw jU (pv 1)$ ji$ ja (pv 3) jb) jb) jb) jp)$ jg$ jo$ pv 2),?_]];let b1:=aN;let⟨c,g,e,ss,rfl,h1,h2,h3,h4⟩:=hc;let lt:=zc d h4;let fl:=kY d p 0;rw[JP d]at fl;erw[ah λF1 B=>#[gR,λT N=>B _ _ ?_]];let s1:aa H (af H T$ .lst []):=je N;erw[ah λF1 B=>fQ λJ j=>(jr (s1 _ _ h1) eG #[e,Z,#[_,aF.of$ s1 _ _ h3],j _ _ ?_])];erw[Jb (K:=K) (xs:=ss) (GZ M T p (.ref c) s H) #[θ,θ,[],Z,jc,Z,s1] (λi σ Hx _ h=>?_) ?_ (λσ Hx h=>B _ _ ?_)]
 .let⟨_,_,_,_,_,_,W⟩:=h;rwa[aF.of$ W _ _ h3]
 .intro E hE i x X σ H7 hx np Y Gq U h;let⟨o3,o4,xs,rfl,w1,w2,W⟩:=h;let s8:aa H7 (af H7 X$ .tup [.int i,x]):=je np;let e8:af H7 X (.tup [.int i,x]) X=δ (.tup [.int i,x]):=jc;erw[U ?_];generalize af H7 X (.tup [.int i,x])=H8 at s8 e8 ⊢;let S8:=W.trans s8;let⟨n1,h6,w,q,hh,u,ht,O,d0,s0,rfl,h0,a0,hw⟩:=zV d (h4.mono$ aa.tm S8) hx;erw[#[X,_,Z,aF.of e8,Z,_,_,Z,_,_,Z,Z,?_]];let h7:i < ο s.steps:=(ξ.mp ht).1;let et:s.steps.take (i+1)=s.steps.take i++[(n1,h6,w)]:=by rw[PQ,ht];rfl
  let eb:(lY (s.steps.take$ i+1) p 0).map (·.1)=(lY (s.steps.take i) p 0).map (·.1)++c7 (p++[(i:Int)]) w:=by rw[et,Jl,OU,OZ,Rz$ RE h7,Ss,Yq];show _++(_++[])=_;rw[O2]
  let bl:=yX s.steps (i+1) p 0;let b0:=PL rz eb;rw[Ot,Oq,KY O]at b0;let lx:=w2.len;rw[fl]at bl;show fh _ _ E [↑c,↑M,↑T,δ$ .int i,↑q] H8;erw[ah λF1 B=>#[_,Z,.inl #[Z,_,aL.of$ s8 _ _ w1],_,Z,_,Z,iT,λt nt=>#[M,t,_,_,Z,Z,aq (S8 _ _ hp) nt,jc,by rw[Oq];show _+1<=_;omega,λR C e9 s9=>?_]]];let S9:aa H8 C:=(je (o:=.tup [.int i]) nt).trans s9;let e9:C R=δ (.tup$ p.map vr++[.int (i:Int)]):=e9;rw[sL]at e9;let w9:=S9 _ _ (s8 _ _ w1);erw[#[T,xs,_,Z,Z,w9,NO,B _ _ ?_]];let G:aj C (af C T$ .lst$ xs++[.ref R]):=qd w9;let k:af C T (.lst$ xs++[.ref R]) T=δ (.lst$ xs++[.ref R]):=jc;let k0:∀b o,b≠T->C b=δ o->af C T (.lst$ xs++[.ref R]) b=δ o:=λb o nb e=>by rw[jh nb];rwa[e]
  generalize af C T (.lst$ xs++[.ref R])=v at G k k0;let r:aj H8 v:=(aa.tm S9).trans G;let I:aa H v:=λb o e=>k0 _ _ (jk e N) (S9 _ _$ S8 _ _ e);let x0:bg em v ((lY (s.steps.take i) p 0).map (·.1)++[p++[(i:Int)]]) (xs++[.ref R]):=bg.app (bg.one #[R,Z,G _ _ e9]) (((w2.mono bG$ aa.tm s8).mono bG r));let⟨p3,v3,r3,eu,h8,h5⟩:=Kr O (hw.mono r);subst eu;erw[oU λG1 yT yF=>(jr (r _ _ h0) eG #[p3,_,_,_,Z,Z,aF.of h8,eJ,Z,_,Z,?_])];rw[Jn];by_cases hv:v3="call"
  .let⟨g',L,D,a',rfl⟩:=h5.mp hv;rw[OE hv];let⟨x1,c1,g1,e1,s2,e2,k1,k2,k3,k4,k5⟩:=hw.mono r;cases e2;let d0:D.dep+1<=s.dep:=d0;let s0:D.size+1<=s.size:=s0;erw[yT _ #[_,Z,.inl #[Z,_,aL.of k],jr (r _ _ h0) eG #[p3,_,_,_,Z,Z,aF.of k1,iB,_,Z,_,Z,iT,λt2 n0=>#[M,t2,_,_,Z,Z,aq (I _ _ hp) n0,jc,by rw[Oq];show _+1<=_;omega,λr0 H0 y s3=>?_]]]];let S:aa v H0:=(je (o:=.tup [.int i]) n0).trans s3;let y:H0 r0=δ (.tup$ p.map vr++[.int (i:Int)]):=y;rw[sL]at y;erw[#[r0,_,g',L,D,a',.ref c1,Z,y,by rw[Ot];show _+1+_<=_;omega,#[c1,g1,e1,s2,Z,S _ _ k2,S _ _ k3,S _ _ k4,k5.mono$ aa.tm S],O,NO,NO,λl zs H1 nl hl hz s4=>?_]];let z:=S.trans s4;let lz:=hz.len;rw[Oq,kY (show D.ok μ from O)]at lz;let ez:(xs++[xm R]).length=ο xs+1:=by rw[Ot];rfl
   let s5:(Sk.cl g' L D a').size=D.size:=rfl;erw[#[T,l,_,_,Z,Z,z _ _ k,hl,NO,Y _ _ #[_,_,_,Z,jc,?_,λb o e=>?_]]]
   .rw[eb];let t0:aj H1 (af H1 T$ .lst$ xs++[.ref R]++zs):=qd (z _ _ k);let e0:c7 (p++[(i:Int)]) (.cl g' L D a')=[p++[(i:Int)]]++(D.ws (p++[(i:Int)]) 0).map (·.1):=rfl;rw[e0,<- Pb];exact(bg.app hz$ x0.mono bG$ aa.tm z).mono bG t0
   .rw[jh$ jk e N];rwa[z _ _$ I _ _ e]
  .rw[Oz hv];erw[yF _$ Y _ _ #[_,_,_,Z,k,?_,I]];rw[eb];let e0:c7 (p++[(i:Int)]) w=[p++[(i:Int)]]:=by
    cases w with
    |nil |st _ _ _ _=>rwa[O.elim]
    |cl f is s a=>rwa[absurd (h5.mpr #[f,is,s,a,Z]) hv]
    |_=>rfl
   rw[e0];rwa[x0]
 .let⟨o3,o4,xs,rfl,w1,w2,W⟩:=h;rw[lt,Pg,<- JP d]at w2;exact#[_,Z,q T xs Hx N w1 w2 W]
def ED:⇑k f c z16z (gH 0):=by
 let n:∀{v H Q E},¬gH 0 v H Q E:=by rintro v H Q E ⟨d,p,f,i,s,a,u,_,_,_,_,_,z,_⟩;omega
 exact#[λv H Q E h=>(n h).elim,λA o s H b U v Q E e g j l h=>(n h).elim]
theorem Hq(F:xD K "_law_all_in" BN f a)(b:aE K a z16z [])(M:mg "_law_all_in"=↑f)(m:mg "enumerate"=θ):∀n,⇑(n+1) f a z16z (gH n)
 |0=>ED
 |n+1=>EL F #[(Hq F b M m n),b,F.kp,M] m
section
open SeqAt
variable {X:Cx}
def Mz(I:ax X p σ H s)(n:Nat)(G:∀(t:Tr) {A:bS},t.dep<=n->A.units+n < cLine->t.In->t.isL=ν->∀{u:Tr} {x y:V},u.In->u.isL=ν->aS H t x []->aS H u y []->∀a b,aK x a->aK y b->EqAt A s a b (gV t u)){l m:Tr}(hn:l.dep<=n)(hu:A.units+n+1 < cLine)(J:l.In)(L:m.In)(d:l.isL=μ)(f:m.isL=μ)(M:H g=δ (.tup i))(N:H B=δ (.tup o))(T:aS H l .non i)(q:aS H m .non o):RcNeAt A s (.ref g) (.ref B) (!gV (.tp l) (.tp m)):=by
 let⟨v,r,O,_⟩:=I.tuple (aF.of (K:=X.K) M);let⟨C,R,Q,_⟩:=I.tuple (aF.of (K:=X.K) N);let⟨S,U⟩:=qE d J T;let⟨W,Y⟩:=qE f L q;let z:=RcNeAt.tuples (A:=A) (e:=lX l m) (show s.heap.IsTuple g v.toArray from O) (show s.heap.IsTuple B C.toArray from Q) NO (λj h1 h2=>?_)
 .rw[Yp d f T q (by rw[Ov,<- r.length,S]) (by rw[Ov,<- R.length,W])]at z;let E:gV (.tp l) (.tp m)=gV l m:=by
   by_cases c:l=m
   .rw[zq c,zq (by rw[c])]
   .rw[zf c,zf (λk=>c (by injection k))]
  rw[E];rwa[z]
 .let la:=r.length;let lb:=R.length;let D:j < ο i:=by simp at h1;omega
  let h:j < ο o:=by simp at h2;omega
  let⟨u1,q1,r1⟩:=r.get (On D);let⟨u2,q2,r2⟩:=R.get (On h);let e1:v.toArray[j]=u1:=by let⟨_,e⟩:=ξ.mp q1;simpa using e
  let E:C.toArray[j]=u2:=by let⟨_,e⟩:=ξ.mp q2;simpa using e
  rw[e1,E];let⟨F,g1,g2,g3,g4,g5⟩:=U j _ (On D);let⟨u',k1,k2,k3,k4,k5⟩:=Y j _ (On h);let et:lX l m j=gV F u':=by unfold lX;rw[g1,k1]
  rw[et];rwa[G F (A:=A.in1) NO (by show A.units+1+n < cLine;omega) g3 g2 k3 k2 g5 k5 _ _ r1 r2]
inductive FH(d:Nat)(x y:V)(H:Hp)(Q:VK):Prop
 |mk(l m:Tr)(_:l.dep < d)(_:l.In)(_:m.In)(_:aS H (.tp l) x [])(_:aS H (.tp m) y [])(_:Q (.bl (!gV (.tp l) (.tp m))) H)
def Fm{d:Nat}(c:X.A.units+d+1 < cLine):fq X (compareOp .NotEq) (FH d):=by intro p s n H x y v u Q I r R h;obtain⟨l,m,o,i,e,⟨f,a,z,rfl,g,t⟩,⟨j,b,B,rfl,k,T⟩,q⟩:=h;cases r;cases R;rwa[Mz I d (KK I d) NO c i e f j g k t T X.prog X.w _ _ #[.bl _,H,I,Z,q]]
end
def Ni(r R:R2):R2:=λx y H Q=>r x y H Q∨R x y H Q
def Fn{X:Cx}(b:fq X o c)(d:fq X o e):fq X o (Ni c e):=λp s a H x y v u Q I r R h=>h.elim (b p s a H x y v u Q I r R) (d p s a H x y v u Q I r R)
def mw(os:xL aQ)(m:Nat)(n:Int)(h:xL Int)(w:Sk):xL Nat:=if dj (aW n h) os m=[] then (match w with
 | .cl f i _ _=>dj (dh f i) os m
 |_=>[]) else []
def JT(os:xL aQ)(m:Nat)(n:Int)(h:xL Int)(w:Sk):(dj (aW n h) os m++mw os m n h w).head?=fi os m n h w:=by
 let H:=Yv (aW n h) os m;unfold fi mw;cases e:dj (aW n h) os m with
 |cons j r=>rw[e]at H;rw[<- H];rfl
 |nil=>
  rw[e]at H;rw[<- H,OB Z];show(match w with | .cl f i _ _=>dj (dh f i) os m |_=>[]).head?=f8 os m w;cases w with
  |cl f i s a=>rwa[Yv (dh f i) os m]
  |_=>rfl
def Lr(l:xL Nat):l.take 1=match l.head? with |some j=>[j] |none=>[]:=by cases l<;>rfl
def AU(os:xL aQ)(m:Nat)(n:Int)(h:xL Int)(w:Sk):(mw os m n h w).length<=ο os:=by
 unfold mw;split
 .split
  .rwa[XF _ _ _]
  .rwa[OA _]
 .rwa[OA _]
def HM(l:xL Nat):aT (dJ l) θ (δ 1)=dJ (l.take 1):=by
 unfold aT dJ;let e:HT.sIx (l.map λ(j:Nat)=>vr (j:Int)).length 0 θ=0:=rfl;rw[e,UE,Sz,SQ];cases l with
 |nil=>simp
 |cons a r=>
  let E:HT.sIx ((a::r).map λ(j:Nat)=>vr (j:Int)).length ((a::r).map λ(j:Nat)=>vr (j:Int)).length (δ 1)=1:=by unfold HT.sIx;simp
  rw[E]
def Yy(l:xL Nat):(dJ l).isEmpty=l.isEmpty:=by cases l<;>rfl
def XG(a b:xL Nat):dJ a++dJ b=dJ (a++b):=by unfold dJ;rw[OU]
def Kt(l:xL Nat):(dJ l).length=ο l:=Oq _
inductive XYr(H:Hp)(s:Sk)(S:xL V)(j:Nat)(o:aQ):Prop|mk(p h u:_)(_:S[j]?=↑p)(_:H p=δ (.tup [.int o.1,.ref h,u]))(_:H h=δ (.tup$ o.2.1.map vr))(_:dS H o.2.2 u [])(_:o.2.2.ok ν)(_:o.2.2.dep<=s.dep)(_:o.2.2.size+1<=s.size)
def XY{H:Hp}{s:Sk}{S:xL V}{j:Nat}{o:aQ}(O:s.ok μ)(h:dS H s .non S)(a:s.steps[j]?=δ o):XYr H s S j o:=by let l:=zc O h;let k:=(ξ.mp a).1;obtain⟨x,b⟩:∃x,S[j]?=δ x:=#[_,On NO];let⟨n,m,w,p,c,u,t,T,d,e,rfl,f,g,i⟩:=zV O h b;rw[a]at t;cases t;exact#[p,c,u,b,f,g,i,T,d,e]
def DX{w:Sk}(o:w.ok ν)(h:dS H w u []):∃p v r,u= .ref p/\H p=δ (.tup (.str v::r))/\∀n c,decide (v="call")=fX (n,c,w):=by
 let⟨p,v,r,e,g,d⟩:=Kr o h;erw[#[p,v,r,e,g,λn c=>?_]];by_cases b:v="call"
 .let⟨f,i,s,a,rfl⟩:=d.mp b;rw[OE b];rfl
 .rw[Oz b];cases w with
  |cl f i s a=>rwa[absurd (d.mpr #[f,i,s,a,Z]) b]
  |_=>rfl
def AT{j i:xL Int}:gV (ay [aM g,ay$ j.map ar]) (ay [aM f,ay$ i.map ar])=dh f i (n,H,.cl g j s a):=by
 by_cases h:g=f/\j=i
 .rw[h.1,h.2,zq Z];exact(OE #[Z,Z]).symm
 .rw[zf]
  .exact(Oz h).symm
  intro e;let e:Tr.tp (.cons (aM g)$ .cons (ay$ j.map ar) .nil)= .tp (.cons (aM f)$ .cons (ay$ i.map ar) .nil):=e;injection e with e;injection e with A c;injection c with b _;injection A with A;injection A with A;let b:Tr.tp (aC$ j.map ar)= .tp (aC$ i.map ar):=b;injection b with b;rwa[h #[A,qF b]]
def Dl(f:ρ)(i:xL Int):(aC [aM f,ay$ i.map ar]).In:=#[Z,zd i,trivial]
def EC(f:ρ)(i:xL Int):(aC [aM f,ay$ i.map ar]).dep < 10:=by let h:=ze i;show max 0 (max ((aC$ i.map ar).dep+1) 0) < 10;omega
def we{P:aQ->Bool}{os:xL aQ}(b:os[m+i]?=δ o)(h:a++dJ (dj P os$ m+i)=dJ (dj P os m)):(P o=μ->(a++[.int ((m:Int)+(i:Int))])++dJ (dj P os$ m+(i+1))=dJ (dj P os m))/\(P o=ν->a++dJ (dj P os$ m+(i+1))=dJ (dj P os m)):=by
 rw[KM b]at h;let e:(m:Int)+(i:Int)=((m+i:Nat):Int):=NO
 erw[#[λH=>?_,λH=>?_]]
 .rw[OB H]at h;rw[<- h,e,Pb];rfl
 .rw[OD (by rw[H];intro z;cases z)]at h;rwa[h]
theorem pT{P:aQ->Bool}{os:xL aQ}(h:os[j]?=δ o)(H:P o=μ):∀(d m:Nat),j=m+d->j∈dj P os m
 |0,m,e=>by let e:j=m:=e;subst e;rw[KM h,OB H];rwa[ON]
 |d+1,m,e=>by
  let b:=(ξ.mp h).1;let a:m < ο os:=NO
  rw[KM$ On a];let i:=pT h H d (m+1) NO;split
  .rwa[OY _ i]
  .rwa[i]
theorem pS(P:aQ->Bool):∀(k:Nat) (os:xL aQ),∀j∈iF P k os,∃i s,j=k+i/\os[i]?=δ s/\P s=μ
 |_,[],_,h=>nomatch h
 |k,s::r,j,h=>by
  let h:j∈(if P s=μ then k::iF P (k+1) r else iF P (k+1) r):=h;let g:j∈iF P (k+1) r->∃i S,j=k+i/\(s::r)[i]?=δ S/\P S=μ:=λz=>by let⟨i,S,e,a,b⟩:=pS P (k+1) r j z;exact#[i+1,S,NO,by simpa using a,b]
  by_cases H:P s=μ
  .rw[OB H]at h;rcases Ξ.mp h with rfl |h
   .exact#[0,s,Z,Z,H]
   .rwa[g h]
  .rw[OD H]at h;rwa[g h]
def Y2{P:aQ->Bool}{os:xL aQ}{m j:Nat}(h:j∈dj P os m):m<=j/\∃s,os[j]?=δ s/\P s=μ:=by let⟨i,s,e,H,a⟩:=pS P m _ j h;rw[T8]at H;exact#[NO,s,by rw[e];rwa[H],a]
def Ab(os:xL aQ)(m:Nat)(n:Int)(h:xL Int)(w:Sk)(p a:aO)(k:Nat):Ly:=match dj (aW n h) os m with
 | []=>#[[],[],[a++[(k:Int)]],[]]
 |j::_=>match os[j]? with
  |some o=>if o.2.2.fnd=w.fnd then #[[(p++[(j:Int)],a++[(k:Int)])],[],[],[p++[(j:Int)]]] else #[[],[(p++[(j:Int)],a++[(k:Int)])],[],[p++[(j:Int)]]]
  |none=>.nil
def ve{os:xL aQ}{w:Sk}{po pn:aO}{k:Nat}(h:fi os m n H w=δ j)(b:os[j]?=δ o):Ab os m n H w po pn k=Bu (po++[(j:Int)]) o (pn++[(k:Int)]) n H w:=by
 let a:=JT os m n H w;rw[h]at a;let⟨d,_⟩:=zB h;unfold Ab Bu;cases e:dj (aW n H) os m with
 |cons J r=>rw[e]at a;injection a with a;subst a;let⟨_,s,c,f⟩:=Y2 (P:=aW n H) (os:=os) (m:=m) (j:=J) (by rw[e];rwa[ON]);rw[b]at c;cases c;rw[OB f];dsimp only;rw[b]
 |nil=>rw[OD];intro g;let:=pT b g (j - m) m N09;rw[e]at this;cases this
def vb{os:xL aQ}{w:Sk}(h:fi os m n H w=θ):Ab os m n H w b p k=#[[],[],[p++[(k:Int)]],[]]:=by
 let a:=JT os m n H w;rw[h]at a;unfold Ab;cases e:dj (aW n H) os m with
 |cons j r=>rw[e]at a;cases a
 |nil=>rfl
def Ax(os:xL aQ)(m:Nat)(n:Int)(h:xL Int)(w:Sk)(p a:aO)(k:Nat):(Ab os m n h w p a k).tot<=2:=by
 unfold Ab;split
 .rwa[PY 1]
 .split
  .split
   .rwa[Ou 2]
   .rwa[Ou 2]
  .rwa[OA 2]
def vO{W b:Sk}(o:W.ok ν)(O:b.ok ν)(E:cj W=cj b)(I:dS c W u [])(j:dS c b U [])(G:V->Hp->Prop)(h:G (.bl (!decide (W.fnd=b.fnd))) c):(Ni Nh$ FH 10) (Dj W u) (Dj b U) c G:=by
 let⟨F,k⟩:=Ed o O E;by_cases H:W.fnd=b.fnd
 .rw[OE H]at h;rcases F H with ⟨f,i,S,A,s,a,rfl,rfl,e⟩ | ⟨rfl,n⟩
  .erw[.inl #[Z,?_]];rw[show decide (Dj (.cl f i S A) u=Dj (.cl f i s a) U)=μ from OE (by show vr A=vr a;rw[e])];rwa[h]
  .let⟨l,m,dl,g⟩:=yt o n;rw[wt n,wt n];let T:=JY o I (λ_=>Z) (λz=>nomatch z);let t:=JY o j (λ_=>Z) (λz=>nomatch z);rw[m]at T t;erw[.inr #[l,l,dl,g,g,T,t,?_]];rw[zq Z];rwa[h]
 .rw[Oz H]at h;rcases k H with ⟨f,i,S,A,s,a,rfl,rfl,e⟩ | ⟨C,p,d,rfl,rfl,e⟩
  .erw[.inl #[Z,?_]];rw[show decide (Dj (.cl f i S A) u=Dj (.cl f i s a) U)=ν from Oz λz=>e (by injection z)];rwa[h]
  .let T:=JY o I (λ_=>Z) (λz=>nomatch z);let t:=JY O j (λ_=>Z) (λz=>nomatch z);erw[.inr #[aC [aM "read",ar C,ar p],aC [aM "read",ar C,ar d],by show max 0 (max 0$ max 0 0) < 10;decide,#[Z,Z,Z,trivial],#[Z,Z,Z,trivial],T,t,?_]];rw[zf]
   .rwa[h]
   intro z;injection z with z;injection z with _ z;injection z with _ z;injection z with z _;injection z with z;injection z with z;rwa[e z]
def L4.new(h:L4 H o r k t f d y)(n:H x=θ):x≠k/\x≠t/\x≠f/\x≠d:=by let⟨_,a,_⟩:=h.kv;let⟨_,b,_⟩:=h.tv;let⟨_,c,_⟩:=h.fv;let⟨_,e,_⟩:=h.dv;exact#[(jk a n).symm,(jk b n).symm,(jk c n).symm,(jk e n).symm]
def c8.kept(b:c8 k t f d H a)(n:x≠k/\x≠t/\x≠f/\x≠d)(h:H x=δ o):a x=δ o:=b _ _ n.1 n.2.1 n.2.2.1 n.2.2.2 h
def zD(s:aa H h)(n:h x=θ):H x=θ:=by
 cases z:H x with
 |none=>rfl
 |some o=>rw[s _ _ z]at n;cases n
def MX(os:xL aQ)(m i:Nat)(P:aQ->Bool)(H:Hp)(z:xL V)(h:Hp):Prop:=aa H h/\ο z<=i/\z++dJ (dj P os$ m+i)=dJ (dj P os m)
def eN:am z40z z20z (ae ut):=bV
def uy:ic:=#[.function,[(".0",.local),("_law_j",.local),("_law_old",.free),("_law_step",.free)],ν,ν,[]]
def wC:(z32z:xL ρ).Nodup:=NM
def vh:bn z40z (ae ut) uy z32z 1 [0,7]:=oQ
def uA:ic:=#[.function,[(".0",.local),("_law_j",.local),("_law_old",.free)],ν,ν,[]]
def Ey:(["_law_j","_law_old"]:xL ρ).Nodup:=NM
def DY:bn z40z (ae ut) uA ["_law_j","_law_old"] 1 [0]:=oQ
def EO(F:xD K "_law_beside" ut f fd)(cF:‹1› fF m2 ["_law_step"] n9 "_law_found")(cW:‹18› fW m3 z16z (gH 17) "_law_all_in")(cS:‹n+20› fS m4 z20z (iQ n) "_law_beside")(m0:mg "enumerate"=θ)(ml:mg "len"=θ)(mr:mg "range"=θ)(mi:mg "int"=θ):⇑(n+21) f fd z20z (iQ$ n+1):=by
 erw[F.ok eN λm5 A o' s H vs Q E hr h=>?_]
 symm;let⟨D,z,kA,tA,fA,dA,oa,c,na,b,po,pn,f,is,js,S,s1,a0,a1,y,rfl,hL,b9,d3,m6,m7,d4,o1,m8,m9,d5,d6,m',m1,h6,D0,D1,b',q⟩:=h;erw[#[_,(jd (jA 5 eN.nd jf)$ jg$ km O8 Z (KS Z m0$ ja (jv$ pv 1) jb) (zR (n:=2) Z$ jC (jx (i:=6) eN.nd Z$ ω Z)$ jC (jx (i:=7) eN.nd Z$ fJ Z) kB)$ jd (jA 8 eN.nd$ jw jU (pv 3)$ ji$ ja (pv 6) jb)$ jd (@qK _ _ _ _ _ _ _ _ _ _ (10) (z32z) (1) ([0,7]) _ _ _ _ eN.nd Z (ω Z) Z (qL Z mr$ ja (pv 5)$ ja (jO jL Z ml Pm$ ja (jv$ pv 0) jb) jb) vh (λ_ _ _ _ _=>(jx (i:=0) wC Z$ ω Z)) (λ_ _ _ _ _=>(@KD _ _ _$ jz (Xp (d:=10)$ nL hr) (jJ kc (jq (r:=db K) (kI (K:=K) Z) (jq (r:=db K) (kI (K:=K) Z) (pv 1) jf ∅) (pv 0) ∅) jT$ jG jf) (jJ kc (pv 2) jT$ jG jf)$ aD _)) (λ_ _ _ _ _=>(pv 0)) NK Ch Cv)$ jd (jA 11 eN.nd$ jF jb)$ jd (jy (PW.pt$ qv (jz (Y1$ Su$ zX hr) (pv 10) (jF jb)$ aD _)$ zN$ jZ$ jv$ jq jE (pv 7) jf ∅) (jd (@qK _ _ _ _ _ _ _ _ _ _ (12) (["_law_j","_law_old"]) (1) ([0]) _ _ _ _ eN.nd Z (ω Z) Z (qL Z mr$ ja (pv 5)$ ja (jO jL Z ml Pm$ ja (jv$ pv 0) jb) jb) DY (λ_ _ _ _ _=>(jx (i:=0) Ey Z$ ω Z)) (λ_ _ _ _ _=>(@KD _ _ _$ jz qr (jq (r:=db K) (kI (K:=K) Z) (jq (r:=db K) (kI (K:=K) Z) (jq (r:=db K) (kI (K:=K) Z) (jq (r:=db K) (kI (K:=K) Z) (pv 1) jf ∅) (pv 0) ∅) jf ∅) jf ∅) jm$ aD _)) (λ_ _ _ _ _=>(pv 0)) NK Ch Cv)$ jg$ @qK _ _ _ _ _ _ _ _ _ _ (11) (z32z) (1) ([0,7]) _ _ _ _ eN.nd Z (ω Z) Z (zr$ pv 12) vh (λ_ _ _ _ _=>(jx (i:=0) wC Z$ ω Z)) (λ_ _ _ _ _=>(@KD _ _ _$ jz (Xp (d:=10)$ nL hr) (jJ kc (jq (r:=db K) (kI (K:=K) Z) (jq (r:=db K) (kI (K:=K) Z) (jq (r:=db K) (kI (K:=K) Z) (jq (r:=db K) (kI (K:=K) Z) (pv 1) jf ∅) (pv 0) ∅) jf ∅) jf ∅) jT$ jG jf) (jJ kc (jq (r:=db K) (kI (K:=K) Z) (jq (r:=db K) (kI (K:=K) Z) (pv 2) jf ∅) jf ∅) jT$ jG jf)$ aD _)) (λ_ _ _ _ _=>(pv 0)) NK Ch Cv) jp)$ jd (jy (jz (Y1$ Su$ zX hr) (pv 10) (jF jb)$ aD _) (jg$ jN$ j9 OF OR OQ jQ (jv$ pv 4)$ ja (pv 8) jb)$ jd (jA 13 eN.nd$ ji$ ja (jw jU (pv 2)$ ji$ ja (jq ju (pv 10) jf ∅) jb)$ ja (pv 8) jb)$ jd (jN$ j9 OF OR OQ jQ (jq jE (pv 4) (jI qM Z mi VX$ ja (qf (Fn QM$ Fm (d:=10)$ nL hr) (cF.e hr.m$ ja (jq jE (jv$ pv 0) (jq ju (pv 10) jf ∅) ∅) jb) (cF.e hr.m$ ja (pv 7) jb)$ aD _) jb) ∅)$ ja (pv 13) jb)$ jg$ jN$ j9 OF OR OQ jQ (jv$ pv 4)$ ja (jv$ pv 13) jb)$ jd (jA 14 eN.nd$ jJ kj (jw zT (pv 10)$ pv 11) jT$ jG jf)$ jd (km O8 Z (zr$ pv 14) (jx (i:=9) eN.nd Z$ ω Z)$ jd (jA 5 eN.nd$ jw jX (pv 9) jf)$ jg$ jy (jZ$ jv$ jq jE (pv 7) jf ∅) (jg$ jN$ cS.e hr.m$ ja (jq jE (jv$ jq jE (jq jE (pv 0) jf ∅) (pv 9) ∅) jf ∅)$ ja (jv$ jq jE (pv 7) jf ∅)$ ja (jw jU (pv 2)$ ji$ ja (pv 9) jb)$ ja (pv 8)$ ja (pv 4) jb) jp)$ jg$ jy (PW.pt$ qv (jz (Y1$ Su$ zX hr) (pv 14) (jF jb)$ aD _)$ zN$ jZ$ jv$ jq jE (pv 7) jf ∅) (jg$ jN$ j9 OF Rg Rc z9 (jv$ pv 4)$ ja (cW.e hr.m$ ja (jv$ jq jE (pv 7) jf ∅)$ ja (pv 8) jb) jb) jp),?_]];let p0:=aN;symm;let⟨_,g0,e0,s8,d7,h1,h2,h3,h4⟩:=id d4;cases d7;let⟨_,g1,e1,s',d8,k1,k2,k3,k4⟩:=id d5;cases d8;let p1:=zc o1 h4;let p2:=qA o1 h4;erw[ah λF1 v=>v _ _ ?_];left;erw[fQ λJ jj=>(jr k1 eG #[e1,Z,#[_,aF.of k3],jj _ _ ?_])];erw[Jb (K:=K) (xs:=s') (MW D z kA tA fA dA oa c na b po pn f S.steps s' s1 (y.app$ nE s1 po S.steps 0 pn 0) H) #[θ,θ,θ,θ,θ,θ,θ,θ,θ,0,s1,y,Z,hL,k4,d6,Ou _,Ou _,D1,OA _,Z,λ_ _ _ _ _ _ e=>e] (λk σ Hx _ h=>?_) ?_ (λσ Hx h=>?_)]
 .symm;let⟨_,_,_,_,_,_,_,_,_,_,_,_,_,_,_,_,_,_,_,_,_,b7⟩:=h;rwa[aF.of$ hL.tm b7 _ _ k3]
 .intro E rt k x pp σ H4 d' f5 fE Gq kq h;symm;let⟨o6,o7,o8,o9,o4,o5,O,C,o2,m,r2,y4,rfl,L4,w2,w3,w4,w5,w6,w7,w8,b4⟩:=h;let s5:aa H4 (af H4 pp$ .tup [.int k,x]):=je f5;let e5:af H4 pp (.tup [.int k,x]) pp=δ (.tup [.int k,x]):=jc;erw[kq ?_];generalize af H4 pp (.tup [.int k,x])=H5 at s5 e5 ⊢;let b5:=b4.trans (c8.of_same s5);let t':=hL.tm b5;let L5:=L4.same s5;erw[#[pp,_,Z,aF.of e5,Z,_,_,Z,_,_,Z,Z,?_]];rw[AF d']at w2;let w2:=w2.mono (aa.tm s5);symm;cases r2 with
  |nil=>rwa[nomatch (show _::_=[] from w2)]
  |ask _ |rd _ _ |wr _ _ |cl _ _ _ _=>rwa[w3.elim]
  |st N p w r1=>
   let⟨p',h',u',y',ex,i1,i2,i3,i4⟩:=w2;injection ex with ex ey;subst ex;subst ey;let d0:w.dep<=s1.dep:=OK (SK _ _) w4;let d2:r1.dep<=s1.dep:=OK (Sx _ _) w4;let w5:w.size+r1.size+1<=s1.size:=w5;show fh (eP _ _) (fh _ _) E [↑c,↑b,↑oa,↑na,↑z,δ$ .int (m:Int),δ$ .int k,↑p',o8,o9,o4,o5,O,C,o2] H5;sleep 7;erw[ah λF1 v=>#[_,Z,_,Z,iT,λt nt=>#[na,t,_,_,Z,Z,aq (t' _ _ d3) nt,jc,by rw[Oq];show _+1<=_;omega,λr9 H9 e9 s9=>v _ _ ?_]]];left;let S9:aa H5 H9:=(je (o:=.tup [.int k]) nt).trans s9;let e9:H9 r9=δ (.tup$ pn.map vr++[.int (k:Int)]):=e9;rw[sL]at e9;let t6:=hL.tm (b5.trans$ c8.of_same S9);erw[ah λF1 v=>#[_,Z,jr (t6 _ _ h1) eG #[e0,_,Z,.inr$ aF.of$ t6 _ _ h3,_,_,Z,#[NO,NO,NO,NO],?_]]];erw[JF (lo:=(m:Int)) (n:=((s8.length:Int) - (m:Int)).toNat) (λi B Hx=>MX S.steps m i (aW N p) H9 B Hx) #[aa.refl _,Ou 0,Z] NO (λi B Hx h=>h.2.1) ?_ ?_]
   .intro i B Hx hi h;symm;let⟨W,lz,ez⟩:=h;let h8:m+i < ο S.steps:=by omega
    let X:=On h8;right;generalize S.steps[m+i]=o at X;symm;let⟨q,hq,uq,q1,q2,q3,_,_,_,_⟩:=XY o1 (h4.mono$ t6.trans$ aa.tm W) X;let ei:(m:Int)+(i:Int)=((m+i:Nat):Int):=NO
    let⟨gy,gn⟩:=we X ez;erw[(jr (W _ _$ t6 _ _ h1) eG #[_,Z,e0,_,_,_,Z,Z,aF.of$ W _ _$ t6 _ _ h3,by rw[ei];rwa[jH q1],_,Z,q,_,Z,q2,λt1 Hy a2 sy=>#[_,Z,_,Z,p',_,Z,sy _ _$ W _ _$ S9 _ _ i1,λt2 Hz h6 sz=>#[_,_,pI o.1 o.2.1,Xr o.1 o.2.1,Xr N p,jD (sz _ _ a2)$ jl Z jV$ jl Z (kX$ sz _ _$ sy _ _ q3) jB,jD h6$ jl Z jV$ jl Z (kX$ sz _ _$ sy _ _$ W _ _$ S9 _ _ i2) jB,_,Z,?_]]])];rw[show gV (.tp$ aC [ar o.1,ay$ o.2.1.map ar]) (.tp$ aC [ar N,ay$ p.map ar])=aW N p o from ww (w:=o.2.2)];let c0:=(W.trans sy).trans sz;cases hb:aW N p o with
    |true=>rwa[nO #[_,Z,c0,by rw[Ot];show _+1<=_;omega,gy hb]]
    |false=>rwa[nM #[c0,NO,gn hb]]
   intro B HA h sl n5;symm;let⟨sA,_,ez⟩:=h;rw[Ks NO]at ez;let ez:B=dJ (dj (aW N p) S.steps m):=by rw[<- ez];exact(O2 _).symm
   subst ez;erw[v _ _ ?_];left;let sB:aa HA (af HA sl$ .lst$ dJ$ dj (aW N p) S.steps m):=je n5;let eB:af HA sl (.lst$ dJ$ dj (aW N p) S.steps m) sl=δ (.lst$ dJ$ dj (aW N p) S.steps m):=jc;generalize af HA sl (.lst$ dJ$ dj (aW N p) S.steps m)=HB at sB eB ⊢;erw[ah λF1 v=>#[gR,λlA n6=>v _ _ ?_]];left;let sC:aa HB (af HB lA$ .lst []):=je n6;let eC:af HB lA (.lst []) lA=δ (.lst []):=jc;generalize af HB lA (.lst [])=HC at sC eC ⊢;let SC:aa H5 HC:=((S9.trans sA).trans sB).trans sC;let eB:=sC _ _ eB;let t9:=t'.trans (aa.tm SC);let e9:=sC _ _ (sB _ _$ sA _ _ e9);let n7:H5 lA=θ:=zD ((S9.trans sA).trans sB) n6;let f6:H5 sl=θ:=zD (S9.trans sA) n5;let p4:=XF (aW N p) S.steps m;let p6:=AU S.steps m N p w;erw[ah λF1 v=>?_];suffices g2:∀(l2:ζ) (O:ym V) (HD:Hp),H5 l2=θ->aa HC HD->HD l2=δ (.lst$ dJ$ mw S.steps m N p w)->F1 [↑c,↑b,↑oa,↑na,↑z,δ$ .int (m:Int),δ$ .int k,↑p',↑r9,o9,↑sl,↑l2,O,C,o2] HD by
    left;erw[#[_,Z,gR,λl0 n0=>#[sl,l0,_,Z,Z,aq eB n0,jc,_,Z,?_]]];let sD:aa HC (af HC l0$ .lst []):=je n0;generalize af HC l0 (.lst [])=HD at sD ⊢;let SD:=SC.trans sD;rw[Yy];cases e2:dj (aW N p) S.steps m with
    |cons j0 r0=>
     erw[aV Z$ aV Z$ g2 lA O HD n7 sD ?_];let z:mw S.steps m N p w=[]:=by unfold mw;rw[e2];rfl
     rw[z];rwa[sD _ _ eC]
    |nil=>
     erw[cq Z ?_];symm;let⟨p3,v3,r3,eu,h7,h0⟩:=Kr w3.1 (i3.mono$ aa.tm SD);subst eu;erw[(jr (SD _ _ i1) eG #[p3,_,_,_,Z,Z,aF.of h7,eJ,Z,_,Z,?_])];rw[Jn];symm;by_cases hv:v3="call"
     .erw[cq (OE hv) ?_];symm;let⟨g,L,sw,aw,rfl⟩:=h0.mp hv;let zl:mw S.steps m N p (.cl g L sw aw)=dj (dh g L) S.steps m:=by unfold mw;rw[OB e2]
      rw[zl]at g2;let⟨x1,c1,g4,e4,s3,e3,j1,j2,j3,j4,j5⟩:=i3.mono (aa.tm SD);cases e3;let t0:=t9.trans (aa.tm sD);erw[ah λF2 f2=>#[_,Z,jr (t0 _ _ h1) eG #[e0,_,Z,.inr$ aF.of$ t0 _ _ h3,_,_,Z,#[NO,NO,NO,NO],?_]]];erw[JF (lo:=(m:Int)) (n:=((s8.length:Int) - (m:Int)).toNat) (λi B Hx=>MX S.steps m i fX HD B Hx) #[aa.refl _,Ou 0,Z] NO (λi B Hx h=>h.2.1) ?_ ?_]
      .intro i B Hx hi h;symm;let⟨W,lz,ez⟩:=h;let h8:m+i < ο S.steps:=by omega
       let X:=On h8;right;generalize S.steps[m+i]=o at X;symm;let⟨q,hq,uq,q1,q2,q3,q4,q5,_,_⟩:=XY o1 (h4.mono$ t0.trans$ aa.tm W) X;let ei:(m:Int)+(i:Int)=((m+i:Nat):Int):=NO
       let⟨gy,gn⟩:=we X ez;let⟨p5,v5,r5,eu,f7,f9⟩:=DX q5 q4;subst eu;erw[(jr (W _ _$ t0 _ _ h1) eG #[_,Z,e0,_,_,_,Z,Z,aF.of$ W _ _$ t0 _ _ h3,by rw[ei];rwa[jH q1],q,_,_,_,Z,Z,aF.of q2,eG,p5,_,_,_,Z,Z,aF.of f7,eJ,Z,_,Z,?_])];rw[Jn,f9 o.1 o.2.1];cases hb:fX o with
       |true=>rwa[nO #[_,Z,W,by rw[Ot];show _+1<=_;omega,gy hb]]
       |false=>rwa[nM #[W,NO,gn hb]]
      intro B HE h ca f';symm;let⟨sE,_,ez⟩:=h;rw[Ks NO]at ez;let ez:B=dJ (dj fX S.steps m):=by rw[<- ez];exact(O2 _).symm
      subst ez;erw[f2 _ _ ?_];left;let sF:aa HE (af HE ca$ .lst$ dJ$ dj fX S.steps m):=je f';let eF:af HE ca (.lst$ dJ$ dj fX S.steps m) ca=δ (.lst$ dJ$ dj fX S.steps m):=jc;generalize af HE ca (.lst$ dJ$ dj fX S.steps m)=HF at sF eF ⊢;let SF:=(sD.trans sE).trans sF;let t3:=t9.trans (aa.tm SF);let S6:=SC.trans SF;let p7:=XF fX S.steps m;erw[#[_,Z,ca,Z,#[_,aL.of eF],?_]];erw[Ql (K:=K) (a:=ca) (xs:=dJ (dj fX S.steps m)) (by rw[Kt];omega) (λi B Hx=>aa HF Hx/\ο B<=i/\B=dJ (((dj fX S.steps m).take i).filter$ CU (dh g L) S.steps)) #[aa.refl _,Ou 0,Z] (λi B Hx h=>#[aL.of$ h.1 _ _ eF,h.2.1]) ?_ ?_]
      .intro i x B Hx G h;symm;let⟨W,lz,ez⟩:=h;unfold dJ at G;rw[OL]at G;let⟨j,hj,rfl⟩:=cv.mp G;let⟨_,o,X,g7⟩:=Y2 (OX hj);let et:(dj fX S.steps m).take (i+1)=(dj fX S.steps m).take i++[j]:=by rw[PQ,hj];rfl
       let⟨q,hq,uq,q1,q2,q3,q4,q5,_,_⟩:=XY o1 (h4.mono$ t3.trans$ aa.tm W) X;let⟨no,h5,wo⟩:=o;let q4:dS Hx wo uq []:=q4;let ea:CU (dh g L) S.steps j=dh g L (no,h5,wo):=by unfold CU;rw[X]
       let f0:∀Hz,aa Hx Hz->dh g L (no,h5,wo)=μ->aa HF Hz/\(B++[vr (j:Int)]).length<=i+1/\B++[vr (j:Int)]=dJ (((dj fX S.steps m).take$ i+1).filter$ CU (dh g L) S.steps):=λHz sz hb=>by rw[et,SU,<- XG,<- ez];exact#[W.trans sz,by rw[Ot];show _+1<=_;omega,by rw[U1 (by rw[ea];rwa[hb])];rfl]
       let f3:∀Hz,aa Hx Hz->dh g L (no,h5,wo)=ν->aa HF Hz/\ο B<=i+1/\B=dJ (((dj fX S.steps m).take$ i+1).filter$ CU (dh g L) S.steps):=λHz sz hb=>by rw[et,SU,<- XG,<- ez];exact#[W.trans sz,NO,by rw[U2 (by rw[ea,hb];intro z;cases z)];exact(O2 _).symm]
       cases wo with
       |cl g5 l3 c2 a5=>
        let⟨x5,c5,g6,e',c3,rfl,y1,y2,y3,_⟩:=q4;erw[(jr (W _ _$ t3 _ _ h1) eG #[_,Z,e0,_,_,_,Z,Z,aF.of$ W _ _$ t3 _ _ h3,jH q1,q,_,_,_,Z,Z,aF.of q2,eG,x5,_,_,_,Z,Z,aF.of y1,iB,_,Z,c5,_,Z,y2,λt1 Hy a2 sy=>?_])];let Sy:=(S6.trans W).trans sy;erw[(jr (Sy _ _ i1) eG #[p3,_,_,_,Z,Z,aF.of$ sy _ _$ W _ _$ sF _ _$ sE _ _ j1,iB,_,Z,c1,_,Z,sy _ _$ W _ _$ sF _ _$ sE _ _ j2,λt2 Hz h6 sz=>#[_,_,EC g5 l3,Dl g5 l3,Dl g L,jD (sz _ _ a2)$ jl Z jS$ jl Z (kX$ sz _ _$ sy _ _ y3) jB,jD h6$ jl Z jS$ jl Z (kX$ sz _ _$ sy _ _$ W _ _$ sF _ _$ sE _ _ j3) jB,_,Z,?_]])];rw[show gV (.tp$ aC [aM g5,ay$ l3.map ar]) (.tp$ aC [aM g,ay$ L.map ar])=dh g L (no,h5,.cl g5 l3 c2 a5) from AT];cases hb:dh g L (no,h5,.cl g5 l3 c2 a5) with
        |true=>rwa[nO #[_,Z,f0 Hz (sy.trans sz) hb]]
        |false=>rwa[nM (f3 Hz (sy.trans sz) hb)]
       |_=>cases g7
      intro B HG h l2 n';symm;let⟨sG,_,ez⟩:=h;rw[Kt,Pg,Qm (λs hs=>Ik s hs) S.steps _ m Z]at ez;subst ez;rwa[g2 l2 _ _ (zD (S6.trans sG) n') ((SF.trans sG).trans$ je n') jc]
     .erw[aV (Oz hv)$ g2 lA O HD n7 sD ?_];let z:mw S.steps m N p w=[]:=by
       unfold mw;rw[OB e2];symm;cases w with
       |cl f is s a=>rwa[absurd (h0.mpr #[f,is,s,a,Z]) hv]
       |_=>right;rfl
      rw[z];rwa[sD _ _ eC]
   intro l2 O HD n2 sD eD;erw[v _ _ ?_];left;let SD:=SC.trans sD;let t0:=t9.trans (aa.tm sD);let LD:=L5.same SD;let eS:=sD _ _ eB;let e9:=sD _ _ e9;let bD:=b5.trans (c8.of_same SD);let a3:=SD _ _ i1;let p8:=SD _ _ i2;let i0:=i3.mono (aa.tm SD);let g8:=i4.mono (aa.tm SD);let tt:=b';rw[<- w8,Ly.tot_app]at tt;let p9:=Ax S.steps m N p w po pn k;erw[ah λF1 v=>?_];suffices I:∀(C:ym V) (HE:Hp),Lt HE z kA tA fA dA (y4.app$ Ab S.steps m N p w po pn k)->c8 kA tA fA dA HD HE->F1 [↑c,↑b,↑oa,↑na,↑z,δ$ .int (m:Int),δ$ .int k,↑p',↑r9,o9,↑sl,↑l2,O,C,o2] HE by
    left;erw[#[_,Z,gR,λl0 n0=>#[sl,l0,_,Z,Z,aq eS n0,jc,_,Z,?_]]];let s2:aa HD (af HD l0$ .lst []):=je n0;generalize af HD l0 (.lst [])=HE at s2 ⊢;let LE:=LD.same s2;let ty:ο y4.f<=y4.tot/\ο y4.k<=y4.tot/\ο y4.t<=y4.tot/\ο y4.d<=y4.tot:=by unfold Ly.tot;omega
    rw[Yy];unfold Ab at I;cases e2:dj (aW N p) S.steps m with
    |nil=>rw[e2]at I;erw[cq Z ?_];symm;let⟨xs,G,lx⟩:=LE.fv;let l4:=lx.len;erw[(jr LE.ins eG #[.inl #[Z,_,aL.of G],_,Z,fA,_,_,Z,Z,G,NO,?_])];symm;let⟨L3,b3⟩:=LE.setF G (bg.one (R:=em) (w:=pn++[(k:Int)]) #[r9,Z,s2 _ _ e9]);rwa[I C _ L3 ((c8.of_same s2).trans b3)]
    |cons j r=>
     symm;let⟨g',o,X,j'⟩:=Y2 (P:=aW N p) (os:=S.steps) (m:=m) (j:=j) (by rw[e2];rwa[ON]);rw[e2]at I;dsimp only at I;rw[X]at I;dsimp only at I;let⟨l1,l5⟩:=wu j';let⟨d1,_⟩:=ZL D0 X;let dd:cj o.2.2=cj w:=by rw[d1,l1,l5,w6.1]
     let c4:HE sl=δ (.lst (vr (j:Int)::dJ r)):=by let z:=s2 _ _ eS;rw[e2]at z;rwa[z]
     erw[aV Z ?_];erw[ah λF2 f2=>#[_,Z,_,Z,sl,_,_,_,Z,Z,aL.of c4,eJ,iT,λt nt=>#[oa,t,_,_,Z,Z,aq (s2 _ _$ t0 _ _ b9) nt,jc,by rw[Oq];show _+1<=_;omega,λM H0 T s7=>#[_,Z,ci,λpr k0=>f2 _ _ ?_]]]];left;let u:aa HE H0:=(je (o:=.tup [.int (j:Int)]) nt).trans s7;let T:H0 M=δ (.tup$ po.map vr++[.int (j:Int)]):=T;rw[sL]at T;let s4:aa H0 (af H0 pr$ .tup [.ref M,.ref r9]):=je k0;let e6:af H0 pr (.tup [.ref M,.ref r9]) pr=δ (.tup [.ref M,.ref r9]):=jc;generalize af H0 pr (.tup [.ref M,.ref r9])=H1 at s4 e6 ⊢;let U:=(s2.trans u).trans s4;let t4:=t0.trans (aa.tm U);let Y:=LD.same U;symm;let⟨q,hq,uq,q1,q2,q3,q4,q5,_,_⟩:=XY o1 (h4.mono t4) X;let rp:oN H1 (.ref pr) (po++[(j:Int)],pn++[(k:Int)]):=#[pr,M,r9,Z,e6,s4 _ _ T,U _ _ e9];let e7:H1 sl=δ (.lst (vr (j:Int)::dJ r)):=s4 _ _ (u _ _ c4);by_cases hf:o.2.2.fnd=w.fnd
     .rw[OB hf]at I;let⟨xs,G,lx⟩:=Y.kv;let l4:=lx.len;erw[ah λF2 f2=>#[_,Z,jr (t4 _ _ h1) eG #[_,Z,sl,_,_,_,Z,Z,aL.of e7,eJ,e0,_,_,_,Z,Z,aF.of$ t4 _ _ h3,jH q1,q,hq,o.1,uq,o.2.2,Z,q2,q4,q5,_,Z,p',h',N,u',w,Z,U _ _ a3,i0.mono$ aa.tm U,w3.1,vO q5 w3.1 dd q4 (i0.mono$ aa.tm U) _$ .inr #[_,Eq.refl _,z,_,_,xm kA,Z,Z,aF.of Y.ins,by rw[OE hf];rfl,.inl #[Z,_,aL.of G],_,Z,kA,_,_,Z,Z,G,NO,f2 _ _ ?_]]]];left;symm;let⟨L0,b0⟩:=Y.setK G (bg.one (R:=oN) rp);let t5:=Y.tm b0;right;generalize af H1 kA (.lst$ xs++[.ref pr])=H2 at L0 b0 t5 ⊢;symm;let⟨B,hz,lz⟩:=L0.dv;let l6:ο B=ο y4.d:=by rw[lz.len];show(y4.d++[]).length=_;rw[O2]
      erw[(jr L0.ins Hr #[.inl #[Z,_,aL.of hz],jr (t5 _ _ e6) eJ #[dA,_,_,Z,Z,hz,NO,?_]])];symm;let⟨L1,b1⟩:=L0.setD hz (bg.one (R:=em) (w:=po++[(j:Int)]) #[M,Z,t5 _ _$ s4 _ _ T]);rw[Ly.app_assoc]at L1;rwa[I _ _ L1 (((c8.of_same U).trans b0).trans b1)]
     .rw[OD hf]at I;let⟨xs,G,lx⟩:=Y.tv;let l4:=lx.len;erw[ah λF2 f2=>#[_,Z,jr (t4 _ _ h1) eG #[_,Z,sl,_,_,_,Z,Z,aL.of e7,eJ,e0,_,_,_,Z,Z,aF.of$ t4 _ _ h3,jH q1,q,hq,o.1,uq,o.2.2,Z,q2,q4,q5,_,Z,p',h',N,u',w,Z,U _ _ a3,i0.mono$ aa.tm U,w3.1,vO q5 w3.1 dd q4 (i0.mono$ aa.tm U) _$ .inr #[_,Eq.refl _,z,_,_,xm tA,Z,Z,aF.of Y.ins,by rw[Oz hf];rfl,.inl #[Z,_,aL.of G],_,Z,tA,_,_,Z,Z,G,NO,f2 _ _ ?_]]]];left;symm;let⟨L0,b0⟩:=Y.setT G (bg.one (R:=oN) rp);let t5:=Y.tm b0;right;generalize af H1 tA (.lst$ xs++[.ref pr])=H2 at L0 b0 t5 ⊢;symm;let⟨B,hz,lz⟩:=L0.dv;let l6:ο B=ο y4.d:=by rw[lz.len];show(y4.d++[]).length=_;rw[O2]
      erw[(jr L0.ins Hr #[.inl #[Z,_,aL.of hz],jr (t5 _ _ e6) eJ #[dA,_,_,Z,Z,hz,NO,?_]])];symm;let⟨L1,b1⟩:=L0.setD hz (bg.one (R:=em) (w:=po++[(j:Int)]) #[M,Z,t5 _ _$ s4 _ _ T]);rw[Ly.app_assoc]at L1;rwa[I _ _ L1 (((c8.of_same U).trans b0).trans b1)]
   intro C HE LE bE;erw[v _ _ ?_];left;let t7:=LD.tm bE;let c6:=t0.trans t7;let nS:=L5.new f6;let k5:=L5.new n2;let eS:=bE.kept nS eS;let eD:=bE.kept k5 eD;let e9:=t7 _ _ e9;let k6:=t7 _ _ a3;let k7:=i0.mono t7;let k8:=g8.mono t7;let k9:=bD.trans bE;let q0:=(c8.of_same SD).trans bE;let q':=Kt (dj (aW N p) S.steps m);let r6:=Kt (mw S.steps m N p w);sleep 2;erw[ah λF1 v=>#[_,Z,_,Z,sl,l2,_,_,Z,Z,eS,eD,NO,λcA c9=>#[_,Z,cA,_,Z,aL.of jc,λbA n4=>v _ _ ?_]]];left;let sF:aa HE (af (af HE cA$ .lst$ dJ (dj (aW N p) S.steps m)++dJ (mw S.steps m N p w)) bA$ .lst$ aT (dJ (dj (aW N p) S.steps m)++dJ (mw S.steps m N p w)) θ$ δ 1):=(je c9).trans (je n4);let eF:af (af HE cA$ .lst$ dJ (dj (aW N p) S.steps m)++dJ (mw S.steps m N p w)) bA (.lst$ aT (dJ (dj (aW N p) S.steps m)++dJ (mw S.steps m N p w)) θ$ δ 1) bA=δ (.lst$ dJ ((dj (aW N p) S.steps m++mw S.steps m N p w).take 1)):=by rw[jc,XG,HM]
   generalize af (af HE cA$ .lst$ dJ (dj (aW N p) S.steps m)++dJ (mw S.steps m N p w)) bA (.lst$ aT (dJ (dj (aW N p) S.steps m)++dJ (mw S.steps m N p w)) θ$ δ 1)=HF at sF eF n4 ⊢;rw[Lr,JT]at eF;let LF:=LE.same sF;let t3:=c6.trans (aa.tm sF);let b2:=k9.trans (c8.of_same sF);let i':=sF _ _ k6;let a4:=k7.mono (aa.tm sF);let a':=k8.mono (aa.tm sF);let c':=sF _ _ e9;symm;let⟨p3,v3,r3,eu,h7,h0⟩:=Kr w3.1 a4;subst eu;right;cases ht:fi S.steps m N p w with
   |none=>
    rw[ht]at eF;let eF:HF bA=δ (.lst []):=eF;rw[vb ht]at LF;rw[Yx ht]at w8;let t8:=tt;rw[Yx ht,Ly.tot_app]at t8;let pl:=KY w3.1 (pn++[(k:Int)]);let z2:(#[[],[],c7 (pn++[(k:Int)]) w,[]]:Ly).tot=w.size+1:=by show 0+0+(c7 (pn++[(k:Int)]) w).length+0=_;rw[pl];omega
    rw[z2]at t8;erw[ah λF1 v=>fQ λJ jj=>#[_,Z,bA,Z,#[_,aL.of eF],jj _ _ ?_]];erw[JS (K:=K) (a:=bA) (xs:=[]) (λ_ σ H'=>σ=[↑c,↑b,↑oa,↑na,↑z,δ$ .int (m:Int),δ$ .int k,↑p',↑r9,o9,↑sl,↑l2,O,C,↑bA]/\H'=HF) #[Z,Z] (λi σ H' _ h=>by rw[h.2];rwa[aL.of eF]) (λE2 r4 i x σ H' G=>absurd G NN) (λσ H' h=>v _ _ ?_)];left;symm;let⟨rfl,rfl⟩:=h;erw[oU λG1 yT yF=>#[_,Z,gR,λl0 n0=>#[bA,l0,_,Z,Z,aq eF n0,jc,_,Z,?_]]];let sG:aa H' (af H' l0$ .lst []):=je n0;generalize af H' l0 (.lst [])=HG at sG ⊢;erw[cq Z$ jr (sG _ _ i') eG #[p3,_,_,_,Z,Z,aF.of$ sG _ _ h7,eJ,Z,_,Z,?_]];let LG:=LF.same sG;rw[Jn];symm;by_cases hv:v3="call"
    .let⟨g,L,sw,aw,rfl⟩:=h0.mp hv;right;rw[OE hv];symm;let⟨x1,c1,g4,e4,s3,e3,j1,j2,j3,j4,j5⟩:=a4.mono (aa.tm sG);cases e3;let⟨xs,G,lx⟩:=LG.fv;let l4:ο xs=ο y4.f+1:=by rw[lx.len];exact Ot
     let ty:ο y4.f<=y4.tot:=by unfold Ly.tot;omega
     let d0:sw.dep+1<=s1.dep:=d0;let o3:sw.ok μ:=w3.1;let k':(Sk.cl g L sw aw).size=sw.size:=rfl;erw[yT _$ jr LG.ins eG #[.inl #[Z,_,aL.of G],jr (sG _ _ i') eG #[p3,_,_,_,Z,Z,aF.of j1,iB,_,Z,r9,pn++[(k:Int)],g,L,sw,aw,.ref c1,Z,sG _ _ c',by rw[Ot];show _+1+_<=_;omega,#[c1,g4,e4,s3,Z,j2,j3,j4,j5],o3,NO,NO,λl B HI nl hl hz sI=>?_]]];let lz:=hz.len;rw[Oq,kY o3]at lz;symm;let⟨L7,b7⟩:=(LG.same sI).setF (sI _ _ G) hz;erw[#[fA,l,_,_,Z,Z,sI _ _ G,hl,NO,fE _ _ #[_,_,_,_,_,_,_,_,_,m,r1,_,Z,L7,?_,w3.2,d2,NO,w6.2.2,w7,?_,?_]]]
     .exact(a'.mono$ aa.tm$ sG.trans sI).mono ((LG.same sI).tm b7)
     .rw[<- w8,Ly.app_assoc,Ly.app_assoc,<- Ly.app_assoc _ _ (nE r1 po S.steps m pn$ k+1)];rfl
     .exact(b2.trans$ c8.of_same$ sG.trans sI).trans b7
    .right;rw[Oz hv];erw[yF _$ fE _ _ #[_,_,_,_,_,_,_,_,_,m,r1,_,Z,LG,a'.mono$ aa.tm sG,w3.2,d2,NO,w6.2.2,w7,?_,b2.trans$ c8.of_same sG]];let e0:c7 (pn++[(k:Int)]) w=[pn++[(k:Int)]]:=by
      let o3:=w3.1;symm;cases w with
      |nil |st _ _ _ _=>rwa[o3.elim]
      |cl f is s a=>rwa[absurd (h0.mpr #[f,is,s,a,Z]) hv]
      |_=>right;rfl
     rw[e0]at w8;rw[Ly.app_assoc];rwa[w8]
   |some j=>
    rw[ht]at eF;let eF:HF bA=δ (.lst [vr (j:Int)]):=eF;symm;let⟨g',o,X,r7⟩:=zB ht;let r8:=(ξ.mp X).1;let bs:=va (r:=r1) (po:=po) (pn:=pn) (k:=k) ht X;rw[<- ve (po:=po) (pn:=pn) (k:=k) ht X]at bs;let t8:=tt;rw[bs,Ly.tot_app,Ly.tot_app]at t8;rw[bs]at w8;let n3:bA≠kA/\bA≠tA/\bA≠fA/\bA≠dA:=(LE.same$ je c9).new n4;erw[ah λF1 v=>fQ λJ jj=>#[_,Z,bA,Z,#[_,aL.of eF],jj _ _ ?_]];erw[JS (K:=K) (a:=bA) (xs:=[vr (j:Int)]) (λi σ H'=>(i=0/\σ=[↑c,↑b,↑oa,↑na,↑z,δ$ .int (m:Int),δ$ .int k,↑p',↑r9,o9,↑sl,↑l2,O,C,↑bA]/\H'=HF)∨(i=1/\σ=[↑c,↑b,↑oa,↑na,↑z,δ$ .int ((j+1:Nat):Int),δ$ .int k,↑p',↑r9,δ$ .int (j:Int),↑sl,↑l2,O,C,↑bA]/\Lt H' z kA tA fA dA ((y4.app$ Ab S.steps m N p w po pn k).app$ nE w (po++[(j:Int)]) (sM o.2.2) 0 (pn++[(k:Int)]) 0)/\c8 kA tA fA dA HF H')) (.inl #[Z,Z,Z]) (λi σ H' _ h=>?_) ?_ (λσ H' h=>v _ _ ?_)]
    .symm;rcases h with ⟨_,_,rfl⟩ | ⟨_,_,_,b8⟩
     .rwa[aL.of eF]
     .rwa[aL.of$ b8.kept n3 eF]
    .left;intro E2 r4 i x σ H' G f4 Gq kq h;symm;rcases h with ⟨rfl,rfl,rfl⟩ | ⟨rfl,_⟩
     .cases G;erw[kq ?_];show fh (eP _ _) _ E2 [↑c,↑b,↑oa,↑na,↑z,δ$ .int (m:Int),δ$ .int k,↑p',↑r9,δ$ .int (j:Int),↑sl,↑l2,O,C,↑bA] H';erw[ah λF2 f2=>#[_,Z,_,_,Z,Z,f2 _ _ ?_]];left;let ej:(j:Int)+1=((j+1:Nat):Int):=by omega
      show lQ _ _ _ E2 [↑c,↑b,↑oa,↑na,↑z,δ$ .int ((j:Int)+1),δ$ .int k,↑p',↑r9,δ$ .int (j:Int),↑sl,↑l2,O,C,↑bA] H';rw[ej];erw[oU λG1 yT yF=>(jr i' eG #[p3,_,_,_,Z,Z,aF.of h7,eJ,Z,_,Z,?_])];rw[Jn];symm;by_cases hv:v3="call"
      .let⟨g,L,sw,aw,rfl⟩:=h0.mp hv;right;rw[OE hv];symm;let⟨q,hq,uq,q1,q2,q3,q4,q5,q6,q7⟩:=XY o1 (h4.mono t3) X;let⟨s6,ao,e8⟩:=Gv (s:=.nil) o1 D0 ht X q5 w6.1 g L sw aw Z;let⟨no,h5,wo⟩:=o;let e8:wo= .cl g L s6 ao:=e8;subst e8;let⟨x5,c5,g6,e',c3,rfl,y1,y2,y3,y0,y5⟩:=q4;let⟨x1,c1,g4,e4,s3,e3,j1,j2,j3,j4,j5⟩:=a4;cases e3;let d0:sw.dep+1<=s1.dep:=d0;let q6:s6.dep+1<=S.dep:=q6;let q7:s6.size+1<=S.size:=q7;let k':(Sk.cl g L sw aw).size=sw.size:=rfl;erw[yT _$ jr (t3 _ _ h1) eG #[_,Z,e0,_,_,_,Z,Z,aF.of$ t3 _ _ h3,jH q1,q,_,_,_,Z,Z,aF.of q2,eG,x5,_,_,_,Z,Z,aF.of y1,iB,jr i' eG #[p3,_,_,_,Z,Z,aF.of j1,iB,_,Z,_,Z,iT,λt nt=>#[oa,t,_,_,Z,Z,aq (t3 _ _ b9) nt,jc,by rw[Oq];show _+1<=_;omega,λM H0 T s7=>?_]]]];let u:aa H' H0:=(je (o:=.tup [.int (j:Int)]) nt).trans s7;let T:H0 M=δ (.tup$ po.map vr++[.int (j:Int)]):=T;rw[sL]at T;let l8:Dt D g s6:=(ZL D0 X).2;let l9:Dt D g sw:=w6.2.1;erw[#[_,Z,_,Z,D,z,kA,tA,fA,dA,M,c5,r9,c1,po++[(j:Int)],pn++[(k:Int)],g,L,L,s6,sw,ao,aw,_,Z,LF.same u,T,u _ _ c',by rw[Ot];show _+1+_<=_;omega,by rw[Ot];show _+1+_<=_;omega,#[c5,g6,e',c3,Z,u _ _ y2,u _ _ y3,u _ _ y0,y5.mono$ aa.tm u],q5,NO,NO,#[c1,g4,e4,s3,Z,u _ _ j2,u _ _ j3,u _ _ j4,j5.mono$ aa.tm u],w3.1,NO,NO,NO,l8,l9,?_,λH1 Y l'=>f4 _ _ (.inr #[Z,Z,Y,(c8.of_same u).trans l'])]];let r':y4.tot+((Ab S.steps m N p (.cl g L sw aw) po pn k).tot+((nE sw (po++[(j:Int)]) s6.steps 0 (pn++[(k:Int)]) 0).tot+(nE r1 po S.steps (j+1) pn$ k+1).tot))<=100000:=t8;rw[Ly.tot_app,Ly.tot_app];omega
      .right;rw[Oz hv];erw[yF _$ f4 _ _$ .inr #[Z,Z,?_,λ_ _ _ _ _ _ e=>e]];rw[u7 w3.1 (λf is s a e=>hv (h0.mpr #[f,is,s,a,e])),Ly.app_nil];rwa[LF]
     .rwa[absurd G NN]
    .symm;rcases h with ⟨z0,_⟩ | ⟨_,rfl,L8,b8⟩
     .rwa[absurd z0 NN]
     erw[oU λG1 yT yF=>#[_,Z,gR,λl0 n0=>#[bA,l0,_,Z,Z,aq (b8.kept n3 eF) n0,jc,_,Z,aV Z$ yF _$ fE _ _ #[_,_,_,_,_,_,_,_,_,j+1,r1,_,Z,L8.same$ je n0,?_,w3.2,d2,NO,w6.2.2,NO,?_,?_]]]]
     .exact(a'.mono$ LF.tm b8).mono (aa.tm$ je n0)
     .rw[Ly.app_assoc,Ly.app_assoc];rwa[w8]
     .exact(b2.trans b8).trans (c8.of_same$ je n0)
 .symm;let⟨o6,o7,o8,o9,o4,o5,O,C,o2,m,r2,y4,rfl,L4,w2,w3,w4,w5,w6,w7,w8,b4⟩:=h;rw[List.drop_length]at w2;cases r2 with
  |st n hs w r=>let⟨_,_,_,_,z,_⟩:=w2;cases z
  |ask _ |rd _ _ |wr _ _ |cl _ _ _ _=>rwa[w3.elim]
  |nil=>have w8:y4.app .nil=_:=w8;rw[Ly.app_nil]at w8;rwa[q Hx (w8▸L4) b4]
def HW(H:Hp)(p:aO):η->Bool
 | .ref a=>match H a with
  |some (.tup x)=>decide (x=p.map vr)
  |_=>ν
 |_=>ν
def wg{p q:aO}:p.map vr=q.map vr↔p=q:=#[λh=>(T7 λa b e=>by injection e).mp h,λh=>by rw[h]]
def vH{H:Hp}{q:aO}(h:H a=δ (.tup$ q.map vr)):HW H p (.ref a)=decide (q=p):=by
 show(match H a with |some (.tup x)=>decide (x=p.map vr) |_=>ν)=_;rw[h];dsimp only;by_cases e:q=p
 .rw[OE e,OE (by rw[e])]
 .rw[Oz e,Oz λz=>e (wg.mp z)]
def CA{p q:aO}:gV (ay$ q.map ar) (ay$ p.map ar)=decide (q=p):=by
 by_cases e:q=p
 .rw[OE e,e,zq Z]
 .rw[Oz e,zf];intro z;let z:Tr.tp (aC$ q.map ar)= .tp (aC$ p.map ar):=z;injection z with z;rwa[e$ qF z]
def pG:∀{b:xL aO} {X:xL V} {u:xL η},bg em H b X->aG X u->u.any (HW H p)=decide (p∈b)
 | [],_,_,h,r=>by let h:_=[]:=h;subst h;cases r;simp
 |q::b,_,_,Q,r=>by
  obtain⟨x,y,e,⟨a,E,c⟩,h⟩:=Q;subst e;subst E;cases r with
  |cons R d=>
   cases R;rw[SA,pG h d,vH c];by_cases e:q=p
   .subst e;simp
   .rw[Oz e];simp [O3 e]
def wB:∀{p:xL aO} {X:xL V} {U:xL η},bg em H p X->aG X U->∀u∈U,∃(a:ζ) (q:aO),u= .ref a/\H a=δ (.tup$ q.map vr)
 | [],_,_,h,r,u,hu=>by let h:_=[]:=h;subst h;cases r;cases hu
 |q::p,_,_,Q,r,u,hu=>by
  obtain⟨x,y,e,⟨a,E,b⟩,h⟩:=Q;subst e;subst E;cases r with
  |cons R c=>
   cases R;rcases Ξ.mp hu with rfl |hu
   .exact#[a,q,Z,b]
   .rwa[wB h c u hu]
inductive J8(x y:V)(H:Hp)(Q:VK):Prop
 |mk(a l:ζ)(p:aO)(b:xL aO)(c:xL V)(_:x= .ref a)(_:y= .ref l)(_:H a=δ (.tup (p.map vr)))(_:H l=δ (.lst c))(_:bg em H b c)(_:Q (.bl (decide (p∉b))) H)
def ui{X:Cx}(j:X.A.in1.units+10 < cLine):fq X (compareOp .NotIn) J8:=by
 intro f s z H x y v u Q I R k h;let⟨a,l,p,d,B,rfl,rfl,m,n,L,q⟩:=h;cases R;cases k;let⟨i,r,o,C⟩:=I.list (aL.of (K:=X.K) n);erw[PySem.SeqAt.notIn_listAt (HW H p) o.isList (λw t=>?_) #[.bl _,H,I,Z,?_]]
 .let⟨b,c,rfl,g⟩:=wB L r w (t:);rw[vH g,<- CA];rwa[KK I 10 (ay$ c.map ar) (by show(aC$ c.map ar).dep+1<=10;rw[ze];decide) j (show(ay$ c.map ar).In from zd c) Z (u:=ay (p.map ar)) (show(ay$ p.map ar).In from zd p) Z (kX g) (kX m) _ _ Z Z]
 .rw[show i.toArray.any (HW H p)=i.any (HW H p) by simp,pG L r];let e:(!decide (p∈d))=decide (p∉d):=by by_cases h:p∈d<;>simp [h]
  rw[e];rwa[q]
def tj(h:bY k A):A.in1.units+10 < cLine:=by let:=h.un;show A.units+1+10 < cLine;omega
inductive rX(k:xL V)(H:Hp)(Q:VK)(a:XK):Prop
 |mk(D:DF)(c b:ζ)(f:ρ)(g h:xL Int)(i j:Sk)(d e:Int)(_:k=[.ref c,.ref b])(_:gW H f g i d (.ref c))(_:i.ok μ)(_:i.dep<=15)(_:i.size<=60)(_:gW H f h j e (.ref b))(_:j.ok μ)(_:j.dep<=15)(_:j.size<=60)(_:Dt D f i)(_:Dt D f j)(_:∀(z kA tA fA dA:ζ) (xt xf:xL V) (fs:xL aO) (H':Hp),H' z=δ (.tup [.ref kA,.ref tA,.ref fA,.ref dA])->H' tA=δ (.lst xt)->bg oN H' (iD j [] i.steps 0 [] 0).t xt->H' fA=δ (.lst xf)->bg em H' fs xf->fs.Perm (iD j [] i.steps 0 [] 0).f->aa H H'->Q (.ref z) H')
def Jo:∀{b:Bool} {s:Sk},s.ok b->∀(a:aO) (os:xL aQ) (m:Nat) (p:aO) (k:Nat),(iD s a os m p k).k.length+(iD s a os m p k).t.length+(iD s a os m p k).f.length<=s.size
 |true,.nil,_,_,_,_,_,_=>Ou 0
 |true,.st n H w r,o,a,os,m,p,k=>by
  show _<=w.size+r.size+1;cases h:fi os m n H w with
  |none=>rw[KZ h];let d:=Jo o.2 a os m p (k+1);let c:=KY o.1 (p++[(k:Int)]);show([]++_:xL Ao).length+([]++_:xL Ao).length+(c7 (p++[(k:Int)]) w++_).length<=_;rw[Uq,Uq,Ot,c];omega
  |some j=>
   let⟨e,x,g,_⟩:=zB h;rw[K0 h g];let c:=Jo o.1 (a++[(j:Int)]) (sM x.2.2) 0 (p++[(k:Int)]) 0;let d:=Jo o.2 a os (j+1) p (k+1);let i:(one (a++[(j:Int)]) x (p++[(k:Int)]) n H w).k.length+(one (a++[(j:Int)]) x (p++[(k:Int)]) n H w).t.length+(one (a++[(j:Int)]) x (p++[(k:Int)]) n H w).f.length<=1:=by
    unfold one;split
    .split<;>rwa[Ou 1]
    .rwa[Ou 1]
   show(([]++(_++_))++_:xL Ao).length+(([]++(_++_))++_:xL Ao).length+(([]++(_++_))++_:xL aO).length<=_;simp only[Ot,Uq];omega
 |false,.cl _ _ s _,o,a,os,m,p,k=>Jo (b:=μ) (s:=s) o a os m p k
 |false,.ask _,_,_,_,_,_,_ |false,.rd _ _,_,_,_,_,_,_ |false,.wr _ _,_,_,_,_,_,_=>OA _
def Jp:∀{b:Bool} {s:Sk},s.ok b->∀(p:aO) (os:xL aQ) (m:Nat),(tH s p os m).length<=s.size
 |true,.nil,_,_,_,_=>OA _
 |true,.st n H w r,o,p,os,m=>by
  show _<=w.size+r.size+1;cases h:fi os m n H w with
  |none=>rw[Ys h];let:=Jp o.2 p os m;omega
  |some j=>
   let⟨a,x,c,_⟩:=zB h;rw[Yt h c,Ot,Ot];let d:=Jp o.1 (p++[(j:Int)]) (sM x.2.2) 0;let e:=Jp o.2 p os (j+1);let f:(if aW n H x=μ then [p++[(j:Int)]] else ([]:xL aO)).length<=1:=by
    split
    .rwa[Ou 1]
    .rwa[OA 1]
   omega
 |false,.cl _ _ s _,o,p,os,m=>Jp (b:=μ) (s:=s) o p os m
 |false,.ask _,_,_,_,_ |false,.rd _ _,_,_,_,_ |false,.wr _ _,_,_,_,_=>OA _
def EF:⇑k f d z20z (iQ 0):=by
 let n:∀{v H Q E},¬iQ 0 v H Q E:=by rintro v H Q E ⟨D,z,e,t,F,g,O,c,N,b,p,i,f,I,j,S,l,m,q,y,_,_,_,_,_,_,_,_,_,_,_,_,z,_⟩;omega
 exact#[λv H Q E h=>(n h).elim,λA o s H a u v Q E r x B C h=>(n h).elim]
def Hs(FB:xD K "_law_beside" ut f a)(b:aE K a z20z [])(M:mg "_law_beside"=↑f)(c:‹1› j h ["_law_step"] n9 "_law_found")(C:‹18› k i z16z (gH 17) "_law_all_in")(m:mg "enumerate"=θ)(d:mg "len"=θ)(e:mg "range"=θ)(g:mg "int"=θ):∀n,⇑(n+20) f a z20z (iQ n)
 |0=>EF
 |n+1=>EO FB c C #[(Hs FB b M c C m d e g n),b,FB.kp,M] m d e g
def yd:am ["_law_old","_law_new","_law_found_here","_law_gone"] ["_law_old","_law_new"] (ae BU):=bV
def uC:ic:=#[.function,[(".0",.local),("_law_path",.local),("_law_found_here",.free)],ν,ν,[]]
def EA:(["_law_path","_law_found_here"]:xL ρ).Nodup:=NM
def D2:bn ["_law_old","_law_new","_law_found_here","_law_gone"] (ae BU) uC ["_law_path","_law_found_here"] 1 [2]:=oQ
def EX(F:xD K "_law_laid" BU f fd)(cB:‹36› fB f0 z20z (iQ 16) "_law_beside")(cW:‹18› fW f2 z16z (gH 17) "_law_all_in")(m0:mg "sorted"=θ):⇑37 f fd ["_law_old","_law_new"] rX:=by
 erw[F.ok yd λc0 A o1 s H vs Q E hr h=>?_]
 let⟨D,c,b,f,is,js,d,S,a0,a1,rfl,J,C,h0,h7,h3,O,h4,h8,D0,D1,q⟩:=h;erw[#[_,(jd (kU (i:=2) yd.nd Z (fJ Z)$ ji$ ja (jF jb)$ ja (jF jb)$ ja (jF jb)$ ja (jF jb) jb)$ jd (jN$ cB.e hr.m$ ja (pv 0)$ ja (pv 1)$ ja (ji jb)$ ja (ji jb)$ ja (pv 2) jb)$ jd (@qK _ _ _ _ _ _ _ _ _ _ (3) (["_law_path","_law_found_here"]) (1) ([2]) _ _ _ _ yd.nd Z (ω Z) Z (zr$ cW.e hr.m$ ja (pv 0)$ ja (ji jb) jb) D2 (λ_ _ _ _ _=>(jx (i:=0) EA Z$ ω Z)) (λ_ _ _ _ _=>(@KD _ _ _$ jz (ui$ tj hr) (pv 0) (jq (r:=db K) (kI (K:=K) Z) (pv 1) jf ∅) Z)) (λ_ _ _ _ _=>(pv 0)) NK Ch Cv)$ jg$ jo$ ji$ ja (jv$ pv 2)$ ja (jv$ pv 2)$ ja (jO qo Z m0 SO$ ja (jv$ pv 2) jb)$ ja (pv 3) jb),?_]];let b1:=aN;erw[ah λF1 u=>#[gR,λk L=>#[gR,λT G=>#[gR,λg N=>#[gR,λj n=>#[oF,λz M=>u _ _ ?_]]]]]];let tk:T≠k:=λz=>by rw[z,jc]at G;cases G
 let ft:g≠T:=λz=>by rw[z,jc]at N;cases N
 let fk:g≠k:=λz=>by rw[z,jh tk.symm,jc]at N;cases N
 let df:j≠g:=λz=>by rw[z,jc]at n;cases n
 let dt:j≠T:=λz=>by rw[z,jh ft.symm,jc]at n;cases n
 let dk:j≠k:=λz=>by rw[z,jh fk.symm,jh tk.symm,jc]at n;cases n
 let n0:=zD (je (o:=.lst []) L) G;let n1:=zD ((je (o:=.lst []) L).trans$ je (o:=.lst []) G) N;let n2:=zD (((je (o:=.lst []) L).trans$ je (o:=.lst []) G).trans$ je (o:=.lst []) N) n;let s1:aa H (af (af (af (af (af H k$ .lst []) T$ .lst []) g$ .lst []) j$ .lst []) z$ .tup [.ref k,.ref T,.ref g,.ref j]):=((((je L).trans$ je G).trans$ je N).trans$ je n).trans (je M);let L1:Lt (af (af (af (af (af H k$ .lst []) T$ .lst []) g$ .lst []) j$ .lst []) z$ .tup [.ref k,.ref T,.ref g,.ref j]) z k T g j .nil:=#[jc,#[[],aq (aq (aq (aq jc G) N) n) M,Z],#[[],aq (aq (aq jc N) n) M,Z],#[[],aq (aq jc n) M,Z],#[[],aq jc M,Z],#[tk.symm,fk.symm,dk.symm,ft.symm,dt.symm,df.symm],λ_ z=>nomatch z];generalize af (af (af (af (af H k$ .lst []) T$ .lst []) g$ .lst []) j$ .lst []) z (.tup [.ref k,.ref T,.ref g,.ref j])=H1 at s1 L1 ⊢;let t0:=Jo O [] d.steps 0 [] 0;let l3:=Jp O [] d.steps 0;let b0:(nE S [] d.steps 0 [] 0).tot<=1000:=by unfold nE Ly.tot;dsimp only;omega
 erw[ah λF1 u=>#[_,Z,_,Z,gR,λpa n3=>#[gR,λpb R=>#[_,Z,?_]]]];let s2:aa H1 (af (af H1 pa$ .tup []) pb$ .tup []):=(je n3).trans (je R);let S2:=s1.trans s2;erw[#[D,z,k,T,g,j,pa,c,pb,b,[],[],f,is,js,d,S,a0,a1,.nil,Z,L1.same s2,aq jc R,jc,NP,NP,zO J$ aa.tm S2,C,h0,NO,zO h3$ aa.tm S2,O,NO,h4,NO,D0,D1,by rw[Ly.nil_app];omega,λH3 L3 b3=>u _ _ ?_]];rw[Ly.nil_app]at L3;let S3:aa H H3:=λx o e=>b3 _ _ (jk e L) (jk e n0) (jk e n1) (jk e n2) (S2 _ _ e);let⟨xd,h5,l0⟩:=L3.dv;erw[ah λF1 u=>#[_,Z,gR,λpe n4=>?_]];let s4:aa H3 (af H3 pe$ .tup []):=je n4;erw[#[pe,[],f,is,d,a0,.ref c,Z,jc,NP,zO J$ aa.tm$ S3.trans s4,C,NO,NO,λal xa H5 n7 U V s5=>?_]];let S5:=s4.trans s5;let l1:=V.len;rw[Oq,kY C]at l1;erw[#[al,Z,#[_,aL.of U],?_]];erw[Ql (K:=K) (a:=al) (xs:=xa) NO (λi B Hx=>Hx=H5/\ο B<=i) #[Z,Ou 0] (λi B Hx h=>#[by rw[h.1];rwa[aL.of U],h.2]) ?_ ?_]
 .intro i x B Hx hx h;let⟨rfl,lz⟩:=h;let⟨p,hp,a,rfl,ha⟩:=V.at hx;erw[#[_,Z,jr (S5 _ _ L3.ins) Hr #[a,j,p,_,xd,Z,Z,ha,S5 _ _ h5,l0.mono bG$ aa.tm S5,_,Z,?_]]];show if decide (p∉tH S [] d.steps 0)=μ then _ else _;by_cases hm:p∈tH S [] d.steps 0
  .rw[Oz (λz=>z hm)];rwa[nM #[Z,NO]]
  .rw[OE hm];rwa[nO #[_,Z,Z,by rw[Ot];show _+1<=_;omega]]
 intro B H6 h I n5;let⟨rfl,_⟩:=h;erw[u _ _ ?_];let s7:aa H6 (af H6 I$ .lst B):=je n5;let e7:af H6 I (.lst B) I=δ (.lst B):=jc;generalize af H6 I (.lst B)=H7 at s7 e7 ⊢;let S7:=S5.trans s7;let W:=L3.same S7;let⟨xf,h6,l⟩:=W.fv;let l:bg em H7 (iD S [] d.steps 0 [] 0).f xf:=l;let l2:=l.len;let pm:=JQ S [] d.steps 0 [] 0;let n:((iD S [] d.steps 0 [] 0).t.map (·.2)++(iD S [] d.steps 0 [] 0).f).Nodup:=pm.nodup_iff.mpr (yw$ uY O d.steps 0 [] 0);erw[(jr W.ins eJ$ jr W.ins iB$ jr W.ins eG #[g,xf,(iD S [] d.steps 0 [] 0).f,Z,aL.of h6,l2,NO,λi v p h1 h2=>?_,(List.nodup_append.mp n).2.1,λsf ws rs n6 g1 g2 g3 g4=>#[_,Z,oF,λtp X=>?_]])]
 .let⟨p',Y,a,ea,ha⟩:=l.at h1;rw[h2]at Y;cases Y;exact#[a,ea,ha,uW O$ pm.mem_iff.mp$ OS _$ OX h2]
 let s8:aa H7 (af (af H7 sf$ .lst ws) tp$ .tup [.ref k,.ref T,.ref sf,.ref I]):=(je n6).trans (je X);let L8:=W.same s8;let⟨xt,ht,lt⟩:=L8.tv;rwa[q tp k T sf I xt ws rs _ jc ht lt (aq jc X) ((ZO g3 λi x p h1 h2=>let #[y,e1,e2,_]:=g4 i x p h1 h2;#[y,e1,e2]).mono bG$ aa.tm s8) g1 ((S3.trans S7).trans s8)]
abbrev oY:bU:=bX 75
def BF(a:ba)(k:cf)(v:V):(cn a k v).length<=ο a+1:=qD
inductive i6(b:xL V)(H:Hp)(Q:VK)(a:XK):Prop
 |mk(p:ζ)(_:b=[.ref p])(_:au H p)(_:∀(l:ζ) (C:ba) (H':Hp),H l=θ->H' l=δ (.dK C)->GT C->ο C<=13->au H' p->aI p H H'->Q (.ref l) H')
inductive CL(p l:ζ)(H:Hp)(i:Nat)(k:_L.St)(a:Hp):Prop
 |mk(h j:ym V)(C:ba)(b:k=[↑p,↑l,h,j])(c:a l=δ (.dK C))(d:GT C)(e:ο C<=i)(f:au a p)(g:aI p H a)
def EJ:NX (.tup x):=λa z=>by cases z
def Kp.tm{H H':Hp}(k:Kp H H'):aj H H':=λb x e=>k b _ EJ e
def Ft{H:Hp}{D:xL Df}{n:xL Nat}(h:nH H D n){i:Nat}{d:Df}{p:xL ρ}(a:D[i]?=δ d)(c:H d.pa=δ (.tup$ p.map tT)):n[i]?=δ p.length:=by let f:i < ο D:=(ξ.mp a).1;let b:n[i]?=δ (n[i]'(by rw[<- h.1];rwa[f])):=On _;let⟨g,e,l,_⟩:=h.2 i d _ a b;rw[c]at e;injection e with e;injection e with e;let:=PL rz e;rw[Oq,Oq]at this;rw[b,<- l,this]
def Iv:NX (.dK x):=λa z=>by cases z
structure G7(H:Hp)(nA pA ag cA:ζ)(i:Nat)(Cs:ba)(d:Df)(ds:xL Df)(ns:xL Nat)(xs:xL V)(pds:xL di)(is:xL Int):Prop where
 ps:Ps H nA pA ds ns xs pds
 xl:ο xs<=1000
 hd:ds[i]?=δ d
 hn:ns[i]?=δ is.length
 ag:H ag=δ (.tup$ is.map vr)
 hi:∀z∈is,gB z
 il:ο is<=100
 ce:H cA=δ (.dK Cs)
 gc:GT Cs
def G7.kp(h:G7 H n a A c i C d D N x p I)(k:Kp H b):G7 b n a A c i C d D N x p I:=#[h.ps.mono k.tm,h.xl,h.hd,h.hn,k.tm _ _ h.ag,h.hi,h.il,k _ _ Iv h.ce,h.gc]
inductive oe(K:β)(d:xL V)(H:Hp)(Q:VK)(b:XK):Prop
 |mk(a:ζ)(c:xL Int)(_:d=[.ref a])(_:aL K H a (c.map vr))(_:ο c<=63)(_:∀H',Q (.bl μ) H')
def h9:am ["_law_box_here","_law_cells_here","_law_k","_law_cell"] z2z (ae oY):=bV
def wM(F:xD K "_law_cells" oY f fd)(r:‹1› fT f0 z1z bo "_law_take")(cU:‹2› fU f2 z2z ik "_law_number")(mr:mg "range"=θ):⇑3 f fd z2z i6:=by
 erw[F.ok h9 λc0 A O s H vs Q E g h=>?_]
 let⟨p,rfl,B,q⟩:=h;erw[#[_,(jd (jA 1 h9.nd X4)$ jd (km O8 Z (zh Z mr$ ja (r.e g.m$ ja (pv 0)$ ja jf jb) jb) (jx (i:=2) h9.nd Z$ ω Z)$ jd (jA 3 h9.nd$ r.e g.m$ ja (pv 0)$ ja jf jb)$ jd (jy (zo$ r.e g.m$ ja (pv 0)$ ja jf jb) (jg$ jA 3 h9.nd$ jw zb (jw zb (jw KB jf jf) jf)$ r.e g.m$ ja (pv 0)$ ja jf jb) jp)$ jg$ Ke (zX g) (pv 1) (pv 3) (cU.e g.m$ ja (pv 0) jb) Z)$ jg$ jo$ pv 1),?_]];let b0:=aN;let t0:=si;erw[ah λt a=>λl N=>a _ _ ?_];let S:aa H (af H l$ .dK []):=je N;let I:af H l (.dK []) l=δ (.dK []):=jc;generalize af H l (.dK [])=H1 at S I;let L:l≠p:=B.ne N;let B1:=B.same S;erw[ah λt a=>fQ λJ j=>#[_,Z,p,14,Z,B1,NP,NP,λd H2 d0 d1 B2 M=>#[_,Z,NO,NO,j _ _ ?_]]];erw[zj (lo:=0) (CL p l H) #[θ,θ,[],Z,by rw[M l L];rwa[I],_K.GT.nil,Ou _,B2,(aI.of_same S).trans$ aI.of_eq M] ?_ (λσ H' h=>a _ _ ?_)]
 .intro E0 _ i σ H3 hi fE Gq o h;let⟨o2,o3,C,rfl,x,G,lC,y,D⟩:=h;erw[o ?_];show fh (eP _ _) _ E0 _ _;erw[ah λt a=>#[_,Z,p,14,Z,y,NP,NP,λc4 H4 d2 d3 B4 R=>a _ _ ?_]];erw[ah λt a=>?_];let c:∀(u:Int) (v:Hp),au v p->(∀b,b≠p->v b=H3 b)->t [↑p,↑l,δ$ .int (0+(i:Int)),δ$ .int u] v:=λu v BH T=>a _ _ (by
   erw[#[_,Z,p,Z,BH,λm H7 m0 m1 B7 U=>?_]];let h7:H7 l=δ (.dK C):=by rw[U l L,T l L];rwa[x]
   let pl:=BF C (.inl u) (.int m);exact#[_,Z,_,Z,l,_,Z,su.k (k:=.inl u) h7 NO,fE _ _ #[_,_,_,Z,jc,G.put _ #[m0,m1],NO,B7.eq$ jh$ O3 L,(D.trans ((aI.of_eq T).trans$ aI.of_eq U)).upd_own N]])
  erw[oU λG1 yT yF=>#[_,Z,p,8,Z,B4,NP,NP,λd5 H5 d4 d7 W X=>#[Z,_,Z,?_]]];by_cases Y:d5=0
  .rw[Y,OE (Z:vr 0=vr 0)];erw[yT _ #[_,_,Z,Z,#[NP,NP,NP],_,_,Z,Z,_,Z,p,4,Z,W,NP,NP,λd6 H6 d8 d' B6 e6=>#[_,_,Z,Z,c _ H6 B6 λb n=>(e6 b n).trans ((X b n).trans$ R b n)]]]
  .rw[Oz (λz=>Y (by injection z))];rwa[yF _$ c _ H5 W λb n=>(X b n).trans (R b n)]
 .let⟨o2,o3,C,rfl,x,G,lC,y,D⟩:=h;exact#[_,Z,q l C H' N x G NO y D]
structure Xb(K:β)(mg:ρ->ym η)(B TL TD:ζ):Prop where
 g:mg "BookError"=↑B
 h:clsIn K B≠θ
 t:typeIn K (.ref B)=δ (.type "type")
 m:mroIn K B (.type "BaseException")=δ μ
 L:mroIn K TL (.ref B)=δ μ
 D:mroIn K TD (.ref B)=δ μ
abbrev ph:bU:=bX 81
inductive rW(l:ζ)(o:xL V)(H:Hp)(Q:VK)(b:XK):Prop
 |mk(n g h:ζ)(i:Nat)(f:ba)(d:Df)(j:xL Df)(m:xL Nat)(p:xL V)(e:xL di)(k:xL Int)(_:o=[.ref n,.str d.f,.ref g,.ref h])(_:G7 H l n g h i f d j m p e k)(_:∀(c:ζ) (sk:Sk) (a:Int) (L':ba) (H':Hp),aZ 60 e f 16 d.f k [] 0= .ok sk a L' sk.size->gW H' d.f k sk a (.ref c)->sk.ok μ->sk.dep<=15->sk.size<=60->Kp H H'->Q (.ref c) H')(_:(∀sk a L' t',aZ 60 e f 16 d.f k [] 0≠ .ok sk a L' t')->∀H',Kp H H'->Q .non H')
def iZ:am ["_law_parts","_law_f","_law_args","_law_cells_here","_law_book_here"] z41z (ae ph):=bV
def wR{f:ζ}{W:cc}{B Y TD nA r:ζ}{l:cc}(F:xD K "_law_book" ph f W)(GR:ai P w K mg base (dF P w) 45 r l z30z (sd Y TD nA))(bR:aE K l z30z [])(kR:gb K (.ref r)=μ)(mR:mg "run"=↑r)(X:Xb K mg B Y TD)(M:mg "dict"=θ):⇑46 f W z41z (rW nA):=by
 erw[F.ok iZ λc0 A v s H vs Q E hr h=>?_]
 let⟨y,G,I,i,j,d,ds,ns,xs,p,is,rfl,c,q1,q2⟩:=h;erw[#[_,(jd (jA 4 iZ.nd$ @kl _ _ _)$ jd (@Z5 _ _ _ _ _ _ _ _ _ _ _ Z Z (@ZW _ _ _ _ (4) _ _ iZ.nd Z (ω Z) (@X6 _ _ _ _ _ _ _ _ _ _ _ _ _ _ GR hr.m Z mR kR bR .nil (ja (pv 0)$ ja (pv 1)$ ja (pv 2)$ ja (jI Q1 Z M boot_dict$ ja (pv 3) jb)$ ja jf jb) NP NK NK) NK Ch) Z X.g X.h X.t X.m (λ_=>(jg$ jA 4 iZ.nd$ @kl _ _ _)) NP)$ jg$ jo$ pv 4),?_]];erw[ah λF1 k=>k _ _ ?_];erw[ah λF1 k=>?_];show yK _ _ _ _ _ [↑y,δ$ .str d.f,↑G,↑I,δ .non] H;erw[#[_,Z,_,Z,_,Z,_,Z,I,j,Z,c.ce,λO not=>?_]];let S:aa H (af H O$ .dK j):=je not;let e1:af H O (.dK j) O=δ (.dK j):=jc;generalize af H O (.dK j)=H1 at S e1 ⊢;let c:=c.kp (Kp.of_same S);erw[#[60,y,G,O,i,j,d,ds,ns,xs,p,is,Z,NP,c.ps,c.hd,c.hn,c.ag,c.hi,e1,c.gc,λu sk a L' H2 q hc ok dp sz s2=>?_,λq=>?_,λq=>?_]]
 .let⟨c',_,_,_,rfl,_,_,_,_⟩:=id hc;rwa[k _ _ #[_,Z,q1 c' sk a L' H2 q hc ok dp sz$ Kp.of_same$ S.trans s2]]
 .intro _ H7 J x C T R U hT V;cases R;erw[#[X.L,λT' n=>k _ _ #[_,Z,q2 (λ_ _ _ _ z=>by rw[q]at z;cases z) _ ?_]]];exactλb o N e=>qg (H:=H) (J _ _ N$ S _ _ e) N U n
 .intro _ H7 J x C T R U hT V;cases R;erw[#[X.D,λT' n=>k _ _ #[_,Z,q2 (λ_ _ _ _ z=>by rw[q]at z;cases z) _ ?_]]];exactλb o N e=>qg (H:=H) (J _ _ N$ S _ _ e) N U n
def ZP:∀{b:Bool} {s:Sk},s.ok b->(nV s).In
 |true,.nil,_=>trivial
 |true,.st n h w r,o=>#[#[Z,zd h,ZP o.1,trivial],ZP o.2]
 |false,.ask _,_=>#[Z,Z,trivial]
 |false,.rd _ _,_ |false,.wr _ _,_=>#[Z,Z,Z,trivial]
 |false,.cl f i s a,o=>#[Z,#[Z,zd i,ZP (b:=μ) o,Z,trivial],trivial]
def Hv{f:ρ}{i:xL Int}{s:Sk}{a:Int}(o:s.ok μ):(LM f i s a).In:=#[Z,zd i,ZP (b:=μ) o,Z,trivial]
def AQ{M:Nat}{call:oy}{C L f:ba}{p:di}{m t g n:Nat}{H:xL Int}{a:Int}{R:Sk}(h:iW M call C p (m+1) (.go n H) L t= .ok R a f g):∃c w l T r,p.cs[n]?=δ c/\gZ M call C (aJ c.nm H) L t c.e= .ok w l T/\R= .st (n:Int) H w r/\iW M call C p m (nF p c H w.wh) l T= .ok r a f g:=by
 unfold iW at h;cases e:p.cs[n]? with
 |none=>rw[e]at h;cases h
 |some c=>
  rw[e]at h;dsimp only at h;cases E:gZ M call C (aJ c.nm H) L t c.e with
  |long |deep=>rw[E]at h;cases h
  |ok w l T=>
   rw[E]at h;dsimp only at h;cases d:iW M call C p m (nF p c H w.wh) l T with
   |long |deep=>rw[d]at h;cases h
   |ok r b _L i=>rw[d]at h;cases h;exact#[c,w,l,T,r,Z,E,Z,d]
def Ac(p:xL di):DF:=λf n h=>match dY p f with
 |none=>.nil
 |some a=>match a.cs[n.toNat]? with
  |none=>.nil
  |some c=>lS (aJ c.nm h) c.e
def LY(D:DF)(call:oy):Prop:=∀f i L t s a l T,call f i L t= .ok s a l T->Dt D f s
def HS{M:Nat}{D:DF}{call:oy}{C k L i:ba}{t j:Nat}{e:DD}{w:Sk}(H:LY D call)(h:gZ M call C k L t e= .ok w i j)(g:ρ):Dt D g w:=by
 let b:=CY h;cases e with
 |ask d T=>rw[YY b]at h;cases h;trivial
 |st p l=>
  cases l with
  |gv d T |st x d T=>unfold gZ at h;rw[OB b]at h;cases h
  |rd x d T=>rw[vA b]at h;cases h;trivial
  |wr d u T U=>rw[vC b]at h;cases h;trivial
  |cl x f q m=>
   rw[qP b]at h;cases e:call f (m.map λc=>c.2.ev k) L (t+1) with
   |long |deep=>rw[e]at h;cases h
   |ok s a _L n=>rw[e]at h;cases h;show Dt D f s;rwa[H _ _ _ _ _ _ _ _ e]
def Db{M:Nat}{p:xL di}{call:oy}{j:ba}{c:di}{f:ρ}(H:LY (Ac p) call)(d:dY p f=δ c):∀(m:Nat) {g:Gd} {L l:ba} {t T:Nat} {R:Sk} {a:Int},iW M call j c m g L t= .ok R a l T->Dt (Ac p) f R
 |0,_,_,_,_,_,_,_,h=>by cases h
 |m+1,.give b,_,_,_,_,_,_,h=>by cases h;trivial
 |m+1,.go n k,_,_,_,_,_,_,h=>by let⟨C,w,s,u,r,o,i,rfl,q⟩:=AQ h;erw[#[?_,HS H i f,Db H d m q]];rw[Xq i];show _=(match dY p f with |none=>Tr.nil |some c=>match c.cs[((n:Int)).toNat]? with |none=>Tr.nil |some C=>lS (aJ C.nm k) C.e);rw[d];dsimp only;rw[Ph,o]
def xE{M:Nat}{p:xL di}{C:ba}:∀j,LY (Ac p) (aZ M p C j)
 |0=>λf i L t s a l T h=>by cases h
 |j+1=>λf i L t s a l T h=>by
  let h:(match dY p f with |none=>OC.long |some b=>iW M (aZ M p C j) C b (M+2) (eL (me b) (b6 b.way.sets$ aJ b.ps i) b.way.goal) L t)= .ok s a l T:=h;cases e:dY p f with
  |none=>rw[e]at h;cases h
  |some b=>rw[e]at h;rwa[Db (xE j) e (M+2) h]
section
open SeqAt
variable {X:Cx}
inductive Ng(x y:V)(H:Hp)(Q:VK):Prop
 |mk(a c b d:ζ)(u v:V)(l:Tr)(f g:xL V)(e:xL aO)(_:x= .ref a)(_:y= .ref c)(_:H a=δ (.tup [u,.ref b]))(_:H c=δ (.tup [v,.ref d]))(_:l.dep < 100)(_:l.In)(_:aS H (.tp l) u [])(_:aS H (.tp l) v [])(_:H b=δ (.lst f))(_:H d=δ (.lst g))(_:bg em H e f)(_:bg em H e g)(_:Q (.bl μ) H)
def Ht{a:xL (ζ×hG)}{C:_L.St}{H:Hp}{s:ι}(I:ax X a C H s){L b:ζ}{u v:V}{l:Tr}{W c:xL V}{i:xL aO}{x y:η}(hu:X.A.units+102 < cLine)(hd:l.dep < 100)(k:l.In)(hl:l.isL=μ)(T:aS H (.tp l) u [])(D:aS H (.tp l) v [])(d:H L=δ (.lst W))(f:H b=δ (.lst c))(m:bg em H i W)(n:bg em H i c)(E:aK u x)(F:aK v y)(j:Nat)(g:j < (ε [x,Θ L]).size)(o:j < (ε [y,Θ b]).size):EqAt X.A.in1 s ((ε [x,Θ L])[j]) ((ε [y,Θ b])[j]) μ:=by
 match j,g,o with
 |0,_,_=>have z:=KK I 100 (.tp l) (A:=X.A.in1) (by show l.dep+1<=100;omega) (by show X.A.units+1+100 < cLine;omega) k Z (u:=.tp l) k Z T D _ _ E F;rw[zq Z]at z;rwa[z]
 |1,_,_=>
  show EqAt X.A.in1 s (Θ L) (Θ b) μ;by_cases e:L=b
  .rw[e];rwa[EqAt.same _]
  .let⟨q,r,J,_⟩:=I.list (aL.of (K:=X.K) d);let⟨M,R,N,_⟩:=I.list (aL.of (K:=X.K) f);let ka:=r.length;let kb:=R.length;let lw:=m.len;let lz:=n.len;let z:=RcAt.lists (A:=X.A.in1) (e:=λ_=>μ) J.isList N.isList (by simp;omega) (by show X.A.units+1 < cLine;omega) λj g o=>by
    let t:j < ο W:=by simp at g;omega
    let h:j < ο c:=NO
    let⟨U,Q,S⟩:=r.get (On t);let⟨O,Y,B⟩:=R.get (On h);let e1:q.toArray[j]=U:=by let⟨_,e⟩:=ξ.mp Q;simpa using e
    let e2:M.toArray[j]=O:=by let⟨_,e⟩:=ξ.mp Y;simpa using e
    rw[e1,e2];let⟨p,g1,y1,f1,f2⟩:=m.at (On t);let⟨p',G,y2,f3,f4⟩:=n.at (On h);rw[g1]at G;cases G;rw[f1]at S;rw[f3]at B;let hp:=ze p;let z:=KK I 5 (ay$ p.map ar) (A:=X.A.in1.in1) (by show(aC$ p.map ar).dep+1<=5;omega) (by show X.A.units+1+1+5 < cLine;omega) (zd p) Z (u:=ay (p.map ar)) (zd p) Z (kX f2) (kX f4) _ _ S B;rw[zq Z]at z;rwa[z]
   let ea:((dw q.toArray.size).all λ_=>μ)=μ:=by simp
   rw[ea]at z;rwa[Wu e z]
def Bw(f:X.A.units+102 < cLine):fq X (compareOp .Eq) Ng:=by
 intro p s O H x y V U Q I g i h;let⟨a,c,S,W,u,v,l,Y,zs,ps,rfl,rfl,k,m,n,o,t,T,b,d,z,B,q⟩:=h;cases g;cases i;let⟨ia,r,C,_⟩:=I.tuple (aF.of (K:=X.K) k);let⟨ib,R,D,_⟩:=I.tuple (aF.of (K:=X.K) m);let⟨E,_⟩:=id t;cases r with
 |cons F r=>
  cases r with
  |cons G r=>
   cases r;cases R with
   |cons J R=>
    cases R with
    |cons L R=>cases R;cases G;cases L;rwa[WA (e:=λ_=>μ) (show s.heap.IsTuple a _ from C) (show s.heap.IsTuple c _ from D) NO (λj M N=>Ht I f n o E t T b d z B F J j M N) X.prog X.w _ _ #[.bl μ,H,I,Z,q]]
end
def Ig{A:bS}{k:Nat}(h:bY k A):A.units+102 < cLine:=by let:=h.un;omega
abbrev LS:bU:=bX 83
def u6{p st:ζ}{H H':Hp}{l:xL V}(B:au H p)(a:H st=δ (.lst l))(k:aR p st H H'):aj H H':=λb X e=>by
 let N:b≠p:=λz=>by subst z;let E:=(aI.tm (p:=b) (H:=H) (H':=λx=>if x=b then θ else H x) (λc o n h=>by show(if c=b then θ else H c)=δ o;rw[OD n];rwa[h]) B) b X e;let E:(if b=b then θ else H b)=δ (HO.tup X):=E;rw[OB Z]at E;cases E
 rwa[k b _ N (jM e a BT) e]
def vE{D:DF}{f:ρ}{n:Int}{H:xL Int}{w:Sk}(a:cj w=D f n H)(b:Dt D f w):∀{s:Sk},s.ok μ->Dt D f s->Dt D f (Sk.put n H w s)
 | .nil,_,_=>#[a,b,trivial]
 | .st _ _ _ r,o,h=>#[h.1,h.2.1,vE a b o.2 h.2.2]
 | .ask _,o,_ | .rd _ _,o,_ | .wr _ _,o,_ | .cl _ _ _ _,o,_=>o.elim
def D7{p:xL di}{f:ρ}{a:di}{n:Nat}{c:y6}{hs:xL Int}(H:dY p f=δ a)(h:a.cs[n]?=δ c):Ac p f (n:Int) hs=lS (aJ c.nm hs) c.e:=by show(match dY p f with |none=>Tr.nil |some a=>match a.cs[((n:Int)).toNat]? with |none=>Tr.nil |some c=>lS (aJ c.nm hs) c.e)=_;rw[H];dsimp only;rw[Ph,h]
inductive nY(l:ζ)(j:Nat)(q:xL V)(H:Hp)(Q:VK)(c:XK):Prop
 |mk(n f o p:ζ)(b i k:Nat)(d:Df)(g:xL Df)(m:xL Nat)(r:xL V)(e:xL di)(h:xL Int)(_:q=[.ref n,.str d.f,.ref f,.int (b:Int),.ref o])(_:b+j=17)(_:1<=j)(_:Ps H l n g m r e)(_:g[i]?=δ d)(_:m[i]?=δ h.length)(_:H f=δ (.tup (h.map vr)))(_:∀z∈h,gB z)(_:H o=δ (.lst [.ref p,.int (k:Int)]))(_:k<=60)(_:au H p)(_:o≠p)(_:∀(u:V) (sk:Sk) (a:Int) (k':Nat) (H':Hp),gW H' d.f h sk a u->sk.ok μ->(0 < k'->sk.dep+1 < j)->Dt (Ac e) d.f sk->(0 < k'->oM e d.f h sk a)->gB a->sk.size+k'<=k->H' o=δ (.lst [.ref p,.int (k':Int)])->au H' p->aR p o H H'->Q u H')
inductive GP(e:DD)(k:ba)(H:Hp)(s:ρ)(r:xL V):Prop
 |ask (t:ζ) (T:Tm) (e1:e= .ask t T) (e2:s="ask") (e3:r=[.int (if T.ev k=0 then 0 else 1)]):GP e k H s r
 |rd (p0:ζ) (x:ρ) (a:ζ) (T:Tm) (e1:e= .st p0 (.rd x a T)) (e2:s="read") (e3:r=[.int (T.ev k)]):GP e k H s r
 |wr (p0 a b:ζ) (T U:Tm) (e1:e= .st p0 (.wr a b T U)) (e2:s="write") (e3:r=[.int (T.ev k),.int (U.ev k)]):GP e k H s r
 |cl (p0:ζ) (x f:ρ) (q:ζ) (ts:xL (ζ×Tm)) (ag:ζ) (e1:e= .st p0 (.cl x f q ts)) (e2:s="call") (e3:r=[.str f,.ref ag]) (h:H ag=δ (.tup ((ts.map λc=>c.2.ev k).map vr))):GP e k H s r
def D6{H:Hp}{n:xL ρ}{k:ba}{e:DD}{u:V}(h:uO H n e)(t:aS H (lS k e) u []):∃(p:ζ) (s:ρ) (r:xL V),u= .ref p/\H p=δ (.tup (.str s::r))/\GP e k H s r:=by
 cases e with
 |ask b T=>let⟨p,rfl,g⟩:=JN t;exact#[p,_,_,Z,g,.ask b T Z Z Z]
 |st i l=>
  let⟨G,_,_,_,C⟩:=h;cases l with
  |gv b T |st x b T=>cases C
  |rd x b T=>let⟨p,rfl,g⟩:=JN t;exact#[p,_,_,Z,g,.rd i x b T Z Z Z]
  |wr b o T U=>let⟨p,y,rfl,g,d⟩:=YZ t;rw[Jk d]at g;exact#[p,_,_,Z,g,.wr i b o T U Z Z Z]
  |cl x f q j=>
   let⟨p,v,rfl,g,d⟩:=Kq t;let⟨I,z,rfl,E,d⟩:=zA d;let⟨J,Y,rfl,B,d⟩:=zA d;let D:Y=[]:=d;subst D;rw[XC E]at g;let⟨F,A,rfl,m,a⟩:=Jj B;let a:aS H (aC ((j.map λc=>c.2.ev k).map ar)) .non A:=by rw[Rk];rwa[a]
   rw[Jw a]at m;exact#[p,_,_,Z,g,.cl i x f q j F Z Z Z m]
inductive MZ(f:xL di)(G:di)(y:Gd)(C F i L p J:ζ)(d:Df)(a j k:Nat)(v:V)(H:Hp)(B:Nat)(M:_L.St)(h:Hp):Prop
 |mk(D E e:ym V)(z:V)(g:Gd)(I:Sk)(K:xL V)(A:Nat)(l:M=[↑F,δ (.str d.f),↑i,δ (.int (a:Int)),↑L,δ v,δ z,↑J,D,E,e])(m:h J=δ (.lst K))(n:dS h I .non K)(o:I.ok μ)(q:0 < A->I.dep < j)(r:y7 h C d z g)(s:h L=δ (.lst [.ref p,.int (A:Int)]))(t:I.size+A<=k)(u:au h p)(w:aR p L H h)(b:Dt (Ac f) d.f I)(x:0 < A->DJ f G y I g)(c:B=A+1)
def lW:am ["_law_parts","_law_f","_law_args","_law_deep","_law_state","_law_part","_law_goal","_law_steps","_law_deed","_law_what","_law_step"] z21z (ae LS):=bV
def IA{f:ζ}{fd:cc}{j:Nat}{nA fN fF fE fU fO fD:ζ}{f4 f5 f6 f7 f9 f':cc}(F:xD K "_law_dreamt" LS f fd)(cN:‹2› fN f4 ["parts","f"] iI "part_of")(cF:‹9› fF f5 ["part","args"] (eY nA) "first_of")(cE:‹9› fE f6 z5z (dI nA) "deed_at")(cU:‹2› fU f7 z2z ik "_law_number")(cO:‹9› fO f9 z17z (ni nA) "onward")(cD:‹j+9› fD f' z21z (nY nA j) "_law_dreamt")(m0:mg "tuple"=θ):⇑(j+10) f fd z21z (nY nA$ j+1):=by
 erw[F.ok lW λm2 A o3 s H vs Q E hr h=>?_]
 symm;let⟨pA,ag,st,p,D,i,k,d,ds,ns,xs,N,is,rfl,m3,_,hP,hd,hn,ha,b8,b0,m1,B,h7,q⟩:=h;erw[#[_,(jd (jA 5 lW.nd$ cN.e hr.m$ ja (pv 0)$ ja (pv 1) jb)$ jd (jA 6 lW.nd$ cF.e hr.m$ ja (pv 5)$ ja (pv 2) jb)$ jd (jA 7 lW.nd$ jF jb)$ jd (jy (jz qt (pv 3) jf$ aD _) (jg$ kS jf$ zS (pv 4) jf kM) jp)$ jd (Jq O8 (PW.pt$ qv (jZ$ jv$ pv 6)$ zN$ jz qt (jq ju (pv 4) jf ∅) jf$ aD _)$ jd (kS (jw zb (jq ju (pv 4) jf ∅) jf)$ zS (pv 4) jf kM)$ jd (jA 8 lW.nd$ cE.e hr.m$ ja (pv 5)$ ja (jv$ pv 6)$ ja (jv$ pv 6) jb)$ jd (jA 9 lW.nd$ pv 8)$ jd (j6$ jy (jZ$ jv$ pv 8) (jg$ jA 9 lW.nd$ ji$ ja jm$ ja (jv$ pv 8)$ ja (cU.e hr.m$ ja (jq ju (pv 4) jf ∅) jb) jb) jp)$ jd (j6$ jy (jZ$ jv$ pv 8) (jg$ jA 9 lW.nd$ ji$ ja jm$ ja (cD.e hr.m$ ja (pv 0)$ ja (jv$ pv 8)$ ja (jv$ pv 8)$ ja (jw jX (pv 3) jf)$ ja (pv 4) jb) jb) jp)$ jd (jA 10 lW.nd$ ji$ ja (jv$ pv 6)$ ja (jv$ pv 6)$ ja (pv 9) jb)$ jd (jN$ j9 OF OR OQ jQ (pv 7)$ ja (pv 10) jb)$ jg$ jy (jz qt (jq ju (pv 4) jf ∅) jf$ aD _) (jg$ jA 6 lW.nd$ cO.e hr.m$ ja (pv 5)$ ja (pv 10) jb) jp)$ jd (jy (jZ$ jv$ pv 6) (jd (kS jf$ zS (pv 4) jf kM)$ jg$ jo$ ji$ ja (pv 1)$ ja (pv 2)$ ja (jI jK Z m0 P'$ ja (pv 7) jb)$ ja jf jb) jp)$ jg$ jo$ ji$ ja (pv 1)$ ja (pv 2)$ ja (jI jK Z m0 P'$ ja (pv 7) jb)$ ja (jv$ pv 6) jb),?_]];let m4:=aN;symm;let⟨v,hv,_,g6,g8⟩:=hP.at hd;let⟨ys,pd,b',m5,pr,c6⟩:=hP.part hd hv;let⟨ps,c9,g',i0⟩:=hP.pa.2 i d _ hd hn;let i1:ps=pd.ps:=by let z:=c9.symm.trans pr.ps;injection z with z;injection z with z;exact(T7 λa b e=>by injection e).mp z
 subst i1;sleep 6;erw[ah λR r=>#[_,Z,_,Z,pA,d.f,xs,i,v,Z,hP.at',hv,g6,g8,r _ _ ?_]];left;erw[ah λR r=>#[_,Z,_,Z,v,ag,d,ys,pd.ps,is,pd.way,Z,b',c9,NO,ha,g'.symm,b8,pr.wy,pr.wv,λgl H1 i3 s1=>r _ _ ?_]];left;let gz:GT (aJ pd.ps is):=qc b8;let g4:=JO (H:=H) i3 (zz pr.wv.sets gz) pr.wv.goal;rw[pr.nms]at g4;generalize i4:eL (me pd) (b6 pd.way.sets$ aJ pd.ps is) pd.way.goal=g0 at g4;erw[ah λR r=>#[gR,λS n6=>r _ _ ?_]];left;let s2:aa H1 (af H1 S$ .lst []):=je n6;let Y:af H1 S (.lst []) S=δ (.lst []):=jc;generalize af H1 S (.lst [])=H2 at s2 Y ⊢;let S2:=s1.trans s2;let h8:=S2 _ _ b0;let B2:=B.same S2;let n4:H S=θ:=by
  cases z:H S with
  |none=>rfl
  |some o=>have:=s1 _ _ z;rw[n6]at this;symm;cases this
 let s0:S≠st:=O3 (jk b0 n4);let s3:S≠p:=B.ne n4;let g5:=g4.mono (aa.tm s2);erw[ah λR r=>?_];let nx:∀(k0:Nat) (J:Hp),k0<=k->(0 < k0->0 < j)->J st=δ (.lst [.ref p,.int (k0:Int)])->au J p->aR p st H2 J->R [↑pA,δ$ .str d.f,↑ag,δ$ .int (D:Int),↑st,δ v,δ gl,↑S,θ,θ,θ] J:=by
  intro k0 J i' c' a5 B3 k3;erw[r _ _ ?_];left;let t5:=u6 B2 h8 k3;let K3:aR p st H J:=(aR.of_same S2).trans k3;erw[ah λR r=>?_];erw[nC (MZ N pd g0 nA pA ag st p S d D j k v H) (k0+1) #[θ,θ,θ,gl,g0,.nil,[],k0,Z,k3 _ _ s3 s0 Y,Z,trivial,c',g5.mono t5,a5,by show 0+k0<=k;omega,B3,K3,trivial,λ_=>Z,Z] ?_];intro kk σ J E' rt fE F kT cF.k Gq kq hW;symm;let⟨o8,o9,o2,gl,gd,sk,ss,I,rfl,w1,w2,w3,w4,w5,w6,w7,w8,w9,w',wl,m6⟩:=hW;let t0:=u6 B b0 w9;let m7:=qA w3 w2;let e':∀(w:V) (x:Int) (H4:Hp) (k4:Nat),(0 < k4->oM N d.f is sk x)->gB x->aa J H4∨H4=af J st (.lst [.ref p,.int (k4:Int)])->k4<=I->H4 st=δ (.lst [.ref p,.int (k4:Int)])->∀Y v2,H4 Y=θ->(af H4 Y$ .tup ss) v2=θ->Q (.ref v2) (af (af H4 Y$ .tup ss) v2$ .tup [.str d.f,.ref ag,.ref Y,.int x]):=by
   intro _ x H4 k4 j0 ix h4 lk d1 Y v2 n3 n5;let K4:aR p st H H4:=by
    symm;rcases h4 with h4 |rfl
    .rwa[w9.trans$ aR.of_same h4]
    .rwa[w9.trans aR.at]
   let y:aj J H4:=by
    symm;rcases h4 with h4 |rfl
    .rwa[aa.tm h4]
    .rwa[qd w6]
   let B4:au H4 p:=by
    symm;rcases h4 with h4 |rfl
    .rwa[w8.same h4]
    .rwa[w8.eq$ jh h7.symm]
   let s5:=(je (o:=.tup ss) n3).trans (je (o:=.tup [.str d.f,.ref ag,.ref Y,.int x]) n5);let t3:=y.trans (aa.tm s5);rwa[q _ sk x k4 _ #[v2,ag,Y,ss,Z,jc,t3 _ _$ t0 _ _ ha,aq jc n5,w2.mono t3] w3 (λz=>by let:=w4 NO;omega) w' j0 ix NO (s5 _ _ d1) (B4.same s5) (K4.trans$ aR.of_same s5)]
  cases w5 with
  |give gp a b1 h5 ia=>subst b1;erw[kq$ jr h5 Z #[Z,_,Z,aV NM$ cF.k _$ r _ _ ?_]];erw[ah λR r=>(jr h5 Z #[Z,_,Z,aV NM$ r _ _ ?_])];left;erw[#[_,Z,_,Z,_,Z,S,ss,Z,.inl #[aL.of w1,λY n3=>?_]]];erw[(jr (aq h5 n3) Z #[oF,λv2 nv=>e' .non a J I (λz=>Bt c6 w3 (by rw[i4];rwa[wl z])) ia (.inl$ aa.refl _) (Ou _) w6 Y v2 n3 nv])]
  |go gp O n C hs b1 h5 a1 h3 hl hi=>
   subst b1;by_cases a3:0 < I
   .erw[kq$ jr h5 Z #[Z,_,Z,cq NM #[_,Z,st,_,_,_,Z,Z,aL.of w6,Z,_,_,Z,Z,_,Z,?_]]];rw[OE (show(0:Int) < (I:Int) by omega)];erw[kT _ ?_];let P1:=b'.mono t0;symm;let⟨pa,ca,wv,cs,m8,m9,_,_,j1⟩:=P1.parts;let⟨ka,na,wa,dv,m',_,d3⟩:=P1.cut j1 h3;let j2:n < ο pd.cs:=by rw[pr.len];exact(ξ.mp h3).1
    obtain⟨cd,b2⟩:∃cd,pd.cs[n]?=δ cd:=#[_,On j2];let cr:=(pr.cs n C cd h3 b2).mono t0;let b3:=D7 (hs:=hs) c6 b2;let⟨j3,e,c0⟩:=cd;let⟨b4,ed,d0,j4,l0,j5⟩:=cr;let b4:j3=canon C.M:=b4;subst b4;let b3:Ac N d.f (n:Int) hs=lS (aJ (canon C.M) hs) e:=b3;let gk:GT (aJ (canon C.M) hs):=qc hi;let d4:e.Cs ((ds.map Df.f).zip ns):=by
     symm;cases e with
     |ask=>right;trivial
     |st p0 l=>cases l<;>first |trivial |exact hP.cs hd _ j4
    sleep 7;erw[ah λR r=>#[_,Z,st,_,_,_,Z,Z,aL.of w6,Z,_,_,Z,Z,_,Z,st,_,_,1,Z,Z,w6,Z,r _ _ ?_]];left;let y:aj J (af J st$ .lst ([.ref p,.int (I:Int)].set 1 (.int ((I:Int) - 1)))):=qd w6;let e4:af J st (.lst ([.ref p,.int (I:Int)].set 1 (.int ((I:Int) - 1)))) st=δ (.lst [.ref p,.int ((I - 1:Nat):Int)]):=by rw[jc,show((I - 1:Nat):Int)=(I:Int) - 1 by omega];rfl
    let B4:au (af J st$ .lst ([.ref p,.int (I:Int)].set 1 (.int ((I:Int) - 1)))) p:=w8.eq (jh h7.symm);let K4:aR p st J (af J st$ .lst ([.ref p,.int (I:Int)].set 1 (.int ((I:Int) - 1)))):=aR.at;generalize af J st (.lst ([.ref p,.int (I:Int)].set 1 (.int ((I:Int) - 1))))=H4 at y e4 B4 K4;let t9:=t0.trans y;erw[ah λR r=>#[_,Z,jr (y _ _ h5) Z$ jr (y _ _ h5) Z #[v,n,O,d,ys,C,hs,e,Z,P1.mono y,h3,y _ _ a1,hl,hi,ed,d0.mono y,λud H5 j' s5=>r _ _ ?_]]];left;let d5:=d0.mono (y.trans$ aa.tm s5);let e5:=s5 _ _ e4;let B5:=B4.same s5;let K5:=K4.trans (aR.of_same s5);let t8:=y.trans (aa.tm s5);erw[ah λR r=>#[_,Z,r _ _ ?_]];left;symm;obtain⟨p8,d6,r0,k6,h',b5⟩:∃(p8:ζ) (s8:ρ) (r8:xL V),ud= .ref p8/\H5 p8=δ (.tup (.str s8::r8))/\GP e (aJ (canon C.M) hs) H5 s8 r8:=D6 d5 j';subst k6;let f0:∀T:Tm,(if T.ev (aJ (canon C.M) hs)=0 then (0:Int) else 1)=0∨(if T.ev (aJ (canon C.M) hs)=0 then (0:Int) else 1)=1:=λT=>by
     split
     .rwa[.inl Z]
     .rwa[.inr Z]
    erw[ah λR r=>dX (λσ0 H'=>∃uw,σ0=[↑pA,δ$ .str d.f,↑ag,δ$ .int (D:Int),↑st,δ v,↑gp,↑S,↑p8,δ uw,o2]/\aI p H5 H'/\au H' p/\((∃p0 x f q ts a0,e= .st p0 (.cl x f q ts)/\d6="call"/\r0=[.str f,.ref a0]/\H5 a0=δ (.tup ((ts.map λc=>c.2.ev (aJ (canon C.M) hs)).map vr)))∨(d6≠"call"/\∃w,dS H' w uw []/\w.ok ν/\DH e w.wh/\cj w=lS (aJ (canon C.M) hs) e/\Dt (Ac N) d.f w/\(∀f is s b,w≠ .cl f is s b)/\w.dep=0/\w.size=0))) (λE1 _ fm=>(jr h' eJ #[Z,_,Z,?_])) λσ2 H6 hq=>?_]
    .left;symm;cases b5 with
     |ask t T e1 e2 e3=>subst e1;subst e2;subst e3;rwa[aV NM (fm _ _ #[_,Z,aI.of_same (aa.refl _),B5,.inr #[NM,.ask (if T.ev (aJ (canon C.M) hs)=0 then 0 else 1),#[p8,Z,h'],trivial,f0 T,Z,trivial,(λ_ _ _ _ z=>by cases z),Z,Z]])]
     |wr p0 a b T U e1 e2 e3=>subst e1;subst e2;subst e3;rwa[aV NM (fm _ _ #[_,Z,aI.of_same (aa.refl _),B5,.inr #[NM,.wr (T.ev (aJ (canon C.M) hs)) (U.ev (aJ (canon C.M) hs)),#[p8,Z,h'],trivial,trivial,Z,trivial,(λ_ _ _ _ z=>by cases z),Z,Z]])]
     |cl p0 x f q' ts a0 e1 e2 e3 h=>subst e1;subst e2;subst e3;rwa[aV NM (fm _ _ #[_,Z,aI.of_same (aa.refl _),B5,.inl #[p0,x,f,q',ts,a0,Z,Z,Z,h]])]
     |rd p0 x a T e1 e2 e3=>subst e1;subst e2;subst e3;erw[cq NM$ jr h' Z #[_,Z,st,_,_,_,Z,Z,aL.of e5,Z,p,Z,B5,λnum H6 n0 n1 B6 q6=>#[gU,λv2 n5=>fm _ _ #[_,Z,(aI.of_eq q6).trans$ aI.of_same$ je n5,B6.upd_new n5,.inr #[NM,.rd (T.ev$ aJ (canon C.M) hs) num,#[v2,Z,jc],trivial,#[n0,n1],Z,trivial,(λ_ _ _ _ z=>by cases z),Z,Z]]]]]
    symm;let⟨u0,rfl,k5,B6,h6⟩:=hq;erw[r _ _ ?_];left;let t6:=k5.tm B5;let e6:=k5 _ _ h7 e5;let K6:aR p st J H6:=K5.trans k5.two;let h0:=t6 _ _ h';erw[ah λR r=>dX (λσ0 H'=>∃uw w k2,σ0=[↑pA,δ$ .str d.f,↑ag,δ$ .int (D:Int),↑st,δ v,↑gp,↑S,↑p8,δ uw,o2]/\dS H' w uw []/\w.ok ν/\DH e w.wh/\cj w=lS (aJ (canon C.M) hs) e/\Dt (Ac N) d.f w/\(0 < k2->∀f is s b,w= .cl f is s b->oM N f is s b)/\(0 < k2->w.dep < j)/\w.size+k2+1<=I/\H' st=δ (.lst [.ref p,.int ((k2:Nat):Int)])/\au H' p/\aR p st J H') (λE1 _ fm=>(jr h0 eJ #[Z,_,Z,?_])) λσ2 H7 hq=>?_]
    .left;symm;rcases h6 with ⟨p0,x,f,q',ts,a0,e1,e2,e3,k8⟩ | ⟨nc,w,hw,o1,ft,dn,dt,n7,dp,sz⟩
     .subst e1;subst e2;subst e3;let⟨i2,d2,k9,k',rfl⟩:=hP.find d4;let⟨_,_,_,o4,_⟩:=d5;let hj:=w4 a3;let t3:=(t0.trans t8).trans t6;refine cq NM #[_,Z,jr h0 Z$ jr h0 Z #[_,Z,_,_,Z,Z,_,Z,pA,a0,st,p,D+1,i2,I - 1,d2,ds,ns,xs,N,ts.map λc=>c.2.ev (aJ (canon C.M) hs),Z,NO,NO,hP.mono t3,k9,by rw[Oq];exact k',t6 _ _ k8,λz hz=>?_,e6,NO,B6,h7,λu s2 a2 k2 H7 l1 o5 l3 l4 o6 l5 _ e7 B7 k7=>?_]]
      .symm;let⟨c,hc,rfl⟩:=dg.mp hz;rwa[qO gk (o4.2.2 c hc).1]
      .symm;let⟨c2,g,ee,s4,rfl,c1,c3,c4,c5⟩:=l1;erw[#[ci,λv2 nv=>?_]];let W:aa H7 (af H7 v2$ .tup [.str "call",.ref c2]):=je nv;erw[fm _ _ #[_,.cl d2.f (ts.map λc=>c.2.ev (aJ (canon C.M) hs)) s2 a2,k2,Z,#[v2,c2,g,ee,s4,Z,jc,W _ _ c1,W _ _ c3,W _ _ c4,c5.mono$ aa.tm W],o5,l5,?_,l4,(λz f is s b e=>by cases e;rwa[o6 z]),λz=>by let:=l3 z;show s2.dep+1 < j;rwa[N09],by show s2.size+k2+1<=I;omega,W _ _ e7,B7.same W,(K6.trans k7).trans$ aR.of_same W]];show ay [aM "call",aM d2.f,ay ((ts.map λc=>c.2.ev (aJ (canon C.M) hs)).map ar)]=ay [aM "call",aM d2.f,ay$ ts.map λc=>ar (c.2.ev$ aJ (canon C.M) hs)];rw[Rk];rfl
     .rwa[aV (Oz λz=>nc (by injection z))$ fm _ _ #[_,w,I - 1,Z,hw,o1,ft,dn,dt,(λ_ f is s b e=>absurd e (n7 f is s b)),λ_=>by rw[dp];rwa[PR (OA _)$ w4 a3],NO,e6,B6,K6]]
    symm;let⟨uw,w,k2,rfl,hw,o1,ft,dn,dt,d7,dp,sz,e7,B7,K7⟩:=hq;erw[r _ _ ?_];left;let t7:=u6 w8 w6 K7;let g7:=t7 _ _ h5;erw[ah λR r=>(jr g7 Z$ jr g7 Z #[_,Z,gU,λsa n'=>r _ _ ?_])];left;let s8:aa H7 (af H7 sa$ .tup [.int (n:Int),.ref O,uw]):=je n';let e8:af H7 sa (.tup [.int (n:Int),.ref O,uw]) sa=δ (.tup [.int (n:Int),.ref O,uw]):=jc;generalize af H7 sa (.tup [.int (n:Int),.ref O,uw])=H8 at s8 e8 ⊢;let l8:=s8 _ _ (K7 _ _ s3 s0 w1);erw[ah λR r=>#[_,Z,.inl #[Z,_,aL.of l8],_,Z,S,_,_,Z,Z,l8,NO,r _ _ ?_]];left;let b9:aI S H8 (af H8 S$ .lst$ ss++[.ref sa]):=λb o nb e=>by rw[jh nb];rwa[e]
    let t4:aj H8 (af H8 S$ .lst$ ss++[.ref sa]):=qd l8;let l9:af H8 S (.lst$ ss++[.ref sa]) S=δ (.lst$ ss++[.ref sa]):=jc;let B9:au (af H8 S$ .lst$ ss++[.ref sa]) p:=(B7.same s8).eq (jh s3.symm);generalize af H8 S (.lst$ ss++[.ref sa])=H9 at b9 t4 l9 B9;let t1:=(aa.tm s8).trans t4;let G:=t7.trans t1;let e9:=b9 _ _ s0.symm (s8 _ _ e7);let s6:=Jv (n:=(n:Int)) (hs:=hs) (w:=w) w3;let f2:∀(g1:V) (g2:Gd) (H0:Hp),aa H9 H0->(0 < k2->g2=nF pd #[canon C.M,e,c0] hs w.wh)->y7 H0 nA d g1 g2->E'.nx [↑pA,δ$ .str d.f,↑ag,δ$ .int (D:Int),↑st,δ v,δ g1,↑S,↑p8,δ uw,↑sa] H0:=by
     intro g1 g2 H0 L l6 a4;let t2:=G.trans (aa.tm L);erw[fE (k2+1) _ _ NO #[_,_,_,g1,g2,Sk.put (n:Int) hs w sk,ss++[.ref sa],k2,Z,L _ _ l9,ZJ ((t4.trans$ aa.tm L) _ _ e8) (t2 _ _ a1) (hw.mono$ t1.trans$ aa.tm L) w3$ w2.mono t2,Kn o1 w3,λz=>?_,a4,L _ _ e9,by rw[s6];omega,B9.same L,?_,vE (dn.trans b3.symm) dt w3 w',λz=>by rw[l6 z];rwa[pY b2 dn (d7 z) w3$ wl a3],Z]]
     .let h1:=dp z;let h2:=w4 a3;let:=Ko (n:=(n:Int)) (hs:=hs) (w:=w) (j:=j - 1) NO w3 NO;omega
     .intro b o n1 n2 e;rwa[L _ _$ b9 _ _ (jk e n4)$ s8 _ _$ K7 _ _ n1 n2$ w9 _ _ n1 n2 e]
    erw[#[_,Z,st,_,_,_,Z,Z,aL.of e9,Z,_,_,Z,Z,_,Z,?_]];symm;by_cases b7:(0:Int) < ((k2:Nat):Int)
    .erw[cq (OE b7) ?_];let X:w.wh.side < ο C.ws:=by
      rw[d3.v.len,<- ed];symm;cases e with
      |ask ta T=>show _ < 2;unfold Wh.side;split<;>(try split)<;>omega
      |st p0 l=>show _ < 1;symm;cases w<;>first |exact Nat.one_pos |exact o1.elim | (cases l<;>rwa[ft.elim])
     symm;obtain⟨w0,a'⟩:∃w0,c0[w.wh.side]?=δ w0:=#[_,On (by rw[l0];rwa[X])];let⟨d8,d'⟩:=j5 _ _ w0 (On X) a';let sv:i8 H9 nA d ys v sa n O uw C hs w.wh e w0:=#[P1.mono G,t4 _ _ e8,h3,G _ _ a1,hl,hi,(GH o1 hw).mono t1,ed,d0.mono G,ft,by rw[d8];rwa[On X],d'.mono G];erw[#[_,Z,_,Z,v,uw,sa,O,n,d,ys,C,hs,w.wh,e,w0,Z,sv,λu2 H0 l' L=>?_]];let a4:=JO (H:=H9) l' (zz sv.wdv.sets$ Xm ft gk) sv.wdv.goal;rw[pr.nms]at a4;erw[f2 u2 _ H0 L (λ_=>?_) a4];show _=(match c0[w.wh.side]? with |some wd=>eL (me pd) (b6 wd.sets$ oC e w.wh$ aJ (canon C.M) hs) wd.goal |none=>Gd.give 0);rw[a']
    .rwa[aV (Oz b7)$ f2 _ _ H9 (aa.refl _) (λz=>absurd NO b7)$ .go gp O n C hs Z (G _ _ h5) (G _ _ a1) h3 hl hi]
   .erw[kq$ jr h5 Z #[Z,_,Z,cq NM #[_,Z,st,_,_,_,Z,Z,aL.of w6,Z,_,_,Z,Z,_,Z,?_]]];rw[Oz (show ¬(0:Int) < (I:Int) by omega)];erw[cF.k _$ r _ _ ?_];erw[ah λR r=>(jr h5 Z #[Z,_,Z,cq NM ?_])];left;erw[ah λR r=>#[_,Z,st,_,_,1,Z,Z,w6,Z,r _ _ ?_]];left;let e0:((0:Nat):Int)=0:=rfl;erw[#[_,Z,_,Z,_,Z,S,ss,Z,.inl #[aL.of (by rw[jh s0];rwa[w1]),λY n3=>#[oF,λv2 nv=>e' .non 0 _ 0 (λz=>absurd z NP) Ji (.inr Z) (OA _) jc Y v2 n3 nv]]]]
 left;symm;by_cases f3:(15:Int) < (D:Int)
 .erw[#[_,Z,_,_,Z,Z,_,Z,cq (OE f3) #[_,Z,st,_,_,1,Z,Z,h8,Z,nx 0 _ (OA _) (λz=>absurd z NP) jc (B2.eq$ jh h7.symm) aR.at]]]
 .exact#[_,Z,_,_,Z,Z,_,Z,aV (Oz f3)$ nx k H2 (Ou _) (λ_=>by omega) h8 B2 aR.refl]
def Ir{f n:ζ}{F:cc}:⇑9 f F z21z (nY n 0):=by
 let N:∀{v:xL V} {H:Hp} {Q E},nY n 0 v H Q E->False:=by intro v H Q E h;let⟨c,e,st,p,D,i,k,d,g,j,x,b,I,_,_,h,_⟩:=h;omega
 exact#[λv H Q E h=>(N h).elim,λA o s H a u v Q E l m q r h=>(N h).elim]
def Na{n p q r s t F:ζ}{a b c d e f:cc}(g:xD K "_law_dreamt" LS F f)(B:aE K f z21z [])(M:mg "_law_dreamt"=↑F)(C:‹2› p a ["parts","f"] iI "part_of")(i:‹9› q b ["part","args"] (eY n) "first_of")(k:‹9› r c z5z (dI n) "deed_at")(l:‹2› s d z2z ik "_law_number")(o:‹9› t e z17z (ni n) "onward")(m:mg "tuple"=θ):∀j,⇑(j+9) F f z21z (nY n j)
 |0=>Ir
 |j+1=>by let h:=Na g B M C i k l o m j;rwa[IA g C i k l o #[h,B,g.kp,M] m]
abbrev gi:bU:=bX 84
def eO:am z46z ["_law_script"] (ae gi):=bV
def uB:ic:=#[.function,[(".0",.local),("_law_pair",.local)],ν,ν,[]]
def Ez:(["_law_pair"]:xL ρ).Nodup:=NM
def DZ:bn z46z (ae gi) uB ["_law_pair"] 1 []:=oQ
def EV{f:ζ}{fd:cc}{B TL TD nA fB fG fM fC fK fD fR fL:ζ}{f3 f4 f5 f6 f7 f9 f0 f':cc}(F:xD K "law" gi f fd)(cB:‹1› fB f3 ["_law_script","_law_k"] (rS K) "_law_box")(cG:‹23› fG f4 z2z mZ "_law_case")(cM:‹65› fM f5 ["program"] (nh K nA) "made")(cC:‹3› fC f6 z2z i6 "_law_cells")(cK:‹46› fK f7 z41z (rW nA) "_law_book")(cD:‹26› fD f9 z21z (nY nA 17) "_law_dreamt")(GR:ai P w K mg base (dF P w) 71 fR f0 z31z (rQ TL TD nA))(bR:aE K f0 z31z [])(kR:gb K (.ref fR)=μ)(mR:mg "again"=↑fR)(cL:‹37› fL f' ["_law_old","_law_new"] rX "_law_laid")(xb:Xb K mg B TL TD)(m0:mg "dict"=θ)(m1:mg "sorted"=θ):⇑74 f fd ["_law_script"] (oe K):=by
 erw[F.ok eO λc6 A o2 s H vs Q E N h=>?_]
 symm;let⟨a,ns,rfl,hS,hn,q⟩:=h;erw[#[_,(jd (kS (cG.e N.m$ ja (cB.e N.m$ ja (pv 0)$ ja jf jb) jb)$ zR (n:=3) Z$ jC (jx (i:=1) eO.nd Z$ ω Z)$ jC (jx (i:=2) eO.nd Z$ ω Z)$ jC (jx (i:=3) eO.nd Z$ ω Z) kB)$ jd (jA 4 eO.nd$ cM.e N.m$ ja (pv 1) jb)$ jd (jA 5 eO.nd$ cC.e N.m$ ja (cB.e N.m$ ja (pv 0)$ ja jf jb) jb)$ jd (jA 6 eO.nd$ jF$ ja (cB.e N.m$ ja (pv 0)$ ja jf jb)$ ja jf jb)$ jd (jA 7 eO.nd$ cD.e N.m$ ja (pv 4)$ ja (pv 2)$ ja (pv 3)$ ja jf$ ja (pv 6) jb)$ jd (jy (zo$ jq ju (pv 6) jf ∅) (jg$ jo$ @IH _ _ _ _) jp)$ jd (jA 8 eO.nd$ cK.e N.m$ ja (pv 4)$ ja (pv 2)$ ja (pv 3)$ ja (pv 5) jb)$ jd (jA 9 eO.nd$ @kl _ _ _)$ jd (@Z5 _ _ _ _ _ _ _ _ _ _ _ Z Z (@ZW _ _ _ _ (9) _ _ eO.nd Z (ω Z) (@X6 _ _ _ _ _ _ _ _ _ _ _ _ _ _ GR N.m Z mR kR bR .nil (ja (pv 4)$ ja (pv 7)$ ja (jI Q1 Z m0 boot_dict$ ja (pv 5) jb)$ ja jf jb) NP NK NK) NK Ch) Z xb.g xb.h xb.t xb.m (λ_=>(jg$ jA 9 eO.nd$ @kl _ _ _)) NP)$ jd (jy (PW.pt$ QL (jz qW (pv 8) (@kl _ _ _)$ aD _)$ JI$ jz qW (pv 9) (@kl _ _ _)$ aD _) (jg$ jo$ Fx (qf qW (pv 8) (@kl _ _ _)$ aD _)$ FE$ qf qW (pv 9) (@kl _ _ _)$ aD _) jp)$ jd (jA 10 eO.nd$ cL.e N.m$ ja (pv 7)$ ja (pv 8) jb)$ jg$ jo$ qf (Bw$ Ig N) (pv 9) (ji$ ja (pv 8)$ ja (jO qo Z m1 SO$ ja (jw zT (@zk _ _ _ _ _ _ _ (["_law_pair"]) (1) ([]) _ _ _ _ Z (zr$ jv$ pv 10) DZ (λ_ _ _ _ _=>(jx (i:=0) Ez Z$ ω Z)) (λ_ _ _ _ _=>(@zF _)) (λ_ _ _ _ _=>(jq (r:=db K) jE (pv 0) jf ∅)) Cv)$ jv$ pv 10) jb) jb)$ aD _),?_]];let c9:=aN;let t0:=si;sleep 11;erw[ah λO j=>#[_,Z,a,ns,1,Z,hS,NP,NP,λp0 I np B1 e1=>#[p0,Z,B1,λt r v2 v3 ds J H3 ht N hD h1 h8 nl hN h' b4 B3 k3=>#[t,_,Z,aF.of ht,Z,_,_,Z,_,_,Z,_,_,Z,Z,j _ _ ?_]]]];left;let s1:aa H I:=λb o e=>by rw[e1 b$ jk e np];rwa[e]
 let s3:aa H H3:=λb o e=>k3 _ _ (jk e np) (s1 _ _ e);symm;let⟨d,ps,ta,M,hd,rfl,b5,rfl,a2,b7,h5,a3⟩:=b4;show fh (eP _ _) _ _ [↑a,↑r,δ$ .str d.f,↑ta,θ,θ,θ,θ,θ,θ,θ] H3;erw[ah λO j=>#[_,Z,r,ds,J,Z,N,hD,NO,λd hd=>(hN.1 d hd).1,λv H4 hv s4=>j _ _ ?_]];left;symm;let⟨pA,x0,rfl,b8,b9⟩:=Jj hv;let S4:=s3.trans s4;erw[ah λO j=>#[_,Z,a,ns,2,Z,S4.seq hS,NP,NP,λp5 H5 n3 B5 e5=>#[p5,Z,B5,λcA U H6 n7 b' gC lC B6 k6=>j _ _ ?_]]];left;let s6:aa H4 H6:=λb o e=>k6 _ _ (jk e n3) (by rw[e5 b$ jk e n3];rwa[e]);let S6:=S4.trans s6;let T0:=aa.tm (s4.trans s6);symm;let⟨i,hi,ei⟩:=iu.mp hd;let h6:ds[i]?=δ d:=by rw[<- ei];rwa[On hi]
 let h7:=Ft h' h6 b5;rw[<- b7]at h7;let⟨k,hP⟩:=IL (s6 _ _ b8) (b9.mono$ aa.tm s6) #[J,hD.mono T0] hN (h'.mono T0);let lx:=zn hP.tr;rw[Oq]at lx;let ak:G7 H6 nA pA ta cA i U d ds nl x0 k M:=#[hP,NO,h6,h7,T0 _ _ a2,a3,h5,b',gC];erw[ah λO j=>#[_,Z,a,ns,3,Z,S6.seq hS,NP,NP,λp H7 n0 B7 e7=>#[ci,λst n1=>j _ _ ?_]]];left;let s7:aa H6 H7:=λb o e=>by rw[e7 b$ jk e n0];rwa[e]
 let s8:aa H7 (af H7 st$ .lst [.ref p,.int 60]):=je n1;let e8:af H7 st (.lst [.ref p,.int 60]) st=δ (.lst [.ref p,.int ((60:Nat):Int)]):=jc;generalize af H7 st (.lst [.ref p,.int 60])=H8 at s8 e8 ⊢;let s0:=s7.trans s8;erw[ah λO j=>#[_,Z,_,Z,_,Z,_,Z,pA,ta,st,p,0,i,60,d,ds,nl,x0,k,M,Z,Z,NP,hP.mono$ aa.tm s0,h6,h7,s0 _ _$ T0 _ _ a2,a3,e8,NP,B7.same s8,B7.ne n1,λu G ao k' H9 a5 o1 dp dt ol ia sz e9 B9 k9=>j _ _ ?_]];left;let s9:aa H6 H9:=λb o e=>k9 _ _ (jk e n0) (jk (s7 _ _ e) n1) (s0 _ _ e);symm;let⟨c,g,ee,ss,rfl,h1,h2,h3,h4⟩:=id a5;erw[ah λO j=>#[_,Z,st,_,_,_,Z,Z,aL.of e9,Z,Z,_,Z,?_]];symm;by_cases hk:k'=0
 .subst hk;rwa[cq (OE Z)$ q _]
 erw[aV (Oz λz=>hk (by injection z with z;omega))$ j _ _ ?_];left;let o3:oM k d.f M G ao:=ol NO;let d0:G.dep<=15:=by let:=dp NO;omega
 let s':G.size<=60:=NO
 let a':=ak.kp (Kp.of_same s9);show fh _ _ _ [↑a,↑r,δ$ .str d.f,↑ta,↑pA,↑cA,↑st,↑c,θ,θ,θ] H9;erw[ah λO j=>?_];let f2:∀(u3:V) (I:Hp),Kp H9 I->((u3= .non/\∀S a W t',aZ 60 k U 16 d.f M [] 0≠ .ok S a W t')∨∃(c1:ζ) (S:Sk) (a:Int) (W:ba),u3= .ref c1/\aZ 60 k U 16 d.f M [] 0= .ok S a W S.size/\gW I d.f M S a (.ref c1)/\S.ok μ/\S.dep<=15/\S.size<=60)->O [↑a,↑r,δ$ .str d.f,↑ta,↑pA,↑cA,↑st,↑c,δ u3,θ,θ] I:=by
  intro u3 I k1 hu;erw[j _ _ ?_];left;let b0:=a'.kp k1;let h0:=zO a5 k1.tm;erw[ah λO j=>j _ _ ?_];left;erw[ah λO j=>?_];let fin2:∀(u4:V) (H2:Hp),Kp I H2->((u4= .non/\∀S a W t',aZ 60 k U 16 d.f M [] 0≠ .ok S a W t')∨∃(p l:ζ) (v:V) (ws:xL V) (S:Sk) (a:Int) (W:ba),u4= .ref p/\aZ 60 k U 16 d.f M [] 0= .ok S a W S.size/\H2 p=δ (.tup [v,.ref l])/\H2 l=δ (.lst ws)/\bg em H2 (fj S G.steps 0 [] 0) ws/\gW H2 d.f M S a v/\S.ok μ/\S.dep<=15/\S.size<=60)->O [↑a,↑r,δ$ .str d.f,↑ta,↑pA,↑cA,↑st,↑c,δ u3,δ u4,θ] H2:=by
   intro u4 H2 k2 c0;erw[j _ _ ?_];left;symm;rcases c0 with ⟨rfl,no⟩ | ⟨p,l,v,ws,S,a4,W,rfl,Y,hp,hl,hw,hc,X,dp,sz⟩
   .rcases hu with ⟨rfl,_⟩ | ⟨c1,c2,a1,L1,rfl,e0,_⟩
    .erw[ah λO j=>#[_,Z,Z,_,Z,cq Z$ cq Z ?_]];exact#[_,Z,Z,μ,Z,nO #[_,Z,Z,q _]]
    .rwa[absurd e0$ no _ _ _ _]
   rcases hu with ⟨_,no⟩ | ⟨c1,c2,a1,L1,rfl,e0,c3,o4,d1,iT⟩
   .rwa[absurd Y$ no _ _ _ _]
   rw[Y]at e0;injection e0 with z1 z2 z3 z4;subst z1;subst z2;let b1:=zO h0 k2.tm;let b2:=zO c3 k2.tm;sleep 2;erw[ah λO j=>#[_,Z,Z,_,Z,aV (Oz BT) #[_,Z,Z,_,Z,aV (Oz BT)$ j _ _ ?_]]];left;erw[ah λO j=>#[_,Z,_,Z,Ac k,c,c1,d.f,M,M,G,S,ao,a4,Z,b1,o1,d0,s',b2,X,dp,sz,dt,xE 16 _ _ _ _ _ _ _ _ Y,λz kA tA fA dA xt xf fs H3 hz ht lt hf lf pf s3=>j _ _ ?_]];left;let pm:((iD S [] G.steps 0 [] 0).t.map (·.2)++fs).Perm (fj S G.steps 0 [] 0):=(pf.append_left _).trans (JQ S [] G.steps 0 [] 0);let sr:=uY X G.steps 0 [] 0;let ln:=Xt X G.steps 0 [] 0;let l5:=pm.length_eq;let l0:=lt.len;let l8:=lf.len;let l9:((iD S [] G.steps 0 [] 0).t.map (·.2)++fs).length=(iD S [] G.steps 0 [] 0).t.length+ο fs:=by rw[Ot,Oq]
   erw[#[_,Z,_,Z,jr hz iB #[tA,Z,#[_,aL.of ht],Xa (K:=K) (xs:=xt) NO (λi J H'=>H'=H3/\bg em H3 (((iD S [] G.steps 0 [] 0).t.take i).map (·.2)) J) #[Z,Z] (λi J H' h=>?_) (λi x J H' hx h=>?_) (λJ H' h l2 n4=>?_)]]]
   .symm;let⟨rfl,h⟩:=h;exact#[aL.of ht,by rw[h.len,Oq,OZ];rwa[TJ _ _]]
   .symm;let⟨rfl,h⟩:=h;let⟨pr,c4,y,pa,pb,rfl,e1,e2,e3⟩:=lt.at hx;erw[(jr e1 iB #[Z,?_])];rw[PQ,c4,OU];rwa[bg.app (bg.one (R:=em) #[pb,Z,e3]) h]
   symm;let⟨rfl,h⟩:=h;rw[l0,Pg]at h;let s4:aa H' (af H' l2$ .lst J):=je n4;let l1:=h.len;rw[Oq]at l1;erw[(jr (s4 _ _ hz) eG #[l2,fA,_,_,Z,Z,jc,s4 _ _ hf,NO,λl3 n5=>?_])];let s5:aa H' (af (af H' l2$ .lst J) l3$ .lst$ J++xf):=s4.trans (je n5);let e5:af (af H' l2$ .lst J) l3 (.lst$ J++xf) l3=δ (.lst$ J++xf):=jc;generalize af (af H' l2$ .lst J) l3 (.lst$ J++xf)=H5 at s5 e5 ⊢;let la:bg em H5 ((iD S [] G.steps 0 [] 0).t.map (·.2)++fs) (J++xf):=bg.app (lf.mono bG$ aa.tm s5) (h.mono bG$ aa.tm s5);erw[#[l3,J++xf,((iD S [] G.steps 0 [] 0).t.map (·.2)++fs),Z,aL.of e5,la.len,by rw[Ot];omega,λi x p h1 h2=>?_,pm.nodup_iff.mpr$ yw sr,λl6 w0 rs n6 g1 g2 g3 g4=>?_]]
   .symm;let⟨p',b3,y,e1,e2⟩:=la.at h1;rw[h2]at b3;cases b3;exact#[y,e1,e2,uW X$ pm.mem_iff.mp$ OX h2]
   let e4:rs=fj S G.steps 0 [] 0:=uZ g2 sr (g1.trans pm);symm;subst e4;let l4:bg em H5 (fj S G.steps 0 [] 0) w0:=ZO g3 λi x p h1 h2=>let #[y,e1,e2,_]:=g4 i x p h1 h2;#[y,e1,e2]
   let s6:aa H5 (af H5 l6$ .lst w0):=je n6;erw[#[ci,λp7 n0=>?_]];let s7:aa (af H5 l6$ .lst w0) (af (af H5 l6$ .lst w0) p7$ .tup [.ref c1,.ref l6]):=je n0;let S7:=s3.trans ((s5.trans s6).trans s7);exact#[p,p7,l,l6,v,.ref c1,LM d.f M S a4,ws,w0,fj S G.steps 0 [] 0,Z,Z,S7 _ _ hp,jc,DW X dp,Hv X,CW (zO hc$ aa.tm S7) X,CW (zO b2$ aa.tm S7) X,S7 _ _ hl,s7 _ _ jc,hw.mono bG$ aa.tm S7,l4.mono bG$ aa.tm$ s6.trans s7,q _]
  show yK _ _ _ _ _ [↑a,↑r,δ$ .str d.f,↑ta,↑pA,↑cA,↑st,↑c,δ u3,δ .non,θ] I;erw[#[_,Z,_,Z,_,Z,cA,U,Z,b0.ce,λot not=>?_]];let t1:aa I (af I ot$ .dK U):=je not;let g1:af I ot (.dK U) ot=δ (.dK U):=jc;generalize af I ot (.dK U)=H2 at t1 g1 ⊢;let a0:=b0.kp (Kp.of_same t1);erw[#[60,pA,ot,c,i,U,G,ao,d,ds,nl,x0,k,M,Z,Ou _,a0.ps,a0.hd,a0.hn,a0.hi,g1,a0.gc,gW.mono' h0$ aa.tm t1,o1,NO,o3,λp l v ws S a W H3 Y hp hl hw hc X dp sz s2=>?_,λY=>?_,λY=>?_]]
  .rwa[fin2 _ H3 (Kp.of_same$ t1.trans s2)$ .inr #[p,l,v,ws,S,a,W,Z,Y,hp,hl,hw,hc,X,dp,sz]]
  .intro _ H7 k7 x C T eC hx hT c5;symm;cases eC;erw[#[xb.L,λT' n2=>fin2 _ _ ?_ (.inl #[Z,λ_ _ _ _ z=>by rw[Y]at z;cases z])]];exactλb o nx e=>qg (H:=I) (k7 _ _ nx$ t1 _ _ e) nx hx n2
  .intro _ H7 k7 x C T eC hx hT c5;symm;cases eC;erw[#[xb.D,λT' n2=>fin2 _ _ ?_ (.inl #[Z,λ_ _ _ _ z=>by rw[Y]at z;cases z])]];exactλb o nx e=>qg (H:=I) (k7 _ _ nx$ t1 _ _ e) nx hx n2
 left;exact#[_,Z,_,Z,_,Z,_,Z,pA,ta,cA,i,U,d,ds,nl,x0,k,M,Z,a',λc1 S a W I Y hc X dp sz k1=>f2 _ I k1 (.inr #[c1,S,a,W,Z,Y,hc,X,dp,sz]),λno I k1=>f2 _ I k1 (.inl #[Z,no])]
def Iq{f:ζ}{F:cc}{k:Nat}{C T a n:ζ}:ai P w K mg base (dF P w) k f F z15z (nW C T a n 0):=by
 let N:∀{v H Q E},¬nW C T a n 0 v H Q E:=by rintro v H Q E ⟨M,r,g,j,l,m,q,p,c,u,D,t,x,i,L,y,S,B,d,G,I,X,e,J,_,_,z,_⟩;omega
 exact#[λv H Q E h=>(N h).elim,λA o s H b U v Q E O R V W h=>(N h).elim]
def M'{C T t n h z A B i fP fN fG fL fV fI fE fO fK fF:ζ}{f F a b c k l o p q r s u v x:cc}(y:RK K C)(N:a9 K C "anew")(D:aU K "chain_along" "AgainRun.chain_along" BL h f)(E:aE K f z15z [])(m:bh K C "chain_along" h)(G:aU K "what_along" "AgainRun.what_along" BM z F)(H:aE K F z27z [])(M:bh K C "what_along" z)
  (I:∀j,ai P w K mg base (dF P w) (2*j+13) A a z11z$ iK C T t n j) (J:aE K a z11z []) (d:bh K C "what_of" A) (GT:ai P w K mg base (dF P w) 1 B b ["self"] (gq C T)) (L:aE K b ["self"] []) (e:bh K C "take_turn" B) (O:ai P w K mg base (dF P w) 1 i c ["deep"] (dP t)) (Q:aE K c ["deep"] []) (R:gb K (.ref i)=μ) (S:mg "deeper"=↑i) (U:‹36› fP k z9z (oj 17) "paths_at")
  (V:‹2› fN l ["parts","f"] iI "part_of") (W:‹1› fG o ["chain","number"] n8 "goal_at") (X:‹1› fL p ["steps","mark","cut"] lJ "like_from") (Y:‹2› fV q ["steps","mark","deed"] lI "lender_from") (cI:‹1› fI r ["what"] mj "deed_in") (cE:‹9› fE s z5z (dI n) "deed_at") (cO:‹9› fO u z17z (ni n) "onward") (cK:‹1› fK v ["steps","at"] mq "chain_taken") (cF:‹1› fF x ["what"] lF "found_in") (ml:mg "len"=θ) (g:mg "tuple"=θ):∀j,ai P w K mg base (dF P w) (2*j+38) h f z15z (nW C T t n j)
 |0=>Iq
 |j+1=>Iw D y N V W X Y cI cE cO cK cF (Ix G y N (I j) J d GT L e (M' y N D E m G H M I J d GT L e O Q R S U V W X Y cI cE cO cK cF ml g j) E m O Q R S U) H M ml g
@[elab_as_elim] theorem NE{P:xL η->Prop}(u:xL η)(h:ο u=1)(q:∀a,P [a]):P u:=by
 cases u with
 |nil=>cases h
 |cons a r=>
  cases r with
  |nil=>rwa[q a]
  |cons _ _=>cases h
def _root_._L.aU.b1{K:β}{st:bU}{p:xL ρ}(F:aU K x q st f g)(h:∀(kV d b:η) (A:ym ζ) (c C a:η),bindArgs (tz x q (bZ st) (bL st) (ae st) .none kV d b A c C) #[[a],[]]=pure (p.zip [a]):=by intros;rfl)(e:↥(ο p=1)):aE K g p []:=F.binds λkV d b A c C u H=>NE u (H.trans e) λa=>h kV d b A c C a
@[elab_as_elim] theorem NF{P:xL η->Prop}(u:xL η)(h:ο u=2)(q:∀a b,P [a,b]):P u:=by
 cases u with
 |nil=>cases h
 |cons a r=>
  cases r with
  |nil=>cases h
  |cons b R=>
   cases R with
   |nil=>rwa[q a b]
   |cons _ _=>cases h
def _root_._L.aU.b2{K:β}{st:bU}{p:xL ρ}(F:aU K x q st f i)(h:∀(kV d g:η) (A:ym ζ) (c C a b:η),bindArgs (tz x q (bZ st) (bL st) (ae st) .none kV d g A c C) #[[a,b],[]]=pure (p.zip [a,b]):=by intros;rfl)(e:↥(ο p=2)):aE K i p []:=F.binds λkV d g A c C u H=>NF u (H.trans e) λa b=>h kV d g A c C a b
@[elab_as_elim] theorem NG{P:xL η->Prop}(u:xL η)(h:ο u=3)(q:∀a b c,P [a,b,c]):P u:=by
 cases u with
 |nil=>cases h
 |cons a r=>
  cases r with
  |nil=>cases h
  |cons b R=>
   cases R with
   |nil=>cases h
   |cons c d=>
    cases d with
    |nil=>rwa[q a b c]
    |cons _ _=>cases h
def _root_._L.aU.b3{K:β}{st:bU}{p:xL ρ}(F:aU K x q st f j)(h:∀(kV d g:η) (A:ym ζ) (C i a b c:η),bindArgs (tz x q (bZ st) (bL st) (ae st) .none kV d g A C i) #[[a,b,c],[]]=pure (p.zip [a,b,c]):=by intros;rfl)(e:↥(ο p=3)):aE K j p []:=F.binds λkV d g A C i u H=>NG u (H.trans e) λa b c=>h kV d g A C i a b c
@[elab_as_elim] theorem NH{P:xL η->Prop}(u:xL η)(h:ο u=4)(q:∀a b c d,P [a,b,c,d]):P u:=by
 cases u with
 |nil=>cases h
 |cons a r=>
  cases r with
  |nil=>cases h
  |cons b R=>
   cases R with
   |nil=>cases h
   |cons c e=>
    cases e with
    |nil=>cases h
    |cons d f=>
     cases f with
     |nil=>rwa[q a b c d]
     |cons _ _=>cases h
def _root_._L.aU.b4{K:β}{st:bU}{p:xL ρ}(F:aU K x q st f j)(h:∀(kV D g:η) (A:ym ζ) (C i a b c d:η),bindArgs (tz x q (bZ st) (bL st) (ae st) .none kV D g A C i) #[[a,b,c,d],[]]=pure (p.zip [a,b,c,d]):=by intros;rfl)(e:↥(ο p=4)):aE K j p []:=F.binds λkV D g A C i u H=>NH u (H.trans e) λa b c d=>h kV D g A C i a b c d
@[elab_as_elim] theorem NJ{P:xL η->Prop}(u:xL η)(h:ο u=5)(q:∀a b c d e,P [a,b,c,d,e]):P u:=by
 cases u with
 |nil=>cases h
 |cons a r=>
  cases r with
  |nil=>cases h
  |cons b R=>
   cases R with
   |nil=>cases h
   |cons c f=>
    cases f with
    |nil=>cases h
    |cons d g=>
     cases g with
     |nil=>cases h
     |cons e i=>
      cases i with
      |nil=>rwa[q a b c d e]
      |cons _ _=>cases h
def _root_._L.aU.b5{K:β}{st:bU}{p:xL ρ}(F:aU K x q st f j)(h:∀(kV D g:η) (A:ym ζ) (C i a b c d e:η),bindArgs (tz x q (bZ st) (bL st) (ae st) .none kV D g A C i) #[[a,b,c,d,e],[]]=pure (p.zip [a,b,c,d,e]):=by intros;rfl)(e:↥(ο p=5)):aE K j p []:=F.binds λkV D g A C i u H=>NJ u (H.trans e) λa b c d e=>h kV D g A C i a b c d e
def fe(K:β)(p q:ρ)(st:bU)(f:ζ):Prop:=∃(o:η) (O:ym ζ) (kV d a:η) (A:ym ζ) (c C:η) (s:Array (ym η)),K.lookup f=δ #[o,O,.func$ tz p q (bZ st) (bL st) (ae st) .none kV d a A c C,s]/\codeIn K c q=μ/\gb K (.ref f)=μ
def cX(K:β)(p:ρ)(st:bU)(f:ζ):Prop:=nsIn K Ψ p=δ (↑f)/\fe K p p st f
section
variable {K:β}{py q:ρ}{st:bU}{f:ζ}{oc:η}{od:ym ζ}{kV dc pm:η}{an:ym ζ}{cd ct:η}{sl:Array (ym η)}
def Nb(l:K.lookup f=δ #[oc,od,.func$ tz py q (bZ st) (bL st) (ae st) .none kV dc pm an cd ct,sl])(c:codeIn K cd q=μ)(k:gb K (.ref f)=μ):fe K py q st f:=#[_,_,_,_,_,_,_,_,_,l,c,k]
def MS(a:nsIn K Ψ py=δ (↑f))(l:K.lookup f=δ #[oc,od,.func$ tz py py (bZ st) (bL st) (ae st) .none kV dc pm an cd ct,sl])(c:codeIn K cd py=μ)(k:gb K (.ref f)=μ):cX K py st f:=#[a,Nb l c k]
def fe.go(h:fe K py q st f):∃F,aU K py q st f F/\gb K (.ref f)=μ:=by let⟨oc,od,kV,dc,pm,an,cd,ct,sl,l,c,k⟩:=h;exact#[_,vU l c k,k]
def cX.go{mg:ρ->ym η}(t:cX K py st f)(X:K.In h)(G:h.Ns Ψ mg):∃a,aU K py py st f a/\gb K (.ref f)=μ/\mg py=↑f:=by let⟨a,F,k⟩:=t.2.go;exact#[a,F,k,TZ X G t.1]
end
def DQ{l:ro}{w:bF}{K:β}{mg:ρ->ym η}(X:K.In h)(G:h.Ns Ψ mg)(q3:mg "law"=↑fa)
                 
  (t3:cX K "names_in" gj f3)
  (t4:cX K "own_terms" FV q4)
  (t5:cX K "used_behind_terms" xY fUb)
  (t6:cX K "used_ahead_of" BY f6)
  (t7:cX K "used_ahead" BX fUa)
  (t8:cX K "bodies_in" FN q5)
  (t9:cX K "many_cuts" xQ q6)
  (t':cX K "deed_of" xM q7)
  (q':cX K "place_of_give" mQ f7)
  (r0:cX K "place_of_set" xS r1)
  (r2:cX K "part_made" xR r3)
  (r4:cX K "made" rG r5)
  (r6:cX K "_law_box" FP r7)
  (Ae:cX K "_law_take" xX r8)
  (r9:cX K "_law_number" mN r')
  (s0:cX K "_law_names" ll s1)
  (s2:cX K "_law_term" rK s3)
  (s4:cX K "_law_spot" xT s5)
  (s6:cX K "_law_statement" xU fSt)
  (s7:cX K "_law_body" rE s8)
  (s9:cX K "_law_any" FM s')
  (fc:cX K "_law_op" ME u0)
  (u1:cX K "_law_inner" o0 u2)
  (u3:cX K "_law_looped" iX u4)
  (u8:cX K "_law_ticking" hZ u9)
  (u':cX K "_law_busy" xI v1)
  (v2:cX K "_law_case" rF v3)
  (v4:cX K "joined" mK v5)
  (v7:cX K "worth" mV v8)
  (v9:cX K "named" mM v')
  (w0:cX K "begun" oX w1)
  (w2:cX K "deeper" mG w3)
  (w4:cX K "part_of" mP w5)
  (w6:cX K "cut_at" oZ w7)
  (w8:cX K "held_at" mJ w9)
  (w':cX K "worths" iY x1)
  (x2:cX K "deed_at" mE x3)
  (x4:cX K "found_in" hX f9)
  (x5:cX K "end_of" mH x7)
  (x8:cX K "first_of" lh x9)
  (x':cX K "onward" mO y0)
  (y1:cX K "run" FY y2)
  (y3:cX K "whats_at" B0 y4)
  (y5:cX K "whats_in" Ca y')
  (z8:cX K "paths_at" BV z')
  (A1:cX K "deed_in" FQ A2)
  (A3:cX K "goal_at" FR A5)
  (A8:cX K "like_from" xP A9)
  (A':cX K "chain_taken" F8 B1)
  (B2:cX K "again" FL B3)
  (B4:cX K "lender_from" xO B5)
  (B6:cX K "_law_cells" oY B7)
  (B8:cX K "_law_found" FT B9)
  (B':cX K "_law_all_in" BN C')
  (D0:cX K "_law_beside" ut D1)
  (D':cX K "_law_laid" BU E1)
  (E2:cX K "_law_book" ph E3)
  (E4:cX K "_law_dreamt" LS E5)
  (tZ:cX K "law" gi fZ)
  (E6:nsIn K Ψ "NOUGHT"=δ (↑u)) (E7:K.lookup u=δ #[.type "tuple",odN,.seq (ε [.str "num" rN0,.int 0 rN1]) nN,slN]) (E8:nsIn K Ψ "Cutting"=δ (↑o)) (v0:nsIn K Ψ "TOP"=δ (δ$ .int 1000000000000000000 tTop)) (vD:nsIn K Ψ "DEEPEST"=δ (δ$ .int 15 tD)) (vR:nsIn K Ψ "BookRun"=δ (↑C)) (vT:nsIn K Ψ "Turns"=δ (↑d1)) (vL:nsIn K Ψ "AgainRun"=δ (↑c)) (vB:nsIn K Ψ "BookError"=δ (↑xB))
  (E9:nsIn K Ψ "TooLong"=δ (↑x))
  (E':nsIn K Ψ "TooDeep"=δ (↑B))
  (H0:K.lookup x=δ #[ocxL,odxL,.cls cdxL,slxL]) (t1:typeIn K (.ref x)=δ (.type "type")) (mbxL:mroIn K x (.type "BaseException")=δ μ) (k9:gb K (.ref x)=μ)
  (H1:K.lookup B=δ #[ocxD,odxD,.cls cdxD,slxD]) (t2:typeIn K (.ref B)=δ (.type "type")) (mbxD:mroIn K B (.type "BaseException")=δ μ) (k':gb K (.ref B)=μ)
  (H2:K.lookup xB=δ #[ocxB,odxB,.cls cdxB,slxB]) (t0:typeIn K (.ref xB)=δ (.type "type")) (m7:mroIn K xB (.type "BaseException")=δ μ) (d2:mroIn K x (.ref xB)=δ μ) (d3:mroIn K B (.ref xB)=δ μ)
  (e0:excIn K x sK "ValueError.__new__"=μ) (e1:excIn K B sK "ValueError.__new__"=μ)
  (d4:uV K x) (d5:uV K B)
  (rk:RK K C) (H3:Mk K C f0) (tm:uQ K d1 "__init__" f4) (d6:bh K C "take_turn" f1) (d7:bh K C "number_in" f2) (m8:bh K C "chain_of" f') (d8:bh K C "what_of" f5)
  (ra:RK K c) (n6:a9 K c "anew") (H4:Mk K c d') (H5:uQ K C "__init__" f0) (M:bh K c "take_turn" f1) (m9:bh K c "number_in" f2) (m':bh K c "chain_of" f') (a3:bh K c "what_of" f5) (a4:bh K c "chain_along" e2) (e3:bh K c "what_along" H6)
  (ck:CK K o) (mk:Mk K o e4) (e5:bh K o "place_of_body" e6) (H7:bh K o "place_of" H8) (H9:bh K o "place_of_cut" H') (I1:bh K o "ways_of" I2)
  (I3:fe K "__init__" "Cutting.__init__" xN e4)
  (I4:fe K "place_of_body" "Cutting.place_of_body" BQ e6)
  (I5:fe K "place_of" "Cutting.place_of" BW H8)
  (I6:fe K "place_of_cut" "Cutting.place_of_cut" BR H')
  (I7:fe K "ways_of" "Cutting.ways_of" BZ I2)
  (I':fe K "__init__" "Turns.__init__" xV f4)
  (J0:fe K "take_turn" "Turns.take_turn" pi f1)
  (K1:fe K "number_in" "Turns.number_in" xW f2)
  (K3:fe K "__init__" "BookRun.__init__" xH f0)
  (K4:fe K "chain_of" "BookRun.chain_of" BO f')
  (K5:fe K "what_of" "BookRun.what_of" BP f5)
  (K6:fe K "__init__" "AgainRun.__init__" xG d')
  (K7:fe K "chain_along" "AgainRun.chain_along" BL e2)
  (L0:fe K "what_along" "AgainRun.what_along" BM H6)
  (z4:nsIn K Ψ "len"=δ θ)
  (z5:nsIn K Ψ "int"=δ θ)
  (z0:nsIn K Ψ "range"=δ θ)
  (z2:nsIn K Ψ "list"=δ θ)
  (y:nsIn K Ψ "reversed"=δ θ)
  (z1:nsIn K Ψ "tuple"=δ θ)
  (L:nsIn K Ψ "sorted"=δ θ)
  (z6:nsIn K Ψ "set"=δ θ)
  (z7:nsIn K Ψ "zip"=δ θ)
  (z3:nsIn K Ψ "dict"=δ θ)
  (r:nsIn K Ψ "enumerate"=δ θ)
  (p:nsIn K Ψ "isinstance"=δ θ)
  :∃fd:cc,(∀(s:ι) (v:η),BindsTo s fd #[[v],[]] [("_law_script",v)])/\∀base:de,K.In base->base.Ns Ψ mg->ai l.prog w K mg base aH 74 fa fd ["_law_script"] (oe K):=by
 let e:=q3.symm.trans (TZ X G tZ.1);symm;cases e;let⟨L1,A,k0,O⟩:=t3.go X G;let⟨dOw,e7,L3,L5⟩:=t4.go X G;let⟨dUb,e8,kUb,L6⟩:=t5.go X G;let⟨dUo,F3,e9,a5⟩:=t6.go X G;let⟨dUa,e',kUa,L7⟩:=t7.go X G;let⟨dBi,g0,L8,L'⟩:=t8.go X G;let⟨dMc,a',g1,g2⟩:=t9.go X G;let⟨dDe,g4,N0,N1⟩:=t'.go X G;let⟨dPg,F4,g5,g6⟩:=q'.go X G;let⟨dPs,g7,N2,N3⟩:=r0.go X G;let⟨dPm,g8,N4,N5⟩:=r2.go X G;let⟨dMa,g',N6,N7⟩:=r4.go X G;let⟨dBx,h0,N8,N9⟩:=r6.go X G;let⟨dTk,F,k,m⟩:=Ae.go X G;let⟨dNu,Q,k1,m0⟩:=r9.go X G;let⟨dNm,b0,h1,h2⟩:=s0.go X G;let⟨dTm,F5,h3,b7⟩:=s2.go X G;let⟨dPo,h4,N',O'⟩:=s4.go X G;let⟨dSt,h5,kSt,P1⟩:=s6.go X G;let⟨dBo,b8,P4,h6⟩:=s7.go X G;let⟨dAn,h7,Q',R1⟩:=s9.go X G;let⟨dOp,R,k2,m1⟩:=fc.go X G;let⟨dIn,h8,R3,R5⟩:=u1.go X G;let⟨dLo,h',R7,R8⟩:=u3.go X G;let⟨dTi,i0,R9,R'⟩:=u8.go X G;let⟨dBu,i1,S1,S2⟩:=u'.go X G;let⟨dCa,i2,S3,S4⟩:=v2.go X G;let⟨dJo,i3,S5,S6⟩:=v4.go X G;let⟨dWo,S,k7,m2⟩:=v7.go X G;let⟨dNd,b9,i4,i'⟩:=v9.go X G;let⟨dBe,j0,S7,S8⟩:=w0.go X G;let⟨dDp,T,k3,m3⟩:=w2.go X G;let⟨dPf,D,U,V⟩:=w4.go X G;let⟨dCu,Y,k4,m4⟩:=w6.go X G;let⟨dHe,b',j1,j2⟩:=w8.go X G;let⟨dWs,j3,S9,S'⟩:=w'.go X G;let⟨dDa,F0,k5,m5⟩:=x2.go X G;let⟨dFo,F6,j4,j5⟩:=x4.go X G;let⟨dEn,c0,j',l0⟩:=x5.go X G;let⟨dFi,F7,k8,c1⟩:=x8.go X G;let⟨dOn,F1,k6,m6⟩:=x'.go X G;let⟨dRu,l1,T0,T1⟩:=y1.go X G;let⟨dWa,F9,T2,l2⟩:=y3.go X G;let⟨dWi,c2,T9,l3⟩:=y5.go X G;let⟨dPa,l4,T',W0⟩:=z8.go X G;let⟨dDi,c3,l5,l6⟩:=A1.go X G;let⟨dGa,l8,W1,W2⟩:=A3.go X G;let⟨dLk,l9,W3,W4⟩:=A8.go X G;let⟨dKt,l',W5,W6⟩:=A'.go X G;let⟨dAg,n4,W7,W8⟩:=B2.go X G;let⟨dLe,n5,W9,W'⟩:=B4.go X G;let⟨dCe,n7,kCe,mCe⟩:=B6.go X G;let⟨dLf,n',kLf,mLf⟩:=B8.go X G;let⟨dAi,a0,o1,c4⟩:=B'.go X G;let⟨dBs,c5,kBs,o2⟩:=D0.go X G;let⟨dLl,o3,kLl,mLl⟩:=D'.go X G;let⟨dLb,o4,kLb,mLb⟩:=E2.go X G;let⟨dDr,c6,kDr,o5⟩:=E4.go X G;let⟨dmI,o6,kmI⟩:=I3.go;let⟨dmB,c9,kmB⟩:=I4.go;let⟨dmO,o7,kmO⟩:=I5.go;let⟨dmC,o8,kmC⟩:=I6.go;let⟨dmW,o9,kmW⟩:=I7.go;let⟨dTI,a1,kTI⟩:=I'.go;let⟨dTT,E,kTT⟩:=J0.go;let⟨dTN,F2,kTN⟩:=K1.go;let⟨dRI,a2,kRI⟩:=K3.go;let⟨dRC,I,kRC⟩:=K4.go;let⟨dRW,J,kRW⟩:=K5.go;let⟨dAI,o',kAI⟩:=K6.go;let⟨dAL,c',kAL⟩:=K7.go;let⟨dAW,p0,kAW⟩:=L0.go;let⟨ocZ,odZ,kVZ,dcZ,pmZ,anZ,cdZ,ctZ,slZ,lZ,cZ,kZ⟩:=tZ.2;let FZ:=vU (st:=gi) lZ cZ kZ;let d:=RI X G z4;let t:=RI X G z5;let b:=RI X G z0;let n0:=RI X G z2;let g:=RI X G y;let N:=RI X G z1;let a:=RI X G L;let n1:=RI X G z6;let n3:=RI X G z7;let q:=RI X G z3;let f:=RI X G r;let n2:=RI X G p;let p1:oJ K u:=λH=>.inr #[_,_,_,E7,Z,Z,ci,(.cons #[_,Z] (.cons #[_,Z] .nil))];erw[#[tz "law" "law" (bZ gi) (bL gi) (ae gi) .none kVZ dcZ pmZ anZ cdZ ctZ,λs v=>.of_eq Z,λbase _ _=>?_]];generalize l.prog=P;let i:⇑1 r8 _ _ bo:=Br F;let GBx:⇑1 r7 _ _ (rS K):=ER h0 d t;let G1:⇑2 r' _ _ ik:=ua Q #[i,F.b2,k,m];let p2:⇑2 s1 _ _ ij:=wS b0 i F.b2 k m b;let p3:⇑6 s3 _ _ (dB 4):=DE (P:=P) (w:=w) (base:=base) F5 F5.b3 b7 #[i,F.b2,k,m] #[G1,Q.b1,k1,m0] d 4;let GPo:⇑7 s5 _ _ lM:=Bq h4 #[i,F.b2,k,m] #[p3,F5.b3,h3,b7];let SS:=Ld (P:=P) (w:=w) (base:=base) h5 b8 #[i,F.b2,k,m] #[p3,F5.b3,h3,b7] #[GPo,h4.b2,N',O'] h5.b5 P1 b8.b5 h6 d N b;let GBo:⇑21 s8 _ _ (iG 6):=(SS 6).2;let GAn:⇑22 s' _ _ rR:=EM h7 #[i,F.b2,k,m] #[p2,b0.b2,h1,h2] #[GBo,b8.b5,P4,h6] d b N t;let G2:⇑2 u0 _ _ og:=IB R #[i,F.b2,k,m];let GIn:⇑3 u2 _ _ (dQ 2):=wQ h8 #[i,F.b2,k,m] #[G2,R.b3,k2,m1];let GLo:⇑3 u4 _ _ (dQ 1):=tX h' #[i,F.b2,k,m] #[G2,R.b3,k2,m1] t N;let GTi:⇑3 u9 _ _ (dQ 1):=ZB i0 #[i,F.b2,k,m] #[G2,R.b3,k2,m1] t N;let GBu:⇑4 v1 _ _ mY:=Bg i1 #[i,F.b2,k,m] #[G2,R.b3,k2,m1] #[p2,b0.b2,h1,h2] #[GLo,h'.b4,R7,R8] #[GTi,i0.b4,R9,R'] #[GIn,h8.b4,R3,R5];let GCa:⇑23 v3 _ _ mZ:=Bh i2 #[i,F.b2,k,m] #[G1,Q.b1,k1,m0] #[GBu,i1.b1,S1,S2] #[GAn,h7.b3,Q',R1] d N;let NS:=Dm (P:=P) (w:=w) (base:=base) A A.b1 O n1 a;let p4:⇑7 f3 _ _ (dR 6):=NS 6;let GNc:⇑7 f3 _ _ (rY K):=EY (fN:=f3) (fdN:=L1) A #[NS 5,A.b1,k0,O] n1 a;let GOw:⇑1 q4 _ _ oh:=EZ e7;let US:=Lv (P:=P) (w:=w) (base:=base) e' e8 F3 e'.b2 L7 e8.b2 L6 F3.b2 a5 #[GOw,e7.b1,L3,L5] #[p4,A.b1,k0,O] n0 n1 a g;let GUo:⇑31 f6 _ _ (ip 7):=(US 7).2;let GUz:⇑10 f6 _ _ (ip 0):=(US 0).2;let GBi:⇑1 q5 _ _ nX:=EQ g0;let p5:⇑2 q6 _ _ iH:=Bm a' #[GBi,g0.b1,L8,L'] n0;let GDe:⇑1 q7 _ _ lE:=Bi g4;let GPg:⇑8 f7 _ _ io:=wT F4 #[p4,A.b1,k0,O];let GPc:⇑8 f7 _ _ (rZ K):=Fc F4 #[GNc,A.b1,k0,O];let GPs:⇑11 r1 _ _ lK:=Bp g7 #[GUz,F3.b2,e9,a5];let GmB:⇑63 e6 _ _ (oi o 8):=Nf (P:=P) (w:=w) (base:=base) ck c9 o7 o8 o9 c9.b3 e5 o7.b3 H7 o8.b3 H9 o9.b4 I1 #[p5,a'.b1,g1,g2] #[GUo,F3.b2,e9,a5] #[GDe,g4.b1,N0,N1] #[GPg,F4.b1,g5,g6] #[GPs,g7.b2,N2,N3] d N g 8 (Ou _);let GmI:⇑3 e4 _ _ (rV o):=EU o6 ck #[p5,a'.b1,g1,g2];let GPm:⇑64 r3 _ _ (nj K u):=Bo g8 ck mk GmI o6.b2 (TZ X G E8) (TZ X G E6) p1 GmB c9.b3 e5 #[GPc,F4.b1,g5,g6] N g;let GMa:⇑65 r5 _ _ (nh K u):=Bl g' #[GPm,g8.b3,N4,N5] N;let GJo:⇑1 v5 _ _ lH:=tW i3 (TZ X G v0);let G9:⇑7 v8 _ _ (dm K 6):=yV (P:=P) (w:=w) (base:=base) S S.b2 m2 #[GJo,i3.b3,S5,S6] 6;let G3:⇑1 w7 _ _ (lD u):=wN Y;let p6:⇑2 w9 _ _ (lG u):=tV b' #[G3,Y.b2,k4,m4] q n3;let GWs:⇑8 x1 _ _ iq:=ug j3 #[G9,S.b2,k7,m2] N;let G4:⇑9 x3 _ _ (dI u):=tR F0 #[p6,b'.b3,j1,j2] #[G3,Y.b2,k4,m4] #[G9,S.b2,k7,m2] #[GWs,j3.b2,S9,S'];let GFo:⇑1 f9 _ _ gu:=wP F6;let p7:⇑8 x7 _ _ (nZ u):=wO c0 #[G3,Y.b2,k4,m4] #[G9,S.b2,k7,m2] N p1;let G':⇑9 x9 _ _ (eY u):=ZD F7 #[p7,c0.b3,j',l0] q n3;let G5:⇑9 y0 _ _ (ni u):=ue F1 #[G3,Y.b2,k4,m4] #[p6,b'.b3,j1,j2] #[GFo,F6.b1,j4,j5] #[p7,c0.b3,j',l0];let hxL:clsIn K x≠θ:=by
  unfold clsIn;rw[H0];intro z;symm;cases z
 let hxD:clsIn K B≠θ:=by unfold clsIn;rw[H1];intro z;cases z
 let mxL:=TZ X G E9;let mxD:=TZ X G E';let x0:XM K mg "TooLong" x:=#[e0,k9,d4,t1,mxL];let xmD:XM K mg "TooDeep" B:=#[e1,k',d5,t2,mxD];let p8:⇑1 v' _ _ iI:=tY b9;let G0:⇑2 w5 _ _ iI:=uf D #[p8,b9.b2,i4,i'];let GBe:⇑2 w1 _ _ i5:=wK j0 #[p8,b9.b2,i4,i'] d;let G6:ai P w K mg base (dF P w) 1 w3 _ _ (dP B):=tS T (TZ X G vD) xmD;let GTI:⇑1 f4 _ _ (lN C):=rg a1 rk;let GTT:ai P w K mg base (dF P w) 1 f1 _ _ (gq C x):=Ym E rk x0;let GTN:⇑1 f2 _ _ (gw C):=rh F2 rk;let GRI:⇑2 f0 _ _ (iJ C):=rf a2 rk GTI a1.b3 (TZ X G vT) tm;let GRC:=DT (P:=P) (w:=w) (base:=base) rk I I.b4 m8 J J.b3 d8 #[G',F7.b2,k8,c1] #[G4,F0.b3,k5,m5] #[G5,F1.b2,k6,m6] GTT E.b1 d6 GTN F2.b2 d7 (G6) T.b1 k3 m3 #[G0,D.b2,U,V] N 16;let GRu:ai P w K mg base (dF P w) 45 y2 _ _ (sd x B u):=Fd l1 rk H3 GRI a2.b4 (TZ X G vR) #[GBe,j0.b3,S7,S8] GRC I.b4 m8;let GCe:⇑3 B7 _ _ i6:=wM n7 #[i,F.b2,k,m] #[G1,Q.b1,k1,m0] b;let p9:clsIn K xB≠θ:=by unfold clsIn;rw[H2];intro z;cases z
 let p':=TZ X G vB;let GWi:⇑34 y' _ _ (lP 16):=Lz (P:=P) (w:=w) (base:=base) F9 F9.b2 l2 c2 c2.b2 l3 f 16;let GWa:⇑35 y4 _ _ (om 17):=wW (n:=16) F9 #[GWi,c2.b2,T9,l3];let GPa:⇑36 z' _ _ (oj 17):=Fb (n:=16) l4 #[GWa,F9.b2,T2,l2];let q0:⇑1 A2 _ _ mj:=ES c3;let GFz:⇑1 f9 _ _ lF:=tU F6;let GLk:⇑1 A9 _ _ lJ:=Bk l9 d b;let GLe:⇑2 B5 _ _ lI:=Bj n5 #[q0,c3.b1,l5,l6] d b;let GGa:⇑1 A5 _ _ n8:=ET l8 d;let GKt:⇑1 B1 _ _ mq:=Ff l';let GTJ:⇑1 f4 _ _ (lN c):=rg a1 ra;let d0:ai P w K mg base (dF P w) 1 f1 _ _ (gq c x):=Ym E ra x0;let q1:⇑1 f2 _ _ (gw c):=rh F2 ra;let GRJ:⇑2 f0 _ _ (iJ c):=rf a2 ra GTJ a1.b3 (TZ X G vT) tm;let GAI:⇑3 d' _ _ (mX c):=Bf o' ra n6 GRJ a2.b4 (TZ X G vR) H5;let GAC:=DT (P:=P) (w:=w) (base:=base) ra I I.b4 m' J J.b3 a3 #[G',F7.b2,k8,c1] #[G4,F0.b3,k5,m5] #[G5,F1.b2,k6,m6] d0 E.b1 M q1 F2.b2 m9 (G6) T.b1 k3 m3 #[G0,D.b2,U,V] N;let GAW:∀j,ai P w K mg base (dF P w) (2*j+13) f5 _ _ (iK c x B u j):=λj=>wL J ra d0 E.b1 M q1 F2.b2 m9 (G6) T.b1 k3 m3 #[G0,D.b2,U,V] (GAC j) I.b4 m';let GAL:ai P w K mg base (dF P w) 70 e2 _ _ (nW c x B u 16):=M' (P:=P) (w:=w) (base:=base) ra n6 c' c'.b4 a4 p0 p0.b5 e3 GAW J.b3 a3 d0 E.b1 M (G6) T.b1 k3 m3 #[GPa,l4.b2,T',W0] #[G0,D.b2,U,V] #[GGa,l8.b2,W1,W2] #[GLk,l9.b3,W3,W4] #[GLe,n5.b3,W9,W'] #[q0,c3.b1,l5,l6] #[G4,F0.b3,k5,m5] #[G5,F1.b2,k6,m6] #[GKt,l'.b2,W5,W6] #[GFz,F6.b1,j4,j5] d N 16;let GAg:ai P w K mg base (dF P w) 71 B3 _ _ (rQ x B u):=EK n4 ra n6 H4 GAI o'.b4 (TZ X G vL) GAL c'.b4 a4 a;let GLf:⇑1 B9 _ _ n9:=EW n';let q2:⇑18 C' _ _ (gH 17):=Hq (P:=P) (w:=w) (base:=base) a0 a0.b2 c4 f 17;let GBs:⇑36 D1 _ _ (iQ 16):=Hs (P:=P) (w:=w) (base:=base) c5 c5.b5 o2 #[GLf,n'.b1,kLf,mLf] #[q2,a0.b2,o1,c4] f d b t 16;let GLl:⇑37 E1 _ _ rX:=EX o3 #[GBs,c5.b5,kBs,o2] #[q2,a0.b2,o1,c4] a;let GLb:⇑46 E3 _ _ (rW u):=wR o4 (GRu) l1.b5 T0 T1 #[p',p9,t0,m7,d2,d3] q;let GDr:⇑26 E5 _ _ (nY u 17):=Na (P:=P) (w:=w) (base:=base) c6 c6.b5 o5 #[G0,D.b2,U,V] #[G',F7.b2,k8,c1] #[G4,F0.b3,k5,m5] #[G1,Q.b1,k1,m0] #[G5,F1.b2,k6,m6] N 17;rwa[EV FZ #[GBx,h0.b2,N8,N9] #[GCa,i2.b1,S3,S4] #[GMa,g'.b1,N6,N7] #[GCe,n7.b1,kCe,mCe] #[GLb,o4.b4,kLb,mLb] #[GDr,c6.b5,kDr,o5] (GAg) n4.b4 W7 W8 #[GLl,o3.b2,kLl,mLl] #[p',p9,t0,m7,d2,d3] q a]
def MU{l:ro}{Y:bF->de->Prop}{d:DefRec}{K:Params->β}(e:l.most=δ 63)(H:d.params.defaults=[])
  (g:∀(w:bF) (h:de),Y w h->(K w.params).In h)
  (F:∀(w:bF) (mg:ρ->ym η) (b:ζ) (h:de),(K w.params).In h->h.Ns Ψ mg->mg d.name=↑b->
   ∃c:cc,(∀(s:ι) (u:η),BindsTo s c #[[u],[]] [("_law_script",u)])/\∀base:de,(K w.params).In base->base.Ns Ψ mg->ai l.prog w (K w.params) mg base aH 74 b c ["_law_script"] (oe$ K w.params)):
  PySem.W.WalkO q L m Y l.row.toRowW d [] (λf v=>PySem.call f v):=
 _L.CC (n:=63) (k:=74) (x:="_law_script") (CX:=λ_=>aH) (sp:=λw=>oe (K w.params)) e NP H #[Z,NP,NP] g F (λ_ _ a N i _ j=>#[a,N,Z,j,i,λ_=>Z]) λ_ _ _ _ _ z=>z
end _K
local macro_rules|`(command|#print $s:str)=>do{let mut l:=Array.mkEmpty 0;let mut n:=0;let mut k:=0;for c in s.getString.toList do{let a:=c.toNat;n:=n*62+(if a<58 then a-48 else if a<91 then a-55 else a-61);k:=k+1;if k%11==0 then{l:=l.push (Lean.mkIdent (.mkSimple s!"tw{n}"));n:=0}};let f:=Lean.mkIdent `PySem.W.Fast;`(command|structure $f:ident:Prop where ($l* :True))}
#print "H3l3uAFIlzt3nLJv555BgHABxr44kvPJB9CKcyfIjxqu4GQO2eZzaChEWM3htJOkugGssMOCIn06QAEXdIdhZaCE50moiRwukQyKHJAJdcN7XsB5xVXP0t1QcEFQOXhHUMNNBzRStSKBruOLBqh84iSUq2DdAKUTx48MuALTtQTCfMJpHADIkJzqXgUI8eNfblbZYIG53YFtWZMqO7jHQoEJPxyaDtbmywJRYe0GN4HFVJKWsV3VulJenOvup8C4mHqipH6dJ2ZjR1PbSDbJMBeAMciYYXEa4awxoZG5Y4yf1aKALWCW4qCyOMFGAoR0LcmEjty8k901qgHWfdDfs0jmuLRlB5P1EMeasnhKZ1iCcLCE101OQRB7UBy61gLlJ9y1LFzoN5K7DqSgvx7grQo8bvksDy8R0V1ekPm9pio9gIaqMwgjl7V1EHBMlenNKCvBXLSP1qOnuyIomOIsRzKuSH1gCBUL6P65H7lvleIflJwCxbeKYOugGO75XH7yL8p4sGEchvNNGVtVFAGHbKfEbGv9PmEtVyJ6C9BTrF9jMuHQu9V3WxLz1UM1BjzxxdwqEjeBvZCEGPfDxE7CXO2Zgm4vs9BwWNPe6TLj31vc6dvuDki4Y59Z2AOoBz4h2xsfWgj9fLg90cJi8orYFMDi5ea0AwOJciW7rfUeybLuGLN4hqVCHII3vJEuTmUaFOYVcOosp9eFEQX0Ma8nWG1qDtvXXl8VlDC3hMcKAyJa3HR2tcQ7LVXKbNi8dXorrfF6VcHvOIUfCFILFclDiZQOCsMkyu52RCW24rF5lqW0zM3Pif4iQ5HH03qJ9kE9DMGl19XGtkp0ZlKELMNZvS1NUl9P7BV0cxzop3nYFtKW4ALj8ay5v7E648EBFShobbvLmx2oG8RBpFKCN89jjRJmu20o7cpIPOlFIk84AmoUns0Ktt03mCH1FatupEvnmpsjqCTf2GrghYPdjPcGROko9ke6VBBgFPNkA98al8LzJLuHvjbFLNVWWkU2xT2KDQC2RDbCSN90eKjxduwWSAohGzfrCx8M2uHsqG9Rehu4LCNrhRPm8YLUAkIA9xNp8LHd5YPqS4AIAmwM3ImfSMb7OcjDDMdBYw1RphUhkbd5X60EJTCLuels7tzd6o6ZiIECO1OekF9mhT53lRHAuouW57P4f4dJtfDi2NJ6NlSFLMKIkp7f3vTdWe2Pp7d5vMlSvI8Wf4jNkwel4NDO7ePi6zfLBgLJi3yLd88CnyUc671l8BgPEwkQDFfu7v2T6w8b7mNKYXloIl0hvzFoO4UdtAWLW4eEW4Rr2j9h9zCr9py6EAF9pcQtzKkkAl1aPqtiRKdC6GmKuzmyCBLiFSaaHxQT1P0KKosgw3seC54zn1XGqmE52EG9CTiJP6ZZGmsYLUWeKXDJMAFENpiqEl32aK13z9fghCb0rVNMJVfK4An8ajlxLvd0DUdSEN0Fgn5Mzna5nu0AMKc7qheDo9Y3GF9r0X9iLF8JHxxrXHLYzM7TE6zrnVDvm1L6F9rTzcEv6vBzWl3jH8X1GjPjz8hgnrGf5PaM5LEpE8osJIjtog0B4656IbO6pkqGqEnspkAgOt7AcQhSxjfbXBZmSYwYZ0C9CwB76T2w6Ld6FWJRjDhcjRBjHX9pcjcwOINWc3YFDcC32gbx4GCI8N1Fw01Kipd3KSIQmSZqzekEULd2HE9DVvXdGPfhjDC6gmO7MVMIzu5nh6KxRDEIadurH4UWzbk8drPRBnVwBImPNoe5L5iuBHliUG4G4I8MNeS3T08vNhNChAyGL8PPGrwoWfZKh0FrsPG8HY7kJpnXUW416BxGZgAGinpM4kItuFJJKGGDeCBDyuMiKfHCoRUpfFcnr0xGoSgNeBrW0Wa2UjuKtXA3SdfvPvjDyC7CNI9JcT4OQCQoRmib8WfMGLXEQXJ3WWp6dDuvgg7t6QIL6Dr522NBB53YRB1eyIO6LBeKw3dHF6vDoUNvp7bM0pHsjxzTfHBFQ80G0S3uqMn9Lt7KPIX3gvF0Zzdv1U98G8B3tqPHXfk4082zgN8l9EWx9daMbhYqnfs6Y2LVo3YB2I7fUkg7mfQ43FogCMsORlGl1YYtq5of93l6kHr6e5mwRa5dgg9GuoBSZ1iPNDhrES1u4mtUyY7QL7JACEf457yzk7DRs3PQ4n6iC6Ba1USb7I0B32wjfT8oYDE8YNgnF2XcJwEVXlQ7KocSV9WgxkwuHyBgHvLdzZVS8QD7uYfUmOrEV5CwXgjSyf1WxGO7Cksie2wPJPUCioKyI1Q8puUDurUooDAv8F8BDtxFaBLSHFTrWQXb26WpKXZfTbMHy9PaHdoaAtIhnimQJIjswJqgvu5GDyEXJWqakndIgvw3RE7R8sQteqABekJGNp8FI1MJtzgQOth0BE6JqJpDqFSLCpGZktr0UI9xZyAHDCPg44rJ4uGwQ3gUGUUjCuDkAaiDCB3tARplyZEBP4TAPwcl2I8FEGr63q8M9Qi5BcQZ3RmLoQ0x8rikGXIxSSuaa9Wsw8bGdZAENcPm53HcnYddbjpE28geKrdbfJ6b3qXgPX99B7Bt3VjXifmsHLLIYrYj8eMJxFbEg5XTSv5bKVsE39J99J0KZHYJPW1U40pEb9s574ULhVxIQPbVoiGYN9WsI2vFJHOWimAUs7ES5sYg7widwPHDBXHbviZute4Gtj7ZhHEcQ4U6eUgricERCD441iG2ja09uG8uOODRd147gGPxqBEEa8uF8DKObuqQASg29zHqCX09ceFVeNadzv3uWV5SirJpxDZzaARdejvP2enocvZvtAQLJ2ZcA2KeIaH6jNN39yhKi6njWDzkwMJRDwS3PXoTQvKDfkjMhmQFvC53SBF9oxV7kGHRX6Oogxep0HkNqtu9S239qPQGEfEyqIJPEen6CGOWO8bS9rKFmsBY8IzV9nmV5roEEzcoFa5AsaI2jA8huxDjSHdK8ezAV6OIIMSGIxUNdydDONRaYeaJ2ZBqEhZ0eWMhBC9IHHhti1Cd7s7Tkom4DDM3B6DjpYPjjT4Bh8O5fWHEpGcGE8796ud02W3ksTcFQE8D3obsrr4bpFBXZl3hokohUFfQWkYYQqkW6Iyd6mJh4SK0TS8QAXiFKOKjD6JL7ymi556452g2e96u5mMo1k7yP1xIgTgBi9xY73GskJly6b0Bw5XNyoFkLaXS33x8nOMueDu0d26OAZJI4VJ7Z2fa77MUhD1zGq7ber29BFKzK9rR8vE02QbcwkE5Ww2qeGCr3u8Hi2S2quycdYkF3iH0wG97tP88hCH5kmaeueAzaW4FAn3XeFeqiZqIMsJRJbFTScubcmO3wsbrfRC65tGdPN4xvSLaX4J8nvAbtO9hFuDGZw97TPL73LCrYMbv541EodHnJcubNGjMHm5OC9TB0ZblAhlE4Nw8KbFtgctoBR0TgH1u7cwp81KASrrbfSdX14jDZSSRTuCLRmjDwELbnd8vgvV1eNBP1C5QO9lScIUe7wEL1lVrhmF2oNk4sz0QGRFjamRom1E2C0QYdkcauVOOD3JQ6IwbVC4KRJ8OEcqdQi8Yq2LeqT2vEHQ4knbx0X4WGUmEZxJHbAgL2XkYD9rVdoEaxQz9kGgABCP4hSdbrI0E9RP0qjSLJFi0276XTSWzrR3eb467408RgHb8StwBw5FBByZUaJazrW37aWOW2bScfEAdwZrVNh7UlD9C8pW5PsD5BqYAexvR2pJE73MORL3iIZ7ynwyo68DuT006I5uvNgFG90PxaP7Vfr0BtfdeWsDxs8J5NVHg55Zdx0IrGDsgl4wY3XJzGK8vsSm2SGjCxY8gSdCUXMocpsmqOJO7xCrTaBBz5c3deYkd43jKUkEuBwXoh4I7TOXiThUkBE4eZYDrRteUFte0rJeDErqAbrgdXMJGLe2iAE5oEX2QaKVLZ0HNVgFv2jYhJjUqGVLFCGHdVWbN2FKk4QseZyn0r8YmHlkCO3CVExxfsll8V1eINvTFfjM54pAu9yg28BRjE0YB1nNGJ8H8BlpjBNEf53PFPVobue8HZN5in0DxxVTAh8VoE7Q2QFL2LqlfW7p8Gk1272tEaqUG2QFYcKXtOCNAi6VWGxivK2p4GNd2lXxp7gn4qOgRmS9JyVLiuUeGMNHHhETc79bR6Q6z5046eleqmMYIU3RnS7OxumByzgHwxypUUJMgPuPCjm8QA3X54Noubww5g0GbI8VCW0GD6WL28Jx1W7RmWpNkrAzD4VEs9zfnXy9F8HM6JYMWwkKONPyJY9rVs1y9mTVztlb09EEof68sxumIxGZGttb053KFI8DCdAdTE6R4WLiSzOlhCWnV94N9ICk3RyDddSQnwO1CXhDlTgy1mGoPOtUK0TxVBmFOXtFacgqKJdwGnAleimAXmxAG9VfJ3CO6xnHr537g2FP9DdIBbtGJ8WZDGL5ixi920CcRcF9xZGSebGjbJUw2Ft3FRA4Dpoz9HBKi38Dvy57tB8fZLNIvr66jEGwL19laHDZpYdgT3OZGhmhZ9l6Z4UKUyez5sDui1HANOYU9dZXpFEexjTzwTcb8LtTkYl5URcBiXj9OsRWJYJLQkpH6z0bwGZQAg95vYGN"
open PySem PySem.W PyProof.Rows PySem.W.X
def _K.Lw {q : ψ} {loose : xL PySem.Str} {XP : (PySem.Str → ym η) → de → Prop} {K : Params → β} {as : xL ζ} {n t : Nat} {r : RowW} {d : DefRec} {kwd : xL (PySem.Str × PySem.Expr)} {run : η → xL η → Sem η}
    (e : ∀ P, as = (K P).map (·.1)) (h : WalkO q loose XP (InK K) r d kwd run) : WalkX q loose XP (obsZ as) (valZ K n t) r d kwd run :=
  fun w s₀ s₁ mg mb G Y a o pm cd doc dV kV h1 h2 h3 h4 h5 h6 args vals as' L => h w s₀ s₁ mg mb G (InK.keeps w _ _ (z_facts e Y).2.1 L.keeps) a o pm cd doc dV kV h1 h2 h3 h4 h5 h6 args vals as'
set_option maxRecDepth 100000 in
set_option maxHeartbeats 0 in
theorem PySem.Challenge.cw_againbook_k41_from_a_book_of_no_cells_holds : PySem.Challenge.rw_againbook_k41_from_a_book_of_no_cells.Holds := by
  w_on; o_law; z_head; (case hw => w_witness2)
  erw[_K.Lw (fun _ => by rfl)$ _K.MU (l := PySem.Challenge.rw_againbook_k41_from_a_book_of_no_cells) rfl rfl (fun w h Y => Y) ?F]
  case F =>
    intro w mg fa h KX G hmg
    apply _K.DQ KX G hmg
    iterate 59 (apply _K.MS;iterate 4 k_is)
    iterate 24 k_is
    iterate 2 k_exc
    iterate 2 (constructor<;>k_is)
    erw[⟨⟨?_,?_,?_,?_⟩,?_,?_,?_,?_,?_⟩];iterate 4 k_is
    iterate 5 (unfold _L.a9;k_is)
    iterate 2 (constructor;iterate 4 k_is)
    iterate 4 (constructor;iterate 3 k_is)
    erw[⟨⟨?_,?_,?_,?_⟩,?_,?_,?_,?_,?_⟩];iterate 4 k_is
    iterate 5 (unfold _L.a9;k_is)
    unfold _L.a9;k_is
    iterate 2 (constructor;iterate 4 k_is)
    iterate 6 (constructor;iterate 3 k_is)
    erw[⟨⟨?_,?_,?_,?_⟩,?_,?_⟩];iterate 4 k_is
    iterate 2 (unfold _L.a9;k_is)
    constructor;iterate 4 k_is
    iterate 4 (constructor;iterate 3 k_is)
    iterate 14 (apply _K.Nb;iterate 3 k_is)
    iterate 12 k_is
